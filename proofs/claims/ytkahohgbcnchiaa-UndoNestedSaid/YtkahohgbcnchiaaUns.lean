/- Stage 14: two lists of one log; one; one without a log; the question that each law asks first. No condition but sizes. -/
import Derived.Test.YtkahohgbcnchiaaUnq
namespace Go.Proofs.Ytkahohgbcnchiaa
open Go.RowKit Wm

abbrev lgU (g : Nat) : Option Addr := some ⟨g, 0, none⟩
/-- Two lists of one log. -/
def N2 (g pl pk : Nat) (st : StU) : Asr := star (objA (ListO (lgU g)) pl st.1) (objA (ListO (lgU g)) pk st.2)
theorem isAsr_N2 (g pl pk : Nat) (st : StU) : IsAsr (N2 g pl pk st) := (isAsr_list _ _ _).star (isAsr_list _ _ _)
def N1 (g pl : Nat) (xs : List Int) : Asr := objA (ListO (lgU g)) pl xs
theorem isAsr_N1 (g pl : Nat) (xs : List Int) : IsAsr (N1 g pl xs) := isAsr_list _ _ _
section
variable {w W : World} {R : Asr} {g pl pk p : Nat} {st : StU} {past : List StU} {xs : List Int} {pst : List (List Int)}
def ptrU (sec : Bool) (pl pk : Nat) : Value := .pointer (some ⟨cond sec pk pl, 0, none⟩)
theorem desk2_add (L : IsAsr R) (h : Held w W (star (deskA g (N2 g pl pk) (st :: past)) R)) (sec : Bool) (x : Int) (hx : (selU sec st).length ≤ 100000) (hs : past.length < 100000) :
    Calls Try.prog 19 #[ptrU sec pl pk, .int .i64 x] W fun e w2 => e = .returned (.int .i64 (((selU sec st).length : Nat) : Int)) ∧ Held w w2 (star (deskA g (N2 g pl pk) (addU sec st x :: st :: past)) R) := by
  cases sec with
  | false => exact desk_add (Rs := objA (ListO (lgU g)) pk st.2) (isAsr_N2 g pl pk) L (isAsr_list _ _ _) x hx hs (fun _ _ x => x) (fun _ _ x => x) (fun _ _ x => x) (fun _ _ x => x) h
  | true => exact desk_add (Rs := objA (ListO (lgU g)) pl st.1) (isAsr_N2 g pl pk) L (isAsr_list _ _ _) x hx hs (fun _ _ x => star_swap x) (fun _ _ x => star_swap x) (fun _ _ x => star_swap x) (fun _ _ x => star_swap x) h
theorem hasU_nat {s : List Int} {i : Int} (h : hasU s i = true) : ∃ n : Nat, i = (n : Int) ∧ n < s.length := by
  have h2 := of_decide_eq_true h
  obtain ⟨n, rfl⟩ := Int.eq_ofNat_of_zero_le h2.1
  exact ⟨n, rfl, by omega⟩
theorem desk2_set (L : IsAsr R) (h : Held w W (star (deskA g (N2 g pl pk) (st :: past)) R)) (sec : Bool) (i x : Int) (hi : hasU (selU sec st) i = true) (hs : past.length < 100000) :
    Calls Try.prog 20 #[ptrU sec pl pk, .int .i64 i, .int .i64 x] W fun e w2 => e = .returned (.bool true) ∧ Held w w2 (star (deskA g (N2 g pl pk) (setU sec st i.toNat x :: st :: past)) R) := by
  obtain ⟨n, rfl, hn⟩ := hasU_nat hi
  rw [Int.toNat_natCast]
  cases sec with
  | false => exact desk_set (Rs := objA (ListO (lgU g)) pk st.2) (isAsr_N2 g pl pk) L (isAsr_list _ _ _) hn x hs (fun _ _ x => x) (fun _ _ x => x) (fun _ _ x => x) (fun _ _ x => x) h
  | true => exact desk_set (Rs := objA (ListO (lgU g)) pl st.1) (isAsr_N2 g pl pk) L (isAsr_list _ _ _) hn x hs (fun _ _ x => star_swap x) (fun _ _ x => star_swap x) (fun _ _ x => star_swap x) (fun _ _ x => star_swap x) h
theorem Held.desk2List (h : Held w W (star (deskA g (N2 g pl pk) (st :: past)) R)) (sec : Bool) : ∃ v, ListV (lgU g) W (cond sec pk pl) v (selU sec st) := by
  cases sec with
  | false => exact h.deskList (Rs := objA (ListO (lgU g)) pk st.2) (fun _ _ x => x)
  | true => exact h.deskList (Rs := objA (ListO (lgU g)) pl st.1) (fun _ _ x => star_swap x)
theorem desk2_set_out (L : IsAsr R) (h : Held w W (star (deskA g (N2 g pl pk) (st :: past)) R)) (sec : Bool) (i x : Int) (hi : hasU (selU sec st) i = false) :
    Calls Try.prog 20 #[ptrU sec pl pk, .int .i64 i, .int .i64 x] W fun e w2 => e = .returned (.bool false) ∧ Held w w2 (star (deskA g (N2 g pl pk) (st :: past)) R) := by
  obtain ⟨v, hv⟩ := h.desk2List sec
  exact (uSet_out hv i hi x).mono (fun _ _ ⟨a, b⟩ => ⟨a, h.later ((isAsr_desk (isAsr_N2 g pl pk) _ _).star L) b⟩)
/-- One list. -/
theorem desk1_add (L : IsAsr R) (h : Held w W (star (deskA g (N1 g pl) (xs :: pst)) R)) (x : Int) (hx : xs.length ≤ 100000) (hs : pst.length < 100000) :
    Calls Try.prog 19 #[.pointer (some ⟨pl, 0, none⟩), .int .i64 x] W fun e w2 => e = .returned (.int .i64 ((xs.length : Nat) : Int)) ∧ Held w w2 (star (deskA g (N1 g pl) ((xs ++ [x]) :: xs :: pst)) R) :=
  desk_add (Rs := nilA) (isAsr_N1 g pl) L isAsr_nil x hx hs (fun _ _ x => star_nil' x) (fun _ _ x => star_nil x) (fun _ _ x => star_nil x) (fun _ _ x => star_nil' x) h
theorem desk1_set (L : IsAsr R) (h : Held w W (star (deskA g (N1 g pl) (xs :: pst)) R)) (i x : Int) (hi : hasU xs i = true) (hs : pst.length < 100000) :
    Calls Try.prog 20 #[.pointer (some ⟨pl, 0, none⟩), .int .i64 i, .int .i64 x] W fun e w2 => e = .returned (.bool true) ∧ Held w w2 (star (deskA g (N1 g pl) (xs.set i.toNat x :: xs :: pst)) R) := by
  obtain ⟨n, rfl, hn⟩ := hasU_nat hi
  rw [Int.toNat_natCast]
  exact desk_set (Rs := nilA) (isAsr_N1 g pl) L isAsr_nil hn x hs (fun _ _ x => star_nil' x) (fun _ _ x => star_nil x) (fun _ _ x => star_nil x) (fun _ _ x => star_nil' x) h
theorem Held.desk1List (h : Held w W (star (deskA g (N1 g pl) (xs :: pst)) R)) : ∃ v, ListV (lgU g) W pl v xs := h.deskList (Rs := nilA) (fun _ _ x => star_nil' x)
theorem desk1_set_out (L : IsAsr R) (h : Held w W (star (deskA g (N1 g pl) (xs :: pst)) R)) (i x : Int) (hi : hasU xs i = false) :
    Calls Try.prog 20 #[.pointer (some ⟨pl, 0, none⟩), .int .i64 i, .int .i64 x] W fun e w2 => e = .returned (.bool false) ∧ Held w w2 (star (deskA g (N1 g pl) (xs :: pst)) R) := by
  obtain ⟨v, hv⟩ := h.desk1List
  exact (uSet_out hv i hi x).mono (fun _ _ ⟨a, b⟩ => ⟨a, h.later ((isAsr_desk (isAsr_N1 g pl) _ _).star L) b⟩)
/-- A list without a log. -/
theorem free_add (L : IsAsr R) (h : Held w W (star (objA (ListO none) p xs) R)) (x : Int) (hx : xs.length ≤ 100000) :
    Calls Try.prog 19 #[.pointer (some ⟨p, 0, none⟩), .int .i64 x] W fun e w2 => e = .returned (.int .i64 ((xs.length : Nat) : Int)) ∧ Held w w2 (star (objA (ListO none) p (xs ++ [x])) R) :=
  (uAdd_held (T := fun B0 _ => star (boxA B0 [.pointer (some ⟨p, 0, none⟩)]) (star (objA (ListO none) p (xs ++ [x])) R)) L none h hx x (fun wx B0 B1 hw => (uKeep_nil _ wx).mono (fun _ _ ⟨a, b⟩ => ⟨a, by rw [← b]; exact hw⟩))).mono
    (fun _ _ ⟨a, _, _, b⟩ => ⟨a, b.rest.rest⟩)
theorem free_set (L : IsAsr R) (h : Held w W (star (objA (ListO none) p xs) R)) (i x : Int) (hi : hasU xs i = true) :
    Calls Try.prog 20 #[.pointer (some ⟨p, 0, none⟩), .int .i64 i, .int .i64 x] W fun e w2 => e = .returned (.bool true) ∧ Held w w2 (star (objA (ListO none) p (xs.set i.toNat x)) R) := by
  obtain ⟨n, rfl, hn⟩ := hasU_nat hi
  rw [Int.toNat_natCast]
  exact (uSet_held (T := fun B0 B1 B2 => star (boxA B2 [.int .i64 xs[n]]) (star (boxA B1 [.int .i64 (n : Int)]) (star (boxA B0 [.pointer (some ⟨p, 0, none⟩)]) (star (objA (ListO none) p (xs.set n x)) R)))) L none h hn x (fun wx B0 B1 B2 hw => (uKeep_nil _ wx).mono (fun _ _ ⟨a, b⟩ => ⟨a, by rw [← b]; exact hw⟩))).mono
    (fun _ _ ⟨a, _, _, _, b⟩ => ⟨a, b.rest.rest.rest⟩)
theorem Held.freeList {lg : Option Addr} (h : Held w W (star (objA (ListO lg) p xs) R)) : ∃ v, ListV lg W p v xs := by
  obtain ⟨F, v, hv, -⟩ := h.head
  exact ⟨v, hv⟩
theorem free_set_out (L : IsAsr R) (h : Held w W (star (objA (ListO none) p xs) R)) (i x : Int) (hi : hasU xs i = false) :
    Calls Try.prog 20 #[.pointer (some ⟨p, 0, none⟩), .int .i64 i, .int .i64 x] W fun e w2 => e = .returned (.bool false) ∧ Held w w2 (star (objA (ListO none) p xs) R) := by
  obtain ⟨v, hv⟩ := h.freeList
  exact (uSet_out hv i hi x).mono (fun _ _ ⟨a, b⟩ => ⟨a, h.later ((isAsr_list _ _ _).star L) b⟩)
/-- A new log, a new list. -/
theorem Held.newLog (L : IsAsr R) (h : Held w W R) : Held w (W.alloc (.cells #[.slice none 0 0] 27)) (star (logA W.heap.size []) R) :=
  h.obj (cs := [.slice none 0 0]) L (SlO.new Bk.cells 1 1 [] W 27)
theorem Held.newList (L : IsAsr R) (lg : Option Addr) (h : Held w W R) : Held w (W.alloc (.cells #[.pointer lg, .slice none 0 0] 55)) (star (objA (ListO lg) W.heap.size []) R) :=
  h.obj (cs := [.pointer lg, .slice none 0 0]) L (SlO.new csI 3 1 [.pointer lg] W 55)
theorem Held.startDesk {σ : Type} {N : σ → Asr} {s : σ} (h : Held w W (star (logA g []) (star (N s) R))) : Held w W (star (deskA g N [s]) R) :=
  Held.shutDesk (es := []) trivial rfl (h.under (fun F _ x => ⟨fun _ => False, F, fun _ x => x, x, fun _ x => x.elim, fun _ => ⟨.inr, fun x => x.elim False.elim id⟩⟩))
set_option maxRecDepth 100000 in
set_option maxHeartbeats 1000000 in
theorem undoAlive_any (w : World) : Calls Try.prog 7 #[] w fun e w' => e = .returned (.bool true) ∧ Below w.heap.size w w' := by
  have h0 := (Held.start w).newLog isAsr_nil
  replace h0 := Lib.hid h0
  go_enter Try.func7, Try.ntmps7
  go_wp2_with fail
  replace h0 := h0.out
  generalize w.alloc (.cells #[.slice none 0 0] 27) = wa at *
  generalize w.heap.size = g at *
  refine (uOf_any (lgU g) wa).mono ?_
  rintro e wb ⟨rfl, rfl⟩
  have h1 := ((h0.newList ((isAsr_log _ _).star isAsr_nil) (lgU g)).pull).startDesk (N := N1 g wa.heap.size)
  generalize wa.alloc (.cells #[.pointer (lgU g), .slice none 0 0] 55) = wb at *
  generalize wa.heap.size = pl at *
  have k1 := Lib.hid (desk1_add isAsr_nil h1 1 (by decide) (by decide))
  clear h0 h1
  go_wp2_with fail
  refine k1.out.mono ?_
  rintro e w1 ⟨rfl, h2⟩
  have k2 := Lib.hid (desk_mark h2)
  have k3 := Lib.hid (desk1_add isAsr_nil h2 2 (by decide) (by decide))
  clear k1 h2
  go_wp2_with fail
  refine k2.out.mono ?_
  rintro e w2 ⟨rfl, rfl⟩
  clear k2
  go_wp2_with fail
  refine k3.out.mono ?_
  rintro e w3 ⟨rfl, h3⟩
  have k4 := Lib.hid (desk1_set isAsr_nil h3 0 3 (by decide) (by decide))
  clear k3 h3
  go_wp2_with fail
  refine k4.out.mono ?_
  rintro e w4 ⟨rfl, h4⟩
  have k5 : Calls Try.prog 17 #[.pointer (some ⟨g, 0, none⟩), .int .i64 1] w4 fun e w2 => e = .returned (.tuple #[]) ∧ Held w w2 (star (deskA g (N1 g pl) [[1], []]) nilA) := desk_back (isAsr_N1 g pl) isAsr_nil (by decide) 1 h4
  replace k5 := Lib.hid k5
  clear k4 h4
  go_wp2_with fail
  refine k5.out.mono ?_
  rintro e w5 ⟨rfl, h5⟩
  obtain ⟨v, hv⟩ := h5.desk1List
  have k6 : Calls Try.prog 13 #[.pointer (some ⟨pl, 0, none⟩), .int .i64 0] w5 fun e W' => e = .returned (.tuple #[.int .i64 1, .bool true]) ∧ w5 = W' := uAt_any hv 0
  have k7 : Calls Try.prog 16 #[.pointer (some ⟨pl, 0, none⟩)] w5 fun e W' => e = .returned (.int .i64 1) ∧ w5 = W' := uLen_any hv
  replace k6 := Lib.hid k6
  replace k7 := Lib.hid k7
  have hb := Lib.hid h5.below
  clear k5 h5 hv
  go_wp2_with fail
  refine k6.out.mono ?_
  rintro e w6 ⟨rfl, rfl⟩
  clear k6
  go_wp2_with fail
  refine k7.out.mono ?_
  rintro e w7 ⟨rfl, rfl⟩
  clear k7
  go_wp2
  go_ret
  exact ⟨rfl, hb.out⟩
end
end Go.Proofs.Ytkahohgbcnchiaa
