/- The landed disk: its small calls. No condition but sizes. -/
/- The landed disk: a read. No condition but sizes. -/
import Derived.Test.YtgolddcmhjdmdaaZDa
import Derived.Laws.IdiomStrings
namespace Go.Proofs.Ytgolddcmhjdmdaa
open Go.RowKit

def hasB (n : Nat) (i : Int) : Bool := decide (0 ≤ i) && decide (i < (n : Int))
section
variable {W : World} {p a b n : Nat} {v : Value} {safe now : List ByteArray} {later : List (Nat × ByteArray)} {armed ops : Int}
set_option maxRecDepth 100000 in
theorem has_any (h : DkV W p a b v n safe now later armed ops) (i : Int) : Calls Try.prog 38 #[.pointer (some ⟨p, 0, none⟩), .int .i64 i] W fun e W' => e = .returned (.bool (hasB n i)) ∧ W = W' := by
  have c1 := h.c1
  have hlt := h.lt
  clear h
  by_cases h0 : 0 ≤ i
  · have hb : decide (i < (n : Int)) = hasB n i := by unfold hasB; rw [decide_eq_true h0]; rfl
    go_enter Try.func38, Try.ntmps38
    go_wp2
    go_ret
    exact ⟨by rw [← hb]; rfl, rfl⟩
  · have hb := Lib.hid (show hasB n i = false by unfold hasB; rw [decide_eq_false h0]; rfl)
    go_enter Try.func38, Try.ntmps38
    go_wp2
    go_ret
    exact ⟨by rw [hb.out]; rfl, rfl⟩
set_option maxRecDepth 100000 in
theorem sectors_any (h : DkV W p a b v n safe now later armed ops) : Calls Try.prog 42 #[.pointer (some ⟨p, 0, none⟩)] W fun e W' => e = .returned (.int .i64 (n : Int)) ∧ W = W' := by
  have c1 := h.c1
  have hlt := h.lt
  clear h
  go_enter Try.func42, Try.ntmps42
  go_wp2
  go_ret
  exact ⟨rfl, rfl⟩
set_option maxRecDepth 100000 in
theorem armD_any (h : DkV W p a b v n safe now later armed ops) (k : Int) : Calls Try.prog 18 #[.pointer (some ⟨p, 0, none⟩), .int .i64 k] W fun e W' => e = .returned (.tuple #[]) ∧ W' = W.setCell ⟨p, 3, none⟩ (.int .i64 (max k 0)) := by
  have c3 := h.c3
  have f3 := h.fz 3
  have hlt := h.lt
  have hm : max 0 k = max k 0 := by omega
  clear h
  go_enter Try.func18, Try.ntmps18
  go_wp2
  go_end0
  exact ⟨rfl, by rw [← hm]⟩
/-- An operation is tried: armed is the nearest number from 0 of what the document's machine bears. -/
def triedW (W : World) (p : Nat) (armed ops : Int) : World :=
  if armed = 0 then W.setCell ⟨p, 4, none⟩ (.int .i64 (ops + 1)) else (W.setCell ⟨p, 4, none⟩ (.int .i64 (ops + 1))).setCell ⟨p, 3, none⟩ (.int .i64 (armed - 1))
set_option maxRecDepth 100000 in
theorem tried_any (h : DkV W p a b v n safe now later armed ops) (ho : 0 ≤ ops ∧ ops ≤ 1000000) (ha : 0 ≤ armed ∧ armed ≤ 9223372036854775807) :
    Calls Try.prog 45 #[.pointer (some ⟨p, 0, none⟩)] W fun e W' => e = .returned (.bool (decide (armed ≠ 1))) ∧ W' = triedW W p armed ops := by
  have c3 := h.c3
  have c4 := h.c4
  have f3 := h.fz 3
  have f4 := h.fz 4
  have hlt := h.lt
  clear h
  by_cases h0 : armed = 0
  · subst h0
    have hw := Lib.hid (show triedW W p 0 ops = W.setCell ⟨p, 4, none⟩ (.int .i64 (ops + 1)) by unfold triedW; rw [if_pos rfl])
    have hb := Lib.hid (show decide ((0 : Int) ≠ 1) = true by decide)
    go_enter Try.func45, Try.ntmps45
    go_wp2
    go_ret
    exact ⟨by rw [hb.out]; rfl, by rw [hw.out]⟩
  · have hw := Lib.hid (show triedW W p armed ops = (W.setCell ⟨p, 4, none⟩ (.int .i64 (ops + 1))).setCell ⟨p, 3, none⟩ (.int .i64 (armed - 1)) by unfold triedW; rw [if_neg h0])
    have h1 : (armed == 0) = false := beq_eq_false_iff_ne.mpr h0
    have hb := Lib.hid (show decide (0 < armed - 1) = decide (armed ≠ 1) by
      by_cases e : armed = 1
      · rw [decide_eq_false (by omega), decide_eq_false (by omega)]
      · rw [decide_eq_true (by omega), decide_eq_true e])
    replace h0 := Lib.hid h0
    go_enter Try.func45, Try.ntmps45
    go_wp2
    go_ret
    exact ⟨by rw [← hb.out]; first | rfl | simp, by rw [hw.out]⟩
/-- What is known behind it. -/
def TriedPost (W : World) (p a b : Nat) (v : Value) (n : Nat) (safe now : List ByteArray) (later : List (Nat × ByteArray)) (armed ops : Int) (W' : World) : Prop :=
  DkV W' p a b v n safe now later (max (armed - 1) 0) (ops + 1) ∧ Only (fun k => k = p) W W'
theorem tried_post (h : DkV W p a b v n safe now later armed ops) (ho : 0 ≤ ops ∧ ops ≤ 1000000) (ha : 0 ≤ armed ∧ armed ≤ 9223372036854775807) :
    Calls Try.prog 45 #[.pointer (some ⟨p, 0, none⟩)] W fun e W' => e = .returned (.bool (decide (armed ≠ 1))) ∧ TriedPost W p a b v n safe now later armed ops W' := by
  refine (tried_any h ho ha).mono ?_
  rintro e W' ⟨rfl, rfl⟩
  refine ⟨rfl, ?_, ?_⟩
  · unfold triedW
    split
    · rename_i e
      subst e
      exact h.put4 _
    · rw [show max (armed - 1) 0 = armed - 1 by omega]
      exact (h.put4 _).put3 _
  · unfold triedW
    have h1 := (Only.refl (fun k => k = p) W).setCell (p := ⟨p, 4, none⟩) (fun _ => rfl) (.int .i64 (ops + 1))
    split
    · exact h1
    · exact h1.setCell (p := ⟨p, 3, none⟩) (fun _ => rfl) _
end
end Go.Proofs.Ytgolddcmhjdmdaa
namespace Go.Proofs.Ytgolddcmhjdmdaa
open Go.RowKit

theorem sliceSec (b o : Nat) (W : World) :
    (Instr.sliceAt 76 (.pointer (some ⟨b, o, none⟩)) none none none).run Try.prog W = .ok (.slice (some ⟨b, o, none⟩) 128 128) W := by
  have h16 : Try.prog.arrayLen 76 = 128 := by kernel_rfl
  rw [run_sliceAt_array_all (P := Try.prog) W 76 ⟨b, o, none⟩ (by kernel_rfl), h16]
  have hs : ∀ W, (sizeOf (Try.prog.elem 76)).run Try.prog W = .ok 1 W := fun W => by kernel_rfl
  rw [hs]
  simp [Result.andThen, slicedAt, Addr.add]
theorem backSec (W : World) (b o : Nat) (s : ByteArray) (hs : s.size = 128) (h : W.rangeAt b o (cellsB s)) :
    (convert 53 9 (.slice (some ⟨b, o, none⟩) 128 128)).run Try.prog W = .ok (.string s) W := by
  have := run_convert_bytes_back (P := Try.prog) W 53 9 5 ⟨b, o, none⟩ 128 s.data.toList Try.underlying53 Try.underlying5 Try.underlying9 (fun j hj => by
    rw [Addr.add_mid]
    refine h j _ ?_
    unfold cellsB
    rw [List.getElem?_map, List.getElem?_eq_getElem hj]
    rfl)
  have e : s.data.toList.length = 128 := hs
  rw [e] at this
  rw [this]
/-- What is read of a row of sectors. -/
def readE (n : Nat) (i : Int) : Int := if hasB n i = true then 0 else 1
def readS (now : List ByteArray) (n : Nat) (i : Int) : ByteArray := if hasB n i = true then now.getD i.toNat ⟨#[]⟩ else ⟨#[]⟩
section
variable {W : World} {p a b n : Nat} {v : Value} {safe now : List ByteArray} {later : List (Nat × ByteArray)} {armed ops : Int}
set_option maxRecDepth 100000 in
set_option maxHeartbeats 1000000 in
theorem readD_any (h : DkV W p a b v n safe now later armed ops) (i : Int) :
    Calls Try.prog 20 #[.pointer (some ⟨p, 0, none⟩), .int .i64 i] W fun e W' => e = .returned (.tuple #[.string (readS now n i), .int .i64 (readE n i)]) ∧ W = W' := by
  have hh := Lib.hid (has_any h i)
  by_cases hb : hasB n i = true
  · rw [hb] at hh
    have e1 := Lib.hid (show readE n i = 0 by unfold readE; rw [if_pos hb])
    have hi : 0 ≤ i ∧ i < (n : Int) := by unfold hasB at hb; simpa using hb
    obtain ⟨hi0, hi1⟩ := hi
    have e2 := Lib.hid (show readS now n i = now.getD i.toNat ⟨#[]⟩ by unfold readS; rw [if_pos hb])
    obtain ⟨k, rfl⟩ := Int.eq_ofNat_of_zero_le hi0
    rw [Int.toNat_natCast] at e2
    have hk : k < n := by omega
    have hs := List.getElem?_eq_getElem (show k < now.length by rw [h.l1]; exact hk)
    have hr := h.s1.lay k _ hs
    have hz := h.s1.size _ (List.mem_of_getElem? hs)
    have e3 : now.getD k ⟨#[]⟩ = now[k]'(by rw [h.l1]; exact hk) := by rw [List.getD_eq_getElem?_getD, hs]; rfl
    have hsl := Lib.hid (sliceSec b (k * 128))
    have hbk := Lib.hid (backSec W b (k * 128) _ hz hr)
    rw [← e3] at hbk
    have c1 := h.c1
    have hlt := h.lt
    clear h hr hz e3 hs hb
    generalize now.getD k ⟨#[]⟩ = x at *
    rw [e1.out, e2.out]
    clear e1 e2
    go_enter Try.func20, Try.ntmps20
    go_wp2_with fail
    refine (hh.out).mono ?_
    rintro e w1 ⟨rfl, rfl⟩
    replace hsl := hsl.out
    replace hbk := hbk.out
    go_wp2
    go_ret2
    exact ⟨rfl, rfl⟩
  · have e1 := Lib.hid (show readE n i = 1 by unfold readE; rw [if_neg hb])
    have e2 := Lib.hid (show readS now n i = ⟨#[]⟩ by unfold readS; rw [if_neg hb])
    rw [Bool.eq_false_iff.mpr hb] at hh
    clear h hb
    rw [e1.out, e2.out]
    go_enter Try.func20, Try.ntmps20
    go_wp2_with fail
    refine (hh.out).mono ?_
    rintro e w1 ⟨rfl, rfl⟩
    go_wp2
    go_ret2
    exact ⟨rfl, rfl⟩
end
end Go.Proofs.Ytgolddcmhjdmdaa
