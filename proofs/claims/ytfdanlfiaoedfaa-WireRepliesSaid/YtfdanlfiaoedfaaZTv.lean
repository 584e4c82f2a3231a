/- The landed reader: what its calls answer, and what they leave; and where there is none. No condition but sizes. -/
import Derived.Test.YtfdanlfiaoedfaaZTt
import Derived.Test.YtfdanlfiaoedfaaZTw
import Derived.Deep.QuietTactic
import Derived.BigQuiet
namespace Go.Proofs.Ytfdanlfiaoedfaa
open Go.RowKit Wm Go.Lib

def leftB (st : Option ByteArray) : ByteArray := st.getD ByteArray.empty
/-- A reader's two cells. -/
structure RdV (W : World) (p : Nat) (st : Option ByteArray) : Prop where
  c0 : W.cell? ⟨p, 0, none⟩ = some (.string (leftB st))
  c1 : W.cell? ⟨p, 1, none⟩ = some (.bool st.isNone)
  f0 : W.frozen? ⟨p, 0, none⟩ = false
  f1 : W.frozen? ⟨p, 1, none⟩ = false
  lt : p < W.heap.size
  few : (leftB st).size ≤ 140737488351232
def RdIs (F : Nat → Prop) (W : World) (p : Nat) (st : Option ByteArray) : Prop := RdV W p st ∧ F p ∧ ∀ k, F k → k < W.heap.size
theorem RdV.only {G : Nat → Prop} {W W' : World} {p : Nat} {st : Option ByteArray} (h : RdV W p st) (hO : Only G W W') (hd : ¬ G p) : RdV W' p st :=
  ⟨by rw [hO.cell (p := ⟨p, 0, none⟩) h.lt hd]; exact h.c0, by rw [hO.cell (p := ⟨p, 1, none⟩) h.lt hd]; exact h.c1, by rw [hO.frozen (p := ⟨p, 0, none⟩) h.lt hd]; exact h.f0,
    by rw [hO.frozen (p := ⟨p, 1, none⟩) h.lt hd]; exact h.f1, Nat.lt_of_lt_of_le h.lt hO.size, h.few⟩
theorem rdIs_near (F : Nat → Prop) (W : World) (p : Nat) (st : Option ByteArray) (h : RdIs F W p st) (k : Nat) (hk : F k) : k < W.heap.size := h.2.2 k hk
theorem rdIs_keep (F G : Nat → Prop) (W W' : World) (p : Nat) (st : Option ByteArray) (h : RdIs F W p st) (hO : Only G W W') (hd : ∀ k, F k → ¬ G k) : RdIs F W' p st :=
  ⟨h.1.only hO (hd p h.2.1), h.2.1, fun k hk => Nat.lt_of_lt_of_le (h.2.2 k hk) hO.size⟩
theorem rdPost_of {F : Nat → Prop} {W W' : World} {p : Nat} {st st' : Option ByteArray} (h : RdIs F W p st) (h' : RdV W' p st') (hO : Only (fun k => k = p) W W') : RdPost RdIs F p st' W W' :=
  ⟨F, ⟨h', h.2.1, fun k hk => Nat.lt_of_lt_of_le (h.2.2 k hk) hO.size⟩, hO.mono (fun j _ hj => by rw [hj]; exact h.2.1), fun _ _ e => e⟩
set_option maxRecDepth 100000 in
theorem rdRead_any (s : ByteArray) (W : World) (hs : s.size ≤ 140737488351232) : Calls Try.prog 34 #[.string s] W (ReadPost RdIs s W) := by
  have hV : RdV (W.alloc (.cells #[.string s, .bool false] 103)) W.heap.size (some s) := ⟨by simp [go_sem, leftB], by simp [go_sem], by simp [go_sem], by simp [go_sem], by simp, hs⟩
  have hP := Lib.hid (show ReadPost RdIs s W (.returned (.pointer (some ⟨W.heap.size, 0, none⟩))) (W.alloc (.cells #[.string s, .bool false] 103)) from
    ⟨W.heap.size, fun k => k = W.heap.size, rfl, ⟨hV, rfl, fun k hk => by rw [hk]; simp⟩, fun k hk => by rw [hk]; exact Nat.le_refl _, (Below.refl _ _).alloc (Nat.le_refl _) _⟩)
  clear hV
  go_enter Try.func34, Try.ntmps34
  go_wp2
  go_ret
  exact hP.out
theorem only_set (W : World) (p j : Nat) (u : Value) : Only (fun k => k = p) W (W.setCell ⟨p, j, none⟩ u) := Only.setCell (F := fun k => k = p) (Only.refl _ _) (p := ⟨p, j, none⟩) (fun _ => rfl) _
/-- What a call that takes leaves, in its own words. -/
structure RdQ (p : Nat) (st' : Option ByteArray) (W W' : World) : Prop where
  v : RdV W' p st'
  o : Only (fun k => k = p) W W'
theorem RdQ.before {p : Nat} {st : Option ByteArray} {W0 W W' : World} (h : RdQ p st W W') (hb : Below W0.heap.size W0 W) : RdQ p st W0 W' :=
  ⟨h.v, (Only.of_below (F := fun k => k = p) hb).trans h.o (fun _ _ e => e)⟩
theorem RdQ.trans {p : Nat} {st st2 : Option ByteArray} {W W1 W2 : World} (h : RdQ p st W W1) (k : RdQ p st2 W1 W2) : RdQ p st2 W W2 := ⟨k.v, h.o.trans k.o (fun _ _ e => e)⟩
theorem RdQ.next {p : Nat} {st : Option ByteArray} {W W1 W2 : World} {G : Nat → Prop} (h : RdQ p st W W1) (hp : p < W.heap.size) (hO : Only G W1 W2) (hG : ∀ k, G k → W.heap.size ≤ k) : RdQ p st W W2 :=
  ⟨h.v.only hO (fun e => by have := hG p e; omega), h.o.trans hO (fun j hj e => by have := hG j e; omega)⟩
theorem RdQ.post {F : Nat → Prop} {W W' : World} {p : Nat} {st st' : Option ByteArray} (h : RdIs F W p st) (k : RdQ p st' W W') : RdPost RdIs F p st' W W' := rdPost_of h k.v k.o
theorem RdQ.same {p : Nat} {st : Option ByteArray} {W W' : World} (h : RdV W p st) (hb : Below W.heap.size W W') : RdQ p st W W' :=
  ⟨h.only (Only.of_below (F := fun _ => False) hb) (fun e => e), Only.of_below hb⟩
set_option maxRecDepth 100000 in
theorem rdTear_q (W : World) (p : Nat) (st : Option ByteArray) (h : RdV W p st) :
    Calls Try.prog 81 #[.pointer (some ⟨p, 0, none⟩)] W fun e W' => e = .returned (.tuple #[]) ∧ RdQ p none W W' := by
  have c0 := h.c0
  have c1 := h.c1
  have f0 := h.f0
  have f1 := h.f1
  have hP := Lib.hid (show RdQ p none W ((W.setCell ⟨p, 0, none⟩ (.string ⟨#[]⟩)).setCell ⟨p, 1, none⟩ (.bool true)) from
    ⟨⟨cell_set2_0 c0 (by omega), cell_set2_1 c1 (by omega), by simpa using f0, by simpa using f1, by simpa using h.lt, by show (0 : Nat) ≤ _; omega⟩,
      (only_set _ _ _ _).trans (only_set _ _ _ _) (fun _ _ e => e)⟩)
  clear h
  go_enter Try.func81, Try.ntmps81
  go_wp2
  go_end0
  exact ⟨rfl, hP.out⟩
theorem str_fromT (s : ByteArray) (n : Nat) (h : n ≤ s.size) (W : World) :
    (Instr.sliceAt 9 (.string s) (some (.int .i64 ((n : Nat) : Int))) none none).run Try.prog W = .ok (.string (s.extract n s.size)) W := by
  rw [run_sliceAt_string _ _ _ _ _ _ Try.underlying9, run_slice_string_l _ _ _ Try.underlying9 _ _ (by omega) (by omega)]
  simp
theorem str_toT (s : ByteArray) (n : Nat) (h : n ≤ s.size) (W : World) :
    (Instr.sliceAt 9 (.string s) none (some (.int .i64 ((n : Nat) : Int))) none).run Try.prog W = .ok (.string (s.extract 0 n)) W := by
  rw [run_sliceAt_string _ _ _ _ _ _ Try.underlying9, run_slice_string_h _ _ _ Try.underlying9 _ _ (by omega) (by omega)]
  simp
set_option maxRecDepth 100000 in
set_option maxHeartbeats 1000000 in
theorem rdRaw_q (W : World) (p : Nat) (st : Option ByteArray) (n : Int) (h : RdV W p st) (h1 : -9223372036854775808 ≤ n) (h2 : n ≤ 9223372036854775807) :
    Calls Try.prog 74 #[.pointer (some ⟨p, 0, none⟩), .int .i64 n] W fun e W' => e = .returned (.string (rdPart st n)) ∧ RdQ p (rdNext st n) W W' := by
  have c0 := h.c0
  have f0 := h.f0
  have hfew := h.few
  by_cases hin : 0 ≤ n ∧ n ≤ (((leftB st).size : Nat) : Int)
  · -- so many are there
    obtain ⟨g1, g2⟩ := hin
    obtain ⟨m, rfl⟩ := Int.eq_ofNat_of_zero_le g1
    have hm : m ≤ (leftB st).size := by omega
    have s1 := str_toT (leftB st) m hm
    have s2 := str_fromT (leftB st) m hm
    have hP : Hid (.returned (.string ((leftB st).extract 0 m)) = Ending.returned (.string (rdPart st ((m : Nat) : Int))) ∧ RdQ p (rdNext st ((m : Nat) : Int)) W (W.setCell ⟨p, 0, none⟩ (.string ((leftB st).extract m (leftB st).size)))) := by
      cases st with
      | none =>
        have e : leftB none = ByteArray.empty := rfl
        have hm0 : m = 0 := by rw [e] at hm; have : ByteArray.empty.size = 0 := rfl; omega
        subst hm0
        refine ⟨rfl, ⟨⟨World.cell?_setCell_same _ _ _ c0, ?_, by simpa using f0, by simpa using h.f1, by simpa using h.lt, h.few⟩, only_set _ _ _ _⟩⟩
        rw [cell_set_far (by omega)]; exact h.c1
      | some s =>
        have e : leftB (some s) = s := rfl
        rw [e] at hm hfew
        rw [part_some s m hm, next_some s m hm]
        refine ⟨rfl, ⟨⟨World.cell?_setCell_same _ _ _ c0, ?_, by simpa using f0, by simpa using h.f1, by simpa using h.lt, ?_⟩, only_set _ _ _ _⟩⟩
        · rw [cell_set_far (by omega)]; exact h.c1
        · show (s.extract m s.size).size ≤ _
          rw [ByteArray.size_extract]; omega
    clear h
    generalize leftB st = s at *
    go_enter Try.func74, Try.ntmps74
    go_wp2
    go_ret
    exact hP.out
  · -- fewer are there
    have hP : Hid (rdPart st n = ⟨#[]⟩ ∧ rdNext st n = none) := by
      cases st with
      | none => exact ⟨rfl, rfl⟩
      | some s =>
        have e : leftB (some s) = s := rfl
        rw [e] at hin
        unfold rdPart rdNext
        dsimp only
        rw [if_neg hin, if_neg hin]
        exact ⟨rfl, rfl⟩
    have hT := Lib.hid (fun W2 h2 => rdTear_q W2 p st h2)
    rw [hP.out.1, hP.out.2]
    by_cases hneg : n < 0
    · clear hin hP
      go_enter Try.func74, Try.ntmps74
      go_wp2_with fail
      refine (hT.out _ h).mono ?_
      rintro e W2 ⟨rfl, hQ⟩
      go_wp2
      go_ret
      exact ⟨rfl, hQ⟩
    · have hgt : (((leftB st).size : Nat) : Int) < n := by omega
      clear hin hP
      generalize leftB st = s at *
      go_enter Try.func74, Try.ntmps74
      go_wp2_with fail
      refine (hT.out _ h).mono ?_
      rintro e W2 ⟨rfl, hQ⟩
      go_wp2
      go_ret
      exact ⟨rfl, hQ⟩
theorem valL_take (s : ByteArray) (k : Nat) (h : k < s.size) : valL ((bytesN s).take (k + 1)) = valL ((bytesN s).take k) + s[k].toNat * 2 ^ (8 * k) := by
  have gen : ∀ (l : List Nat) (k : Nat) (h : k < l.length), valL (l.take (k + 1)) = valL (l.take k) + l[k] * 256 ^ k := by
    intro l
    induction l with
    | nil => intro k h; simp at h
    | cons b r ih =>
      intro k h
      cases k with
      | zero => simp [valL]
      | succ k =>
        rw [List.take_succ_cons, List.take_succ_cons, valL, valL, ih k (by simpa using h), List.getElem_cons_succ, Nat.pow_succ]
        rw [Nat.mul_add, ← Nat.add_assoc]
        congr 1
        rw [Nat.mul_comm (256 ^ k) 256, ← Nat.mul_assoc, ← Nat.mul_assoc, Nat.mul_comm 256]
  have := gen (bytesN s) k (by rw [bytesN_length]; exact h)
  rw [bytesN_get s k h] at this
  rw [this, Nat.pow_mul]
theorem valL_take_lt (s : ByteArray) (k : Nat) (h : k ≤ s.size) : valL ((bytesN s).take k) < 2 ^ (8 * k) := by
  have := valL_lt ((bytesN s).take k) (fun b hb => bytesN_lt s b (List.mem_of_mem_take hb))
  rw [List.length_take, bytesN_length, Nat.min_eq_left h] at this
  rw [Nat.pow_mul]
  exact this
theorem part_le (st : Option ByteArray) (k : Nat) : (rdPart st ((k : Nat) : Int)).size ≤ k := by
  cases st with
  | none => exact Nat.zero_le _
  | some s =>
    unfold rdPart
    dsimp only
    split
    · rw [ByteArray.size_extract, Int.toNat_natCast]; omega
    · exact Nat.zero_le _
set_option maxRecDepth 100000 in
set_option maxHeartbeats 1000000 in
theorem rdInt_q (W : World) (p : Nat) (st : Option ByteArray) (size : Int) (h : RdV W p st) :
    Calls Try.prog 44 #[.pointer (some ⟨p, 0, none⟩), .int .i64 size] W fun e W' => e = .returned (.int .i64 (backZ (rdPart st ((sizeK size : Nat) : Int)))) ∧ RdQ p (rdNext st ((sizeK size : Nat) : Int)) W W' := by
  have hk := sizeK_le size
  have hne := Lib.hid (fun w => nearest_any size w)
  have hr := Lib.hid (fun W2 h2 => rdRaw_q W2 p st ((sizeK size : Nat) : Int) h2 (by omega) (by omega))
  have hle := part_le st (sizeK size)
  have hB := Lib.hid (show backZ (rdPart st ((sizeK size : Nat) : Int)) = wrap64 ((valL (bytesN (rdPart st ((sizeK size : Nat) : Int))) : Nat) : Int) from rfl)
  generalize rdPart st ((sizeK size : Nat) : Int) = s at *
  have hs8 : s.size ≤ 8 := by omega
  clear hle
  go_enter Try.func44, Try.ntmps44
  go_wp2_with fail
  refine (hne.out _).mono ?_
  rintro e W1 ⟨rfl, rfl⟩
  go_wp2_with fail
  refine (hr.out _ h).mono ?_
  rintro e W2 ⟨rfl, hP⟩
  clear hne hr h
  go_wp2
  go_loop [6, 14] (fun u i => ∃ k : Nat, k ≤ s.size ∧ i = .int .i64 k ∧ u = .int .u64 ((valL ((bytesN s).take k) : Nat) : Int)) (fun _ i => (s.size - RowKit.intOf i).toNat)
  case atStart => exact ⟨0, by omega, rfl, rfl⟩
  case round =>
    obtain ⟨k, hk2, rfl, rfl⟩ := hrel
    by_cases hlt : k < s.size
    · have hd := Lib.hid (valL_take s k hlt)
      have hb8 : s[k].toNat < 256 := UInt8.toNat_lt _
      have hor := Lib.hid (or_step (valL ((bytesN s).take k)) s[k].toNat k (valL_take_lt s k (by omega)) hb8 (by omega))
      go_wp2
      refine ⟨⟨k + 1, by omega, by go_num, by rw [hor.out, hd.out]⟩, by simp [RowKit.intOf]; omega⟩
    · obtain rfl : k = s.size := by omega
      rw [List.take_of_length_le (by rw [bytesN_length]; omega)]
      go_wp2
      go_ret
      exact ⟨by rw [hB.out]; rfl, hP⟩
theorem num_cases (st : Option ByteArray) : rdPart st 16 = ⟨#[]⟩ ∨ (rdPart st 16).size = 16 := by
  cases st with
  | none => exact .inl rfl
  | some s =>
    unfold rdPart
    dsimp only
    split
    · right; rw [ByteArray.size_extract]; omega
    · exact .inl rfl
theorem frombytes_whole (s : ByteArray) (h : s.size = 16) (w : World) :
    Calls Try.prog 79 #[.string s] w fun e w' => e = .returned (.tuple #[numV (valL (bytesN s)), .bool true]) ∧ Below w.heap.size w w' := by
  have hv : valL (bytesN s) < big := by
    have := valL_lt (bytesN s) (bytesN_lt s)
    rw [bytesN_length, h] at this
    rw [big_eq]; omega
  have := frombytes_again (valL (bytesN s)) hv ByteArray.empty w
  rw [ByteArray.append_empty] at this
  have e : (⟨(bytesL (valL (bytesN s))).toArray⟩ : ByteArray) = s := numB_valL s h
  rw [e] at this
  exact this
/-- A block that may be written. -/
structure BoxF (w : World) (b : Nat) (cs : List Value) : Prop where
  box : BoxAt w b cs
  fz : ∀ j, w.frozen? ⟨b, j, none⟩ = false
theorem BoxF.new (w : World) (cs : List Value) (t : TypeId) : BoxF (w.alloc (.cells cs.toArray t)) w.heap.size cs := ⟨BoxAt.new w cs t, fun j => by simp [go_sem]⟩
theorem BoxF.later {w w2 : World} {b : Nat} {cs : List Value} (h : BoxF w b cs) (hb : Below w.heap.size w w2) : BoxF w2 b cs :=
  ⟨h.box.later hb, fun j => by rw [hb.frozen (p := ⟨b, j, none⟩) h.box.lt]; exact h.fz j⟩
theorem BoxF.only {F : Nat → Prop} {w w2 : World} {b : Nat} {cs : List Value} (h : BoxF w b cs) (hb : Only F w w2) (hf : ¬ F b) : BoxF w2 b cs :=
  ⟨h.box.only hb hf, fun j => by rw [hb.frozen (p := ⟨b, j, none⟩) h.box.lt hf]; exact h.fz j⟩
set_option maxRecDepth 100000 in
set_option maxHeartbeats 1000000 in
theorem rdNum_q (W : World) (p : Nat) (st : Option ByteArray) (h : RdV W p st) :
    Calls Try.prog 65 #[.pointer (some ⟨p, 0, none⟩)] W fun e W' => e = .returned (numV (valL (bytesN (rdPart st 16)))) ∧ RdQ p (rdNext st 16) W W' := by
  have hb1 : Below W.heap.size W (W.alloc (.cells #[.int .u64 0, .int .u64 0] 27)) := (Below.refl _ _).alloc (Nat.le_refl _) _
  have hr := Lib.hid (rdRaw_q _ p st 16 (RdQ.same h hb1).v (by omega) (by omega))
  have hbox := BoxF.new W [.int .u64 0, .int .u64 0] 27
  have hlt := h.lt
  have key : ∃ (n : Nat) (ok : Bool), numV (valL (bytesN (rdPart st 16))) = numV n ∧ ∀ w, Calls Try.prog 79 #[.string (rdPart st 16)] w fun e w' => e = .returned (.tuple #[numV n, .bool ok]) ∧ Below w.heap.size w w' := by
    rcases num_cases st with hc | hc
    · refine ⟨0, false, by rw [hc]; rfl, fun w => ?_⟩
      have := frombytes_short (rdPart st 16) (by rw [hc]; show 0 < 16; omega) w
      exact this
    · exact ⟨_, true, rfl, fun w => frombytes_whole _ hc w⟩
  obtain ⟨n, ok, hv, hf⟩ := key
  rw [hv]
  replace hf := Lib.hid hf
  clear hv
  generalize rdPart st 16 = s at *
  go_enter Try.func65, Try.ntmps65
  go_wp2_with fail
  refine hr.out.mono ?_
  rintro e W1 ⟨rfl, hP⟩
  have hbox1 := hbox.only hP.o (by omega)
  go_wp2_with fail
  refine (hf.out _).mono ?_
  rintro e W2 ⟨rfl, hb2⟩
  have hbox2 := hbox1.later hb2
  have d0 := hbox2.box.spot 0 _ rfl
  have d1 := hbox2.box.spot 1 _ rfl
  have g0 := hbox2.fz 0
  have g1 := hbox2.fz 1
  have l0 := hbox2.box.lt
  clear hbox hbox1 hbox2
  go_wp2
  have e0 := cell_put0 (x := .int .u64 ((hiN n : Nat) : Int)) (y := .int .u64 ((loN n : Nat) : Int)) d0 d1
  have e1 := cell_put1 (x := .int .u64 ((hiN n : Nat) : Int)) (y := .int .u64 ((loN n : Nat) : Int)) d0 d1
  have hO : Only (fun k => W.heap.size ≤ k) W1 ((W2.setCell ⟨W.heap.size, 0, none⟩ (.int .u64 ((hiN n : Nat) : Int))).setCell ⟨W.heap.size, 1, none⟩ (.int .u64 ((loN n : Nat) : Int))) :=
    Only.setCell (Only.setCell (Only.of_below hb2) (p := ⟨W.heap.size, 0, none⟩) (fun _ => Nat.le_refl _) _) (p := ⟨W.heap.size, 1, none⟩) (fun _ => Nat.le_refl _) _
  have hz : W.heap.size < ((W2.setCell ⟨W.heap.size, 0, none⟩ (.int .u64 ((hiN n : Nat) : Int))).setCell ⟨W.heap.size, 1, none⟩ (.int .u64 ((loN n : Nat) : Int))).heap.size := by simpa using l0
  generalize (W2.setCell ⟨W.heap.size, 0, none⟩ (.int .u64 ((hiN n : Nat) : Int))).setCell ⟨W.heap.size, 1, none⟩ (.int .u64 ((loN n : Nat) : Int)) = W3 at *
  have hal : ∀ o, Below W3.heap.size W3 (W3.alloc o) := fun o => (Below.refl _ _).alloc (Nat.le_refl _) o
  refine bodyPost_ret (v := numV n) ?_ rfl ⟨rfl, ?_⟩
  · have k0 : ∀ o, (W3.alloc o).cell? ⟨W.heap.size, 0, none⟩ = some (.int .u64 ((hiN n : Nat) : Int)) := fun o => by rw [(hal o).cell (p := ⟨W.heap.size, 0, none⟩) hz]; exact e0
    have k1 : ∀ o, (W3.alloc o).cell? ⟨W.heap.size, 1, none⟩ = some (.int .u64 ((loN n : Nat) : Int)) := fun o => by rw [(hal o).cell (p := ⟨W.heap.size, 1, none⟩) hz]; exact e1
    simp [results, Try.results65, go_sem, k0, k1]
  · exact (hP.before hb1).next hlt (G := fun k => W.heap.size ≤ k) (hO.trans (Only.of_below (F := fun _ => False) (hal _)) (fun _ _ e => e.elim)) (fun _ e => e)
theorem flagT_out (st : Option ByteArray) (h : rdPart st 1 = ⟨#[]⟩) : Op.bytesLess (rdPart st 1).toList [1] = true ∧ ((rdPart st 1).toList == [1]) = false ∧ flagYes st = false ∧ flagNext st = rdNext st 1 := by
  unfold flagYes flagNext
  rw [h]
  exact ⟨by decide +kernel, by decide +kernel, by decide +kernel, if_pos (by decide +kernel)⟩
theorem flagT_key (st : Option ByteArray) :
    (Op.bytesLess (rdPart st 1).toList [1] = true ∧ ((rdPart st 1).toList == [1]) = false ∧ flagYes st = false ∧ flagNext st = rdNext st 1) ∨
    (Op.bytesLess (rdPart st 1).toList [1] = false ∧ ((rdPart st 1).toList == [1]) = true ∧ flagYes st = true ∧ flagNext st = rdNext st 1) ∨
    (Op.bytesLess (rdPart st 1).toList [1] = false ∧ ((rdPart st 1).toList == [1]) = false ∧ flagYes st = false ∧ flagNext st = none) := by
  cases st with
  | none => exact .inl (flagT_out none rfl)
  | some rem =>
    by_cases h : 1 ≤ rem.size
    · have e : rdPart (some rem) 1 = rem.extract 0 1 := part_some rem 1 h
      have e2 : rdNext (some rem) 1 = some (rem.extract 1 rem.size) := next_some rem 1 h
      rw [e, e2]
      exact flag_three rem h
    · exact .inl (flagT_out _ (part_out rem 1 (by omega)))
set_option maxRecDepth 100000 in
set_option maxHeartbeats 1000000 in
theorem rdFlag_q (W : World) (p : Nat) (st : Option ByteArray) (h : RdV W p st) :
    Calls Try.prog 80 #[.pointer (some ⟨p, 0, none⟩)] W fun e W' => e = .returned (.bool (flagYes st)) ∧ RdQ p (flagNext st) W W' := by
  have hr := Lib.hid (rdRaw_q W p st 1 h (by omega) (by omega))
  have ht := Lib.hid (fun W1 st1 h1 => rdTear_q W1 p st1 h1)
  rcases flagT_key st with ⟨k1, k2, k3, k4⟩ | ⟨k1, k2, k3, k4⟩ | ⟨k1, k2, k3, k4⟩
  · rw [k3, k4]
    clear k3 k4
    generalize rdPart st 1 = s at *
    go_enter Try.func80, Try.ntmps80
    go_wp2_with fail
    refine hr.out.mono ?_
    rintro e W1 ⟨rfl, hP⟩
    go_wp2
    go_ret
    exact ⟨rfl, hP⟩
  · rw [k3, k4]
    clear k3 k4
    generalize rdPart st 1 = s at *
    go_enter Try.func80, Try.ntmps80
    go_wp2_with fail
    refine hr.out.mono ?_
    rintro e W1 ⟨rfl, hP⟩
    go_wp2
    go_ret
    exact ⟨rfl, hP⟩
  · rw [k3, k4]
    clear k3 k4
    generalize rdPart st 1 = s at *
    go_enter Try.func80, Try.ntmps80
    go_wp2_with fail
    refine hr.out.mono ?_
    rintro e W1 ⟨rfl, hP⟩
    go_wp2_with fail
    refine (ht.out _ _ hP.v).mono ?_
    rintro e W2 ⟨rfl, hQ⟩
    go_wp2
    go_ret
    exact ⟨rfl, hP.trans hQ⟩
set_option maxRecDepth 100000 in
theorem rdEnd_q (W : World) (p : Nat) (st : Option ByteArray) (h : RdV W p st) :
    Calls Try.prog 36 #[.pointer (some ⟨p, 0, none⟩)] W fun e W' => e = .returned (.bool (endB st)) ∧ Below W.heap.size W W' := by
  have c0 := h.c0
  have c1 := h.c1
  cases st with
  | none =>
    have e : endB none = false := rfl
    have e1 : (none : Option ByteArray).isNone = true := rfl
    rw [e]
    rw [e1] at c1
    clear h e e1
    generalize leftB none = s at *
    go_enter Try.func36, Try.ntmps36
    go_wp2
    go_ret
    exact ⟨rfl, Below.refl _ _⟩
  | some s =>
    have e : s.toList.isEmpty = endB (some s) := empty_iff s
    have e1 : (some s).isNone = false := rfl
    have e2 : leftB (some s) = s := rfl
    rw [e1] at c1
    rw [e2] at c0
    generalize endB (some s) = b at *
    clear h e1 e2
    go_enter Try.func36, Try.ntmps36
    go_wp2
    go_ret
    exact ⟨rfl, Below.refl _ _⟩
theorem landedRd : LandedRd RdIs where
  near := rdIs_near
  keep := rdIs_keep
  read := fun s W hs => rdRead_any s W (by omega)
  raw := fun F W p st n h h1 h2 => (rdRaw_q W p st n h.1 h1 h2).mono fun _ _ ⟨he, hq⟩ => ⟨he, hq.post h⟩
  int := fun F W p st size h => (rdInt_q W p st size h.1).mono fun _ _ ⟨he, hq⟩ => ⟨he, hq.post h⟩
  num := fun F W p st h => (rdNum_q W p st h.1).mono fun _ _ ⟨he, hq⟩ => ⟨he, hq.post h⟩
  flag := fun F W p st h => (rdFlag_q W p st h.1).mono fun _ _ ⟨he, hq⟩ => ⟨he, hq.post h⟩
  fin := fun F W p st h => rdEnd_q W p st h.1
end Go.Proofs.Ytfdanlfiaoedfaa
