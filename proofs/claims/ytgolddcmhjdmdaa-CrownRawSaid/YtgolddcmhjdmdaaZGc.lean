/- The landed Read of a sector. No condition but a text's size. -/
import Derived.Test.YtgolddcmhjdmdaaZGb
import Derived.Test.YtgolddcmhjdmdaaZTv
namespace Go.Proofs.Ytgolddcmhjdmdaa
open Go.RowKit Go.Sort Cr Wm Go.Lib

theorem toList_beqr (x y : ByteArray) : (x.toList == y.toList) = decide (x = y) := by
  by_cases h : x = y
  · subst h
    rw [decide_eq_true rfl, beq_iff_eq]
  · rw [decide_eq_false h, beq_eq_false_iff_ne]
    intro e
    rw [ByteArray.toList_eq, ByteArray.toList_eq] at e
    exact h (ByteArray.ext (Array.toList_inj.mp e))
/-- A reader in use, of one's own making. -/
structure Rs (W0 w : World) (p : Nat) (st : Option ByteArray) : Prop where
  v : RdV w p st
  bel : Below W0.heap.size W0 w
  new : W0.heap.size ≤ p
theorem Rs.next {W0 w w' : World} {p : Nat} {st st' : Option ByteArray} (h : Rs W0 w p st) (k : RdQ p st' w w') : Rs W0 w' p st' :=
  ⟨k.v, h.bel.trans (k.o.to_below h.bel.size (fun j e => by have := h.new; omega)), h.new⟩
theorem Rs.later {W0 w w' : World} {p : Nat} {st : Option ByteArray} (h : Rs W0 w p st) (hb : Below w.heap.size w w') : Rs W0 w' p st :=
  ⟨h.v.only (Only.of_below (F := fun _ => False) hb) (fun e => e), h.bel.trans (hb.mono h.bel.size), h.new⟩
theorem rs_int {W0 : World} (w : World) (p : Nat) (st : Option ByteArray) (size : Int) (h : Rs W0 w p st) :
    Calls Try.prog 30 #[.pointer (some ⟨p, 0, none⟩), .int .i64 size] w fun e w' => e = .returned (.int .i64 (backZ (rdPart st ((sizeK size : Nat) : Int)))) ∧ Rs W0 w' p (rdNext st ((sizeK size : Nat) : Int)) := by
  refine (rdInt_q w p st size h.v).mono ?_
  rintro e w' ⟨rfl, hq⟩
  exact ⟨rfl, h.next hq⟩
theorem rs_raw {W0 : World} (w : World) (p : Nat) (st : Option ByteArray) (n : Int) (h1 : -9223372036854775808 ≤ n) (h2 : n ≤ 9223372036854775807) (h : Rs W0 w p st) :
    Calls Try.prog 43 #[.pointer (some ⟨p, 0, none⟩), .int .i64 n] w fun e w' => e = .returned (.string (rdPart st n)) ∧ Rs W0 w' p (rdNext st n) := by
  refine (rdRaw_q w p st n h.v h1 h2).mono ?_
  rintro e w' ⟨rfl, hq⟩
  exact ⟨rfl, h.next hq⟩
theorem rs_read (s : ByteArray) (W : World) (hs : s.size ≤ 140737488351232) :
    Calls Try.prog 29 #[.string s] W fun e w => ∃ p, e = .returned (.pointer (some ⟨p, 0, none⟩)) ∧ Rs W w p (some s) := by
  refine (rdRead_any s W hs).mono ?_
  rintro e w ⟨p, F, rfl, h1, h2, h3⟩
  exact ⟨p, rfl, h1.1, h3, h2 p h1.2.1⟩
/-- What a sector's bytes are taken apart into. -/
def cutN (s : ByteArray) : Int := backZ (rdPart (some s) 8)
def cutI (s : ByteArray) : Int := backZ (rdPart (rdNext (some s) 8) 2)
def cutL (s : ByteArray) : Int := backZ (rdPart (rdNext (rdNext (some s) 8) 2) 2)
def cutD (s : ByteArray) : ByteArray := rdPart (rdNext (rdNext (rdNext (some s) 8) 2) 2) (cutL s)
theorem backZ_int2 {n : Int} (h0 : 0 ≤ n) (h1 : n < 65536) : backZ (intB 2 n) = n := by
  unfold backZ intB
  rw [show sizeK 2 = 2 from rfl, valL_textP]
  unfold u64N
  rw [show (256 : Nat) ^ 2 = 65536 from rfl, Int.emod_eq_of_lt h0 (by omega), Nat.mod_eq_of_lt (by omega)]
  unfold wrap64
  omega
theorem backZ_range (s : ByteArray) : -9223372036854775808 ≤ backZ s ∧ backZ s ≤ 9223372036854775807 := by
  unfold backZ wrap64
  omega
theorem cut_sec {N I : Int} {D : ByteArray} (h : LeafOk N I D) : cutN (secB N I D) = N ∧ cutI (secB N I D) = I ∧ cutD (secB N I D) = D := by
  have h1 := h.n
  have h2 := h.i
  have h3 := h.d
  obtain ⟨r, hr⟩ : ∃ r, secB N I D = intB 8 N ++ (intB 2 I ++ (intB 2 ((D.size : Nat) : Int) ++ (D ++ r))) := by
    refine ⟨zerosB (104 - D.size) ++ (fourT (sumC 0 (bytesC (bodyB N I D))) ++ intB 8 N), ?_⟩
    unfold secB
    rw [show bodyB N I D = intB 8 N ++ (intB 2 I ++ (intB 2 ((D.size : Nat) : Int) ++ (D ++ zerosB (104 - D.size)))) from rfl]
    simp only [ByteArray.append_assoc]
  rw [hr]
  have e8 : ∀ b, rdPart (some (intB 8 N ++ b)) 8 = intB 8 N ∧ rdNext (some (intB 8 N ++ b)) 8 = some b := fun b => by
    have a := rd_part (intB 8 N) b
    have c := rd_next (intB 8 N) b
    rw [int8_size] at a c
    exact ⟨a, c⟩
  have e2 : ∀ n b, rdPart (some (intB 2 n ++ b)) 2 = intB 2 n ∧ rdNext (some (intB 2 n ++ b)) 2 = some b := fun n b => by
    have a := rd_part (intB 2 n) b
    have c := rd_next (intB 2 n) b
    rw [int2_size] at a c
    exact ⟨a, c⟩
  have eL : ∀ r, cutL (intB 8 N ++ (intB 2 I ++ (intB 2 ((D.size : Nat) : Int) ++ (D ++ r)))) = ((D.size : Nat) : Int) := fun r => by
    unfold cutL
    rw [(e8 _).2, (e2 _ _).2, (e2 _ _).1, backZ_int2 (by omega) (by omega)]
  refine ⟨?_, ?_, ?_⟩
  · unfold cutN
    rw [(e8 _).1, backZ_int8 (by omega) (by omega)]
  · unfold cutI
    rw [(e8 _).2, (e2 _ _).1, backZ_int2 (by omega) (by omega)]
  · unfold cutD
    rw [eL, (e8 _).2, (e2 _ _).2, (e2 _ _).2, rd_part]
open Classical in
theorem leafOf_cut (s : ByteArray) : leafOf s = if okLeaf (cutN s) (cutI s) (cutD s) = true ∧ secB (cutN s) (cutI s) (cutD s) = s then some (cutN s, cutI s, cutD s) else none := by
  by_cases h : okLeaf (cutN s) (cutI s) (cutD s) = true ∧ secB (cutN s) (cutI s) (cutD s) = s
  · rw [if_pos h]
    have := leafOf_sec ((okLeaf_iff _ _ _).1 h.1)
    rw [h.2] at this
    exact this
  · rw [if_neg h]
    cases e : leafOf s with
    | none => rfl
    | some x =>
      obtain ⟨N, I, D⟩ := x
      obtain ⟨h1, h2⟩ := leafOf_some e
      obtain ⟨c1, c2, c3⟩ := cut_sec h1
      rw [h2] at c1 c2 c3
      exfalso
      rw [c1, c2, c3] at h
      exact h ⟨(okLeaf_iff _ _ _).2 h1, h2⟩
theorem rdPart_le (st : Option ByteArray) (n : Int) : (rdPart st n).size ≤ (leftB st).size := by
  unfold rdPart leftB
  cases st with
  | none => exact Nat.le_refl _
  | some s =>
    dsimp only
    split
    · rw [ByteArray.size_extract]
      show _ ≤ s.size
      omega
    · exact Nat.zero_le _
theorem rdNext_le (st : Option ByteArray) (n : Int) : (leftB (rdNext st n)).size ≤ (leftB st).size := by
  unfold rdNext leftB
  cases st with
  | none => exact Nat.le_refl _
  | some s =>
    dsimp only
    split
    · show (s.extract _ _).size ≤ s.size
      rw [ByteArray.size_extract]
      omega
    · exact Nat.zero_le _
theorem cutD_le (s : ByteArray) : (cutD s).size ≤ s.size := by
  have h1 := rdPart_le (rdNext (rdNext (rdNext (some s) 8) 2) 2) (cutL s)
  have h2 := rdNext_le (rdNext (rdNext (some s) 8) 2) 2
  have h3 := rdNext_le (rdNext (some s) 8) 2
  have h4 := rdNext_le (some s) 8
  have h5 : (leftB (some s)).size = s.size := rfl
  show (rdPart (rdNext (rdNext (rdNext (some s) 8) 2) 2) (cutL s)).size ≤ s.size
  omega
theorem cells_put3 {w : World} {b : Nat} {u0 u1 u2 x y z : Value} (h0 : w.cell? ⟨b, 0, none⟩ = some u0) (h1 : w.cell? ⟨b, 1, none⟩ = some u1) (h2 : w.cell? ⟨b, 2, none⟩ = some u2) :
    (((w.setCell ⟨b, 0, none⟩ x).setCell ⟨b, 1, none⟩ y).setCell ⟨b, 2, none⟩ z).cell? ⟨b, 0, none⟩ = some x ∧
    (((w.setCell ⟨b, 0, none⟩ x).setCell ⟨b, 1, none⟩ y).setCell ⟨b, 2, none⟩ z).cell? ⟨b, 1, none⟩ = some y ∧
    (((w.setCell ⟨b, 0, none⟩ x).setCell ⟨b, 1, none⟩ y).setCell ⟨b, 2, none⟩ z).cell? ⟨b, 2, none⟩ = some z := by
  have n : ∀ (w : World) (i j : Nat) (v : Value), i ≠ j → (w.setCell ⟨b, i, none⟩ v).cell? ⟨b, j, none⟩ = w.cell? ⟨b, j, none⟩ := fun w i j v hij => World.cell?_setCell_other _ _ _ _ (fun e => by injection e with _ e _; omega)
  refine ⟨?_, ?_, ?_⟩
  · rw [n _ _ _ _ (by omega), n _ _ _ _ (by omega), World.cell?_setCell_same _ _ _ h0]
  · rw [n _ _ _ _ (by omega)]
    exact World.cell?_setCell_same _ _ _ (by rw [n _ _ _ _ (by omega)]; exact h1)
  · exact World.cell?_setCell_same _ _ _ (by rw [n _ _ _ _ (by omega), n _ _ _ _ (by omega)]; exact h2)
theorem below_put3 {w0 w : World} {b : Nat} (hb : w0.heap.size ≤ b) (h : Below w0.heap.size w0 w) (x y z : Value) :
    Below w0.heap.size w0 (((w.setCell ⟨b, 0, none⟩ x).setCell ⟨b, 1, none⟩ y).setCell ⟨b, 2, none⟩ z) := ((h.setCell hb _).setCell hb _).setCell hb _
set_option maxRecDepth 100000 in
set_option maxHeartbeats 1000000 in
theorem stRead_any (s : ByteArray) (W : World) (hs : s.size ≤ 140737488351232) :
    Calls Try.prog 24 #[.string s] W fun e W' => e = .returned (.tuple #[leafV (leafOf s), .bool (leafOf s).isSome]) ∧ Below W.heap.size W W' := by
  have k0 := Lib.hid (fun w => rs_read s w hs)
  go_enter Try.func24, Try.ntmps24
  go_wp2_with fail
  refine (k0.out _).mono ?_
  rintro e W1 ⟨p, rfl, R⟩
  clear k0
  have hbx := BoxAt.new W [.int .i64 0, .int .i64 0, .string ⟨#[]⟩] 49
  have hbw : Below W.heap.size W (W.alloc (.cells #[.int .i64 0, .int .i64 0, .string ⟨#[]⟩] 49)) := (Below.refl _ _).alloc (Nat.le_refl _) _
  have hfz : ∀ j, (W.alloc (.cells #[.int .i64 0, .int .i64 0, .string ⟨#[]⟩] 49)).frozen? ⟨W.heap.size, j, none⟩ = false := fun j => by simp [go_sem]
  generalize hW0 : W.alloc (.cells #[.int .i64 0, .int .i64 0, .string ⟨#[]⟩] 49) = W0 at *
  clear hW0
  have k1 := Lib.hid (fun w R => rs_int (W0 := W0) w p (some s) 8 R)
  have k2 := Lib.hid (fun w R => rs_int (W0 := W0) w p (rdNext (some s) 8) 2 R)
  have k3 := Lib.hid (fun w R => rs_int (W0 := W0) w p (rdNext (rdNext (some s) 8) 2) 2 R)
  have k4 := Lib.hid (fun w R => rs_raw (W0 := W0) w p (rdNext (rdNext (rdNext (some s) 8) 2) 2) (cutL s) (backZ_range _).1 (backZ_range _).2 R)
  rw [show ((sizeK 8 : Nat) : Int) = 8 from rfl, show backZ (rdPart (some s) 8) = cutN s from rfl] at k1
  rw [show ((sizeK 2 : Nat) : Int) = 2 from rfl, show backZ (rdPart (rdNext (some s) 8) 2) = cutI s from rfl] at k2
  rw [show ((sizeK 2 : Nat) : Int) = 2 from rfl, show backZ (rdPart (rdNext (rdNext (some s) 8) 2) 2) = cutL s from rfl] at k3
  rw [show rdPart (rdNext (rdNext (rdNext (some s) 8) 2) 2) (cutL s) = cutD s from rfl] at k4
  have hlf := Lib.hid (leafOf_cut s)
  have hby := Lib.hid (fun w => stBytes_any (cutN s) (cutI s) (cutD s) w (Nat.le_trans (cutD_le s) hs))
  generalize cutN s = N at *
  generalize cutI s = I at *
  generalize cutL s = L at *
  generalize cutD s = D at *
  go_wp2_with fail
  refine (k1.out _ R).mono ?_
  clear k1 R
  rintro e W2 ⟨rfl, R⟩
  go_wp2_with fail
  refine (k2.out _ R).mono ?_
  clear k2 R
  rintro e W3 ⟨rfl, R⟩
  go_wp2_with fail
  refine (k3.out _ R).mono ?_
  clear k3 R
  rintro e W4 ⟨rfl, R⟩
  go_wp2_with fail
  refine (k4.out _ R).mono ?_
  clear k4
  rintro e W5 ⟨rfl, R⟩
  have bel := R.bel
  have bx := hbx.later bel
  have c0 := bx.spot 0 _ rfl
  have c1 := bx.spot 1 _ rfl
  have c2 := bx.spot 2 _ rfl
  have lt := bx.lt
  clear R
  go_wp2_with fail
  refine (hby.out _).mono ?_
  rintro e W6 ⟨rfl, hb⟩
  have bel6 : Below W5.heap.size W5 W6 := ((Below.refl _ _).alloc (Nat.le_refl _) (.cells #[.int .i64 N, .int .i64 I, .string D] 49)).trans (hb.mono (by simp))
  have bx6 := bx.later bel6
  have bl := (BoxAt.new W5 [.int .i64 N, .int .i64 I, .string D] 49).later hb
  have hfz6 : ∀ j, W6.frozen? ⟨W.heap.size, j, none⟩ = false := fun j => by
    rw [(bel.trans (bel6.mono bel.size)).frozen (p := ⟨W.heap.size, j, none⟩) hbx.lt]; exact hfz j
  have d0 := bl.spot 0 _ rfl
  have d1 := bl.spot 1 _ rfl
  have d2 := bl.spot 2 _ rfl
  have c0 := bx6.spot 0 _ rfl
  have c1 := bx6.spot 1 _ rfl
  have c2 := bx6.spot 2 _ rfl
  have f0 := hfz6 0
  have f1 := hfz6 1
  have f2 := hfz6 2
  have lt6 := bx6.lt
  have hne : W.heap.size ≠ W5.heap.size := by omega
  have hall : Below W.heap.size W W6 := hbw.trans ((bel.trans (bel6.mono bel.size)).mono hbw.size)
  clear hb bel6 bel hby bx hbx bl hfz hfz6 hbw
  by_cases hok : okLeaf N I D = true
  · have hS := Lib.hid (show bytesS N I D = secB N I D by unfold bytesS; rw [if_pos hok])
    have hE := Lib.hid (show bytesE N I D = 0 by unfold bytesE; rw [if_pos hok])
    by_cases hq : secB N I D = s
    · have hlf1 := Lib.hid (show leafOf s = some (N, I, D) by rw [hlf.out, if_pos ⟨hok, hq⟩])
      clear hlf
      rw [hS.out, hE.out, hq]
      clear hS hE hq hok
      go_wp2_with fail
      obtain ⟨g0, g1, g2⟩ := cells_put3 (x := .int .i64 N) (y := .int .i64 I) (z := .string D) c0 c1 c2
      refine bodyPost_ret (v := .tuple #[leafA N I D, .bool true]) ?_ rfl ⟨by rw [hlf1.out]; rfl, below_put3 (Nat.le_refl _) hall _ _ _⟩
      simp [results, Try.results24, go_sem, g0, g1, g2, leafA]
    · have hlf1 := Lib.hid (show leafOf s = none by rw [hlf.out, if_neg (fun h => hq h.2)])
      have hqt : ((secB N I D).toList == s.toList) = false := by rw [toList_beqr, decide_eq_false hq]
      clear hlf
      rw [hS.out, hE.out]
      clear hS hE hq hok
      generalize secB N I D = t at *
      go_wp2_with fail
      obtain ⟨g0, g1, g2⟩ := cells_put3 (x := .int .i64 0) (y := .int .i64 0) (z := .string ⟨#[]⟩) c0 c1 c2
      refine bodyPost_ret (v := .tuple #[leafA 0 0 ⟨#[]⟩, .bool false]) ?_ rfl ⟨by rw [hlf1.out]; rfl, below_put3 (Nat.le_refl _) hall _ _ _⟩
      simp [results, Try.results24, go_sem, g0, g1, g2, leafA]
  · have hS := Lib.hid (show bytesS N I D = ⟨#[]⟩ by unfold bytesS; rw [if_neg hok])
    have hE := Lib.hid (show bytesE N I D = 1 by unfold bytesE; rw [if_neg hok])
    have hlf1 := Lib.hid (show leafOf s = none by rw [hlf.out, if_neg (fun h => hok h.1)])
    clear hlf
    rw [hS.out, hE.out]
    clear hS hE hok
    go_wp2_with fail
    obtain ⟨g0, g1, g2⟩ := cells_put3 (x := .int .i64 0) (y := .int .i64 0) (z := .string ⟨#[]⟩) c0 c1 c2
    refine bodyPost_ret (v := .tuple #[leafA 0 0 ⟨#[]⟩, .bool false]) ?_ rfl ⟨by rw [hlf1.out]; rfl, below_put3 (Nat.le_refl _) hall _ _ _⟩
    simp [results, Try.results24, go_sem, g0, g1, g2, leafA]
end Go.Proofs.Ytgolddcmhjdmdaa
