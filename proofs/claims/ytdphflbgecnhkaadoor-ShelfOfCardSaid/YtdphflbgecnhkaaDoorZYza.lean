/- Stage 26: the landed shelf's Of: its walk. No condition but that a number is one. -/
import Derived.Test.YtdphflbgecnhkaaDoorZYz
import Derived.Deep.RegionHeld3
namespace Go.Proofs.YtdphflbgecnhkaaDoor
open Go.RowKit Go.Sort Wm

theorem getD_byte (b : ByteArray) (j : Nat) (h : j < b.size) : (b.data.toList.getD j 0) = b[j] := by
  have h2 : j < b.data.toList.length := h
  rw [List.getD_eq_getElem?_getD, List.getElem?_eq_getElem h2]
  rfl
theorem put3_0 {W : World} {b : Nat} {x y z u v t : Value} (h : W.cell? ⟨b, 0, none⟩ = some u) (_k : W.cell? ⟨b, 1, none⟩ = some v) (_l : W.cell? ⟨b, 2, none⟩ = some t) : (((W.setCell ⟨b, 0, none⟩ x).setCell ⟨b, 1, none⟩ y).setCell ⟨b, 2, none⟩ z).cell? ⟨b, 0, none⟩ = some x := by
  rw [World.cell?_setCell_other (h := by simp), World.cell?_setCell_other (h := by simp), World.cell?_setCell_same (h := h)]
theorem put3_1 {W : World} {b : Nat} {x y z u v t : Value} (_h : W.cell? ⟨b, 0, none⟩ = some u) (k : W.cell? ⟨b, 1, none⟩ = some v) (_l : W.cell? ⟨b, 2, none⟩ = some t) : (((W.setCell ⟨b, 0, none⟩ x).setCell ⟨b, 1, none⟩ y).setCell ⟨b, 2, none⟩ z).cell? ⟨b, 1, none⟩ = some y := by
  rw [World.cell?_setCell_other (h := by simp), World.cell?_setCell_same (u := v)]
  rw [World.cell?_setCell_other (h := by simp)]; exact k
theorem put3_2 {W : World} {b : Nat} {x y z u v t : Value} (_h : W.cell? ⟨b, 0, none⟩ = some u) (_k : W.cell? ⟨b, 1, none⟩ = some v) (l : W.cell? ⟨b, 2, none⟩ = some t) : (((W.setCell ⟨b, 0, none⟩ x).setCell ⟨b, 1, none⟩ y).setCell ⟨b, 2, none⟩ z).cell? ⟨b, 2, none⟩ = some z := by
  rw [World.cell?_setCell_same (u := t)]
  rw [World.cell?_setCell_other (h := by simp), World.cell?_setCell_other (h := by simp)]; exact l
set_option maxRecDepth 100000 in
set_option maxHeartbeats 4000000 in
theorem shOf_walk (n : Nat) (b : ByteArray) (hnb : b = numB n) (hb : b.size = 16) (hb14 : 14 < b.size) (hb15 : 15 < b.size) (ans : Bool) (hans : (decide (b[15] = 1) && goodPl (ofQ n)) = ans) (w : World) : Calls Tryd.prog 10 #[numV n] w fun e w' => e = .returned (.tuple #[if ans = true then placeV (ofQ n) else placeV noPl, .bool ans]) ∧ Below w.heap.size w w' := by
  have cB : Hid (∀ W, Calls Tryd.prog 17 #[.agg #[.int .u64 ((hiN n : Nat) : Int), .int .u64 ((loN n : Nat) : Int)]] W fun e W' => e = .returned (.string b) ∧ Below W.heap.size W W') := Lib.hid (fun W => by subst hnb; exact bytes_any n W)
  have c1 := Lib.hid (fun W => shNameOf_q (b.extract 0 10) (by rw [ByteArray.size_extract]; omega) W)
  have c2 := Lib.hid (fun W => shNameOf_q (b.extract 10 14) (by rw [ByteArray.size_extract]; omega) W)
  have hq : placeV (ofQ n) = .agg #[.string (nameOf (b.extract 0 10)), .string (nameOf (b.extract 10 14)), .int .i64 ((b[14].toNat : Nat) : Int)] := by
    subst hnb
    rw [placeV_eq, ← getD_byte]
    rfl
  have hz : placeV noPl = .agg #[.string ByteArray.empty, .string ByteArray.empty, .int .i64 0] := rfl
  have cG := Lib.hid (fun W => shGood_any (ofQ n) (ofQ_wf n) W)
  have hv : numV n = .agg #[.int .u64 ((hiN n : Nat) : Int), .int .u64 ((loN n : Nat) : Int)] := rfl
  rw [hq, hz, hv] at *
  clear hq hz hv hnb
  have hw : IntKind.i64.wrap ((b[14].toNat : Nat) : Int) = ((b[14].toNat : Nat) : Int) := by have := UInt8.toNat_lt b[14]; rw [IntKind.wrap_i64]; omega
  have h15 : ((((b[15].toNat : Nat) : Int)) != 1) = !decide (b[15] = 1) := by
    by_cases h : b[15] = 1
    · rw [decide_eq_true h, h]; rfl
    · rw [decide_eq_false h, bne_iff_ne.2 (fun e => h (UInt8.toNat_inj.1 (by show b[15].toNat = 1; omega)))]; rfl
  generalize decide (b[15] = 1) = d15 at *
  generalize goodPl (ofQ n) = gd at *
  generalize ((hiN n : Nat) : Int) = y0 at *
  generalize ((loN n : Nat) : Int) = y1 at *
  generalize nameOf (b.extract 0 10) = G at *
  generalize nameOf (b.extract 10 14) = S at *
  go_enter Tryd.func10, Tryd.ntmps10
  go_wp2_with fail
  refine (cB.out _).mono ?_
  rintro e W1 ⟨rfl, hb1⟩
  have hO : OfW w W1 := ⟨by rw [hb1.cell (p := ⟨w.heap.size + 1, 0, none⟩) (by simp)]; simp [go_sem]; rfl, by rw [hb1.cell (p := ⟨w.heap.size + 1, 1, none⟩) (by simp)]; simp [go_sem]; rfl, by rw [hb1.cell (p := ⟨w.heap.size + 1, 2, none⟩) (by simp)]; simp [go_sem],
    fun j => by rw [hb1.frozen (p := ⟨w.heap.size + 1, j, none⟩) (by simp)]; simp [go_sem], Nat.lt_of_lt_of_le (by simp) hb1.size, ((Below.refl _ _).alloc (Nat.le_refl _) _).alloc (by simp) _ |>.trans (hb1.mono (by simp; omega))⟩
  clear hb1 cB
  go_wp2_with fail
  go_region_held3 (fun w' => OfW w w') (first | exact hO.later ((Below.refl _ _).drew) | exact hO.later ((Below.refl _ _).alloc (Nat.le_refl _) _).drew | exact hO.later ((Below.refl _ _).drew.alloc (Nat.le_refl _) _) | assumption)
    (first | (go_at_call 18; with_reducible refine (c1.out _).mono ?_; rintro e wx ⟨rfl, rfl⟩) | (go_at_call 18; with_reducible refine (c2.out _).mono ?_; rintro e wx ⟨rfl, rfl⟩))
  all_goals
    have hO2 : OfW w ((W1.alloc (.cells #[.string G, .string S, .int .i64 ((b[14].toNat : Nat) : Int)] 23)).drew) := hO.later ((Below.refl _ _).alloc (Nat.le_refl _) _).drew
    have hbx : BoxAt ((W1.alloc (.cells #[.string G, .string S, .int .i64 ((b[14].toNat : Nat) : Int)] 23)).drew) W1.heap.size [.string G, .string S, .int .i64 ((b[14].toNat : Nat) : Int)] := (BoxAt.new W1 _ _).later ((Below.refl _ _).drew)
    generalize (W1.alloc (.cells #[.string G, .string S, .int .i64 ((b[14].toNat : Nat) : Int)] 23)).drew = W2 at *
    generalize W1.heap.size = B at *
    clear hO
    have k0 := hbx.spot 0 _ rfl
    have k1 := hbx.spot 1 _ rfl
    have k2 := hbx.spot 2 _ rfl
    have r0 := hO2.r0
    have r1 := hO2.r1
    have r2 := hO2.r2
    have q0 := hO2.g 0
    have q1 := hO2.g 1
    have q2 := hO2.g 2
    cases d15
    · obtain rfl : ans = false := by rw [← hans]; rfl
      all_goals
        go_wp2
        refine bodyPost_ret (v := .tuple #[.agg #[.string ⟨#[]⟩, .string ⟨#[]⟩, .int .i64 0], .bool false]) ?_ rfl ?_
        · simp [results, Tryd.results10, go_sem, put3_0 r0 r1 r2, put3_1 r0 r1 r2, put3_2 r0 r1 r2]
        · exact ⟨rfl, ((hO2.below.setCell (by simp) _).setCell (by simp) _).setCell (by simp) _⟩
    · obtain rfl : ans = gd := by rw [← hans]; rfl
      cases ans
      all_goals
        go_wp2_with (go_at_call 8; with_reducible refine (cG.out _).mono ?_; rintro e W3 ⟨rfl, hb3⟩; replace hO2 := hO2.later hb3; replace hbx := hbx.later hb3; clear hb3; clear r0 r1 r2 q0 q1 q2 k0 k1 k2; have r0 := hO2.r0; have r1 := hO2.r1; have r2 := hO2.r2; have q0 := hO2.g 0; have q1 := hO2.g 1; have q2 := hO2.g 2; have k0 := hbx.spot 0 _ rfl; have k1 := hbx.spot 1 _ rfl; have k2 := hbx.spot 2 _ rfl)
      · refine bodyPost_ret (v := .tuple #[.agg #[.string ⟨#[]⟩, .string ⟨#[]⟩, .int .i64 0], .bool false]) ?_ rfl ?_
        · simp [results, Tryd.results10, go_sem, put3_0 r0 r1 r2, put3_1 r0 r1 r2, put3_2 r0 r1 r2]
        · exact ⟨rfl, ((hO2.below.setCell (by simp) _).setCell (by simp) _).setCell (by simp) _⟩
      · refine bodyPost_ret (v := .tuple #[.agg #[.string G, .string S, .int .i64 ((b[14].toNat : Nat) : Int)], .bool true]) ?_ rfl ?_
        · simp [results, Tryd.results10, go_sem, put3_0 r0 r1 r2, put3_1 r0 r1 r2, put3_2 r0 r1 r2]
        · exact ⟨rfl, ((hO2.below.setCell (by simp) _).setCell (by simp) _).setCell (by simp) _⟩
theorem shOf_any (n : Nat) (w : World) : Calls Tryd.prog 10 #[numV n] w fun e w' => e = .returned (.tuple #[placeV ((ofPl n).getD noPl), .bool (ofPl n).isSome]) ∧ Below w.heap.size w w' := by
  have h15 : 15 < (numB n).size := by rw [numB_size]; decide
  have h := shOf_walk n (numB n) rfl (numB_size n) (by rw [numB_size]; decide) h15 _ rfl w
  rw [← getD_byte (numB n) 15 h15] at h
  by_cases c : (numB n).data.toList.getD 15 0 = 1 ∧ goodPl (ofQ n) = true
  · rw [ofPl_yes c.1 c.2]
    rw [decide_eq_true c.1, c.2] at h
    exact h
  · rw [ofPl_no c]
    have e : (decide ((numB n).data.toList.getD 15 0 = 1) && goodPl (ofQ n)) = false := by
      rw [Bool.and_eq_false_iff]
      by_cases c1 : (numB n).data.toList.getD 15 0 = 1
      · exact .inr (by rw [Bool.eq_false_iff]; exact fun h2 => c ⟨c1, h2⟩)
      · exact .inl (decide_eq_false c1)
    rw [e] at h
    exact h
end Go.Proofs.YtdphflbgecnhkaaDoor
