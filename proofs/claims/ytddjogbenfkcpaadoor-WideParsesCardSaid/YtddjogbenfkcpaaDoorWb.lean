/- The contracts of the document's own sums and order (bit by bit) and of layer 1's order. Numbers below 2^128. -/
import Derived.Test.YtddjogbenfkcpaaDoorWa
namespace Go.Proofs.YtddjogbenfkcpaaDoor
open Go.RowKit Go.Sort Wm

theorem less_any (a b : Nat) (w : World) :
    Calls Tryd.prog 17 #[numV a, numV b] w fun e w' => e = .returned (.bool (lessN a b)) ∧ Below w.heap.size w w' := by
  have e := Lib.hid (cmpN_neg a b)
  go_enter Tryd.func17, Tryd.ntmps17
  go_wp2_with (go_at_call 16; refine (compare_any _ _ _).mono ?_; rintro e w1 ⟨rfl, hw1⟩)
  go_ret
  refine ⟨by simp [e.out], ?_⟩
  exact ((((Below.refl _ _).alloc (Nat.le_refl _) _).alloc (by simp) _)).trans (hw1.mono (by simp; omega))

theorem ret_bool {a b : Bool} (h : a = b) : Ending.returned (.bool a) = .returned (.bool b) := by rw [h]
theorem zero_any (a : Nat) (w : World) :
    Calls Tryd.prog 19 #[numV a] w fun e w' => e = .returned (.bool (decide (a = 0))) ∧ Below w.heap.size w w' := by
  have e := Lib.hid (zero_iff a)
  go_enter Tryd.func19, Tryd.ntmps19
  go_wp2
  all_goals go_ret
  all_goals refine ⟨ret_bool ?_, (Below.refl _ _).alloc (Nat.le_refl _) _⟩
  · exact (decide_eq_true (e.out.1 ⟨‹_›, ‹_›⟩)).symm
  · exact (decide_eq_false (fun h => by have := e.out.2 h; exact absurd this.2 ‹_›)).symm
  · exact (decide_eq_false (fun h => by have := e.out.2 h; exact absurd this.1 ‹_›)).symm

/-- Two numbers that a call has boxed. -/
structure Two (w wr : World) (a b : Nat) : Prop where
  c0 : wr.cell? ⟨w.heap.size, 0, none⟩ = some (.int .u64 ((hiN a : Nat) : Int))
  c1 : wr.cell? ⟨w.heap.size, 1, none⟩ = some (.int .u64 ((loN a : Nat) : Int))
  c2 : wr.cell? ⟨w.heap.size + 1, 0, none⟩ = some (.int .u64 ((hiN b : Nat) : Int))
  c3 : wr.cell? ⟨w.heap.size + 1, 1, none⟩ = some (.int .u64 ((loN b : Nat) : Int))
  size : w.heap.size + 2 ≤ wr.heap.size
  below : Below w.heap.size w wr
theorem Two.later {w wr w2 : World} {a b : Nat} (h : Two w wr a b) (hb : Below wr.heap.size wr w2) : Two w w2 a b :=
  have hs := h.size
  ⟨(hb.cell (by show w.heap.size < _; omega)).trans h.c0, (hb.cell (by show w.heap.size < _; omega)).trans h.c1, (hb.cell (by show w.heap.size + 1 < _; omega)).trans h.c2, (hb.cell (by show w.heap.size + 1 < _; omega)).trans h.c3,
    Nat.le_trans h.size hb.size, h.below.trans (hb.mono (by omega))⟩

set_option maxHeartbeats 1000000 in
theorem refless_any (a b : Nat) (ha : a < big) (hb : b < big) (w : World) :
    Calls Tryd.prog 15 #[numV a, numV b] w fun e w' => e = .returned (.bool (lessN a b)) ∧ Below w.heap.size w w' := by
  have top := Lib.hid (show a / 2 ^ 128 = b / 2 ^ 128 by rw [top_zero a ha, top_zero b hb])
  clear ha hb
  go_enter Tryd.func15, Tryd.ntmps15
  go_wp2
  go_loopw [5] (fun i wr => ∃ k : Nat, k ≤ 128 ∧ i = .int .i64 ((k : Int) - 1) ∧ Hid (a / 2 ^ k = b / 2 ^ k) ∧ Two w wr a b) (fun i _ => (intOf i + 1).toNat)
  case atStart => 
    exact ⟨128, by omega, rfl, top, ⟨by simp, by simp, by simp, by simp, by simp, ((((Below.refl _ _).alloc (Nat.le_refl _) _).alloc (by simp) _))⟩⟩
  case round =>
    obtain ⟨k, hk, rfl, hm, hT⟩ := hrel
    have tc0 := hT.c0
    have tc1 := hT.c1
    have tc2 := hT.c2
    have tc3 := hT.c3
    by_cases h0 : k = 0
    · subst h0
      have e : lessN a b = false := by
        have := hm.out; simp at this; unfold lessN; simp [this]
      go_wp2
      go_ret
      exact ⟨ret_bool e.symm, hT.below⟩
    · obtain ⟨j, rfl⟩ : ∃ j, k = j + 1 := ⟨k - 1, by omega⟩
      have ej : (((j + 1 : Nat) : Int) - 1) = (j : Int) := by omega
      rw [ej]
      clear ej
      have cA : ∀ W n d os, Calls Tryd.prog 28 #[numV n, .int .i64 j] (grow (redrawn W d) os) fun e w'' => e = .returned (.int .i64 ((bitN n j : Nat) : Int)) ∧ ∃ p : Regrown, w'' = grow (redrawn W p.d) p.os := fun W n d os => Calls.regrown_of (bit_any n j (by omega) _)
      go_wp2
      have k0 := cell_regrown tc0
      have k1 := cell_regrown tc1
      have k2 := cell_regrown tc2
      have k3 := cell_regrown tc3
      refine wp_region_quiet_below (by kernel_rfl) (by kernel_rfl) ?_
      repeat (quiet_step (with_reducible exact cA _ _ _ _))
      refine wpQuiet_nil ?_
      intro w2 hw'
      obtain ⟨pq, hw''⟩ := hw'
      have hb2 : Below wr.heap.size wr w2 := by rw [hw'']; exact below_regrown _ _ _
      clear hw'' tc0 tc1 tc2 tc3 k0 k1 k2 k3
      replace hT := hT.later hb2
      clear hb2
      have tc0 := hT.c0
      have tc1 := hT.c1
      have tc2 := hT.c2
      have tc3 := hT.c3
      by_cases hbit : bitN a j = bitN b j
      · have e := eq_of_bits a b j hm.out hbit
        rw [hbit]
        clear hbit
        go_wp2
        go_roundw
        case rel => exact ⟨j, by omega, rfl, e, hT⟩
        case measure => simp [intOf]
      · have e : decide (bitN a j < bitN b j) = lessN a b := by
          unfold lessN; rw [decide_eq_decide, lt_of_bit a b j hm.out hbit]
        have hne : (((bitN a j : Nat) : Int) != ((bitN b j : Nat) : Int)) = true := by rw [bne_iff_ne]; omega
        go_wp2
        have k0 := cell_regrown tc0
        have k1 := cell_regrown tc1
        have k2 := cell_regrown tc2
        have k3 := cell_regrown tc3
        refine wp_region_quiet_below (by kernel_rfl) (by kernel_rfl) ?_
        repeat (quiet_step (with_reducible exact cA _ _ _ _))
        refine wpQuiet_nil ?_
        intro w3 hw'
        obtain ⟨pq, hw''⟩ := hw'
        have hb2 : Below w2.heap.size w2 w3 := by rw [hw'']; exact below_regrown _ _ _
        clear hw'' tc0 tc1 tc2 tc3 k0 k1 k2 k3
        replace hT := hT.later hb2
        clear hb2
        go_wp2
        go_ret
        exact ⟨rfl, hT.below⟩

/-- Two boxed numbers, a result's cell and a number that is gathered. -/
structure Gath (w wr : World) (g a b o : Nat) : Prop where
  two : Two w wr a b
  r0 : ∃ v, wr.cell? ⟨w.heap.size + 1 + 1, 0, none⟩ = some v
  r1 : ∃ v, wr.cell? ⟨w.heap.size + 1 + 1, 1, none⟩ = some v
  f0 : wr.frozen? ⟨w.heap.size + 1 + 1, 0, none⟩ = false
  f1 : wr.frozen? ⟨w.heap.size + 1 + 1, 1, none⟩ = false
  o0 : wr.cell? ⟨g, 0, none⟩ = some (.int .u64 ((hiN o : Nat) : Int))
  o1 : wr.cell? ⟨g, 1, none⟩ = some (.int .u64 ((loN o : Nat) : Int))
  g0 : wr.frozen? ⟨g, 0, none⟩ = false
  g1 : wr.frozen? ⟨g, 1, none⟩ = false
  lt : w.heap.size + 1 + 1 < g
  size : g < wr.heap.size
theorem Gath.later {w wr w2 : World} {g a b o : Nat} (h : Gath w wr g a b o) (hb : Below wr.heap.size wr w2) : Gath w w2 g a b o :=
  have hs := h.size
  have hl := h.lt
  have c2 : ∀ j, w2.cell? ⟨w.heap.size + 1 + 1, j, none⟩ = wr.cell? ⟨w.heap.size + 1 + 1, j, none⟩ := fun j => hb.cell (by show w.heap.size + 1 + 1 < _; omega)
  have c3 : ∀ j, w2.cell? ⟨g, j, none⟩ = wr.cell? ⟨g, j, none⟩ := fun j => hb.cell (by show g < _; omega)
  have f2 : ∀ j, w2.frozen? ⟨w.heap.size + 1 + 1, j, none⟩ = wr.frozen? ⟨w.heap.size + 1 + 1, j, none⟩ := fun j => hb.frozen (by show w.heap.size + 1 + 1 < _; omega)
  have f3 : ∀ j, w2.frozen? ⟨g, j, none⟩ = wr.frozen? ⟨g, j, none⟩ := fun j => hb.frozen (by show g < _; omega)
  ⟨h.two.later hb, by rw [c2]; exact h.r0, by rw [c2]; exact h.r1, by rw [f2]; exact h.f0, by rw [f2]; exact h.f1, by rw [c3]; exact h.o0, by rw [c3]; exact h.o1, by rw [f3]; exact h.g0, by rw [f3]; exact h.g1, h.lt, Nat.lt_of_lt_of_le h.size hb.size⟩

theorem cell_put0 {W : World} {b : Nat} {x y u v : Value} (h : W.cell? ⟨b, 0, none⟩ = some u) (_k : W.cell? ⟨b, 1, none⟩ = some v) : ((W.setCell ⟨b, 0, none⟩ x).setCell ⟨b, 1, none⟩ y).cell? ⟨b, 0, none⟩ = some x := by
  rw [World.cell?_setCell_other (h := by simp), World.cell?_setCell_same (h := h)]
theorem cell_put1 {W : World} {b : Nat} {x y u v : Value} (_h : W.cell? ⟨b, 0, none⟩ = some u) (k : W.cell? ⟨b, 1, none⟩ = some v) : ((W.setCell ⟨b, 0, none⟩ x).setCell ⟨b, 1, none⟩ y).cell? ⟨b, 1, none⟩ = some y := by
  rw [World.cell?_setCell_same (u := v)]
  rw [World.cell?_setCell_other (h := by simp)]; exact k
theorem cell_put_far {W : World} {b c j : Nat} {x y : Value} (h : c ≠ b) : ((W.setCell ⟨b, 0, none⟩ x).setCell ⟨b, 1, none⟩ y).cell? ⟨c, j, none⟩ = W.cell? ⟨c, j, none⟩ := by
  rw [World.cell?_setCell_other, World.cell?_setCell_other]
  all_goals (intro e; injection e with e1 _ _; exact h e1.symm)
theorem Two.put {w wr : World} {a b : Nat} (h : Two w wr a b) {c : Nat} (x y : Value) (hc : w.heap.size + 1 < c) : Two w ((wr.setCell ⟨c, 0, none⟩ x).setCell ⟨c, 1, none⟩ y) a b :=
  ⟨by rw [cell_put_far (by omega)]; exact h.c0, by rw [cell_put_far (by omega)]; exact h.c1, by rw [cell_put_far (by omega)]; exact h.c2, by rw [cell_put_far (by omega)]; exact h.c3, by simpa using h.size,
    (h.below.setCell (by show _ ≤ c; omega) _).setCell (by show _ ≤ c; omega) _⟩
theorem Gath.put {w wr : World} {g a b o o' : Nat} (h : Gath w wr g a b o) : Gath w ((wr.setCell ⟨g, 0, none⟩ (.int .u64 ((hiN o' : Nat) : Int))).setCell ⟨g, 1, none⟩ (.int .u64 ((loN o' : Nat) : Int))) g a b o' :=
  have hl := h.lt
  ⟨h.two.put _ _ (by omega), by rw [cell_put_far (by omega)]; exact h.r0, by rw [cell_put_far (by omega)]; exact h.r1, by simpa using h.f0, by simpa using h.f1, cell_put0 h.o0 h.o1, cell_put1 h.o0 h.o1, by simpa using h.g0, by simpa using h.g1, h.lt, by simpa using h.size⟩
theorem intV {a b : Int} (h : a = b) : Value.int .i64 a = .int .i64 b := by rw [h]

set_option maxRecDepth 100000 in
set_option maxHeartbeats 1000000 in
theorem refadd_any (a b : Nat) (ha : a < big) (hb : b < big) (w : World) :
    Calls Tryd.prog 11 #[numV a, numV b] w fun e w' => e = .returned (.tuple #[numV (sumN a b), .bool (sumOk a b)]) ∧ Below w.heap.size w w' := by
  have hend := Lib.hid (acc_end a b ha hb)
  have hle1 := Lib.hid (show (a + b) / big < 2 by rw [big_eq] at *; omega)
  clear ha hb
  go_enter Tryd.func11, Tryd.ntmps11
  go_wp2
  go_loopw [7, 8] (fun c i wr => ∃ k : Nat, k ≤ 128 ∧ i = .int .i64 k ∧ c = .int .i64 ((carN a b k : Nat) : Int) ∧ Gath w wr (w.heap.size + 1 + 1 + 1) a b (accN a b k)) (fun _ i _ => (128 - intOf i).toNat)
  case atStart =>
    refine ⟨0, by omega, rfl, by rw [carN_zero]; rfl, ?_⟩
    rw [accN_zero]
    have hbl : ∀ A B C D : Obj, Below w.heap.size w ((((w.alloc A).alloc B).alloc C).alloc D) := fun A B C D => ((((Below.refl _ _).alloc (Nat.le_refl _) _).alloc (by simp) _).alloc (by simp; omega) _).alloc (by simp; omega) _
    exact ⟨⟨by simp [go_sem], by simp [go_sem], by simp [go_sem], by simp [go_sem], by simp, hbl _ _ _ _⟩, ⟨.int .u64 0, by simp [go_sem]⟩, ⟨.int .u64 0, by simp [go_sem]⟩, by simp [go_sem], by simp [go_sem], by simp [go_sem, hiN_zero], by simp [go_sem, loN_zero], by simp [go_sem], by simp [go_sem], by omega, by simp⟩
  case round =>
    obtain ⟨k, hk, rfl, rfl, hG⟩ := hrel
    by_cases hlt : k < 128
    · have cA : ∀ W n d os, Calls Tryd.prog 28 #[numV n, .int .i64 k] (grow (redrawn W d) os) fun e w'' => e = .returned (.int .i64 ((bitN n k : Nat) : Int)) ∧ ∃ p : Regrown, w'' = grow (redrawn W p.d) p.os := fun W n d os => Calls.regrown_of (bit_any n k hlt _)
      have tc0 := hG.two.c0
      have tc1 := hG.two.c1
      have tc2 := hG.two.c2
      have tc3 := hG.two.c3
      have z1 := bitN_lt a k
      have z2 := bitN_lt b k
      have z3 := carN_lt a b k
      go_wp2
      have k0 := cell_regrown tc0
      have k1 := cell_regrown tc1
      have k2 := cell_regrown tc2
      have k3 := cell_regrown tc3
      refine wp_region_quiet_below (by kernel_rfl) (by kernel_rfl) ?_
      repeat (quiet_step (with_reducible exact cA _ _ _ _))
      refine wpQuiet_nil ?_
      intro w2 hw'
      obtain ⟨pq, hw''⟩ := hw'
      have hb2 : Below wr.heap.size wr w2 := by rw [hw'']; exact below_regrown _ _ _
      clear hw'' tc0 tc1 tc2 tc3 k0 k1 k2 k3
      replace hG := hG.later hb2
      clear hb2
      clear cA
      rw [wrap3 z1 z2 z3]
      have hst := step_sum a b k (bitN a k + bitN b k + carN a b k) rfl
      generalize hn : bitN a k + bitN b k + carN a b k = n at *
      have z4 : n < 4 := by omega
      clear hn z1 z2 z3
      have hq := Lib.hid (quo_two n)
      have hsz := hG.size
      have to0 := hG.o0
      have to1 := hG.o1
      have hlt2 := accN_lt a b k
      by_cases hodd : n % 2 = 1
      · have hb1 : (((n : Nat) : Int) % 2 == 1) = true := by rw [beq_iff_eq]; omega
        have hst1 : accN a b (k + 1) = accN a b k + 2 ^ k := by rw [hst.1, hodd]; omega
        have hst2 := Lib.hid hst.2
        clear hst hodd
        go_wp2_with (go_at_call 29; with_reducible refine (set_any _ _ hlt hlt2 _).mono ?_)
        rintro e w3 ⟨rfl, hw3⟩
        rw [← hst1]
        replace hst1 := Lib.hid hst1
        replace hG := hG.later hw3
        clear to0 to1 hw3 hsz
        have ho : hiN 0 = 0 := rfl
        have to0 := hG.o0
        have to1 := hG.o1
        have tg0 := hG.g0
        have tg1 := hG.g1
        go_wp2
        refine ⟨⟨k + 1, by omega, by go_num, intV ?_, hG.put⟩, by simp [intOf]; omega⟩
        rw [hst2.out]; omega
      · have hb1 : (((n : Nat) : Int) % 2 == 1) = false := by rw [beq_eq_false_iff_ne]; omega
        have hst1 : accN a b (k + 1) = accN a b k := by rw [hst.1, show n % 2 = 0 by omega]; omega
        have hst2 := Lib.hid hst.2
        clear hst hodd
        go_wp2
        refine ⟨⟨k + 1, by omega, by go_num, intV ?_, by rw [hst1]; exact hG⟩, by simp [intOf]; omega⟩
        rw [hst2.out]; omega
    · obtain rfl : k = 128 := by omega
      have e1 := hend.out.1
      have e2 := hend.out.2
      rw [e2]
      rw [e1] at hG
      clear e1 e2 hend
      have tr0 := hG.r0
      have tr1 := hG.r1
      obtain ⟨v0, tr0⟩ := tr0
      obtain ⟨v1, tr1⟩ := tr1
      have tf0 := hG.f0
      have tf1 := hG.f1
      have to0 := hG.o0
      have to1 := hG.o1
      by_cases h : a + b < big
      · rw [Nat.div_eq_of_lt h]
        rw [Nat.mod_eq_of_lt h] at to0 to1
        have hs := Lib.hid (sumN_yes h)
        have ho := Lib.hid (sumOk_yes h)
        clear h
        go_wp2
        refine bodyPost_ret (v := .tuple #[numV (a + b), .bool true]) ?_ rfl ?_
        · simp [results, Tryd.results11, go_sem, cell_put0 tr0 tr1, cell_put1 tr0 tr1]
        · exact ⟨by rw [hs.out, ho.out], (hG.two.below.setCell (by show _ ≤ w.heap.size + 1 + 1; omega) _).setCell (by show _ ≤ w.heap.size + 1 + 1; omega) _⟩
      · rw [show (a + b) / big = 1 by have := hle1.out; rw [big_eq] at *; omega]
        have hs := Lib.hid (sumN_no h)
        have ho := Lib.hid (sumOk_no h)
        clear h
        go_wp2
        refine bodyPost_ret (v := .tuple #[numV 0, .bool false]) ?_ rfl ?_
        · simp [results, Tryd.results11, go_sem, cell_put0 tr0 tr1, cell_put1 tr0 tr1, hiN_zero, loN_zero]
        · exact ⟨by rw [hs.out, ho.out], (hG.two.below.setCell (by show _ ≤ w.heap.size + 1 + 1; omega) _).setCell (by show _ ≤ w.heap.size + 1 + 1; omega) _⟩

/-- Two boxed numbers and a result's cell. -/
structure Res (w wr : World) (a b : Nat) : Prop where
  two : Two w wr a b
  r0 : ∃ v, wr.cell? ⟨w.heap.size + 1 + 1, 0, none⟩ = some v
  r1 : ∃ v, wr.cell? ⟨w.heap.size + 1 + 1, 1, none⟩ = some v
  f0 : wr.frozen? ⟨w.heap.size + 1 + 1, 0, none⟩ = false
  f1 : wr.frozen? ⟨w.heap.size + 1 + 1, 1, none⟩ = false
  size : w.heap.size + 1 + 1 < wr.heap.size
abbrev W3 (w : World) (a b : Nat) : World := ((w.alloc (.cells #[.int .u64 ((hiN a : Nat) : Int), .int .u64 ((loN a : Nat) : Int)] 24)).alloc (.cells #[.int .u64 ((hiN b : Nat) : Int), .int .u64 ((loN b : Nat) : Int)] 24)).alloc (.cells #[.int .u64 0, .int .u64 0] 24)
theorem res_start (w : World) (a b : Nat) : Res w (W3 w a b) a b := by
  have hbl : ∀ A B C : Obj, Below w.heap.size w (((w.alloc A).alloc B).alloc C) := fun A B C => (((Below.refl _ _).alloc (Nat.le_refl _) _).alloc (by simp) _).alloc (by simp; omega) _
  exact ⟨⟨by simp [go_sem], by simp [go_sem], by simp [go_sem], by simp [go_sem], by simp, hbl _ _ _⟩, ⟨.int .u64 0, by simp [go_sem]⟩, ⟨.int .u64 0, by simp [go_sem]⟩, by simp [go_sem], by simp [go_sem], by simp⟩
theorem Res.later {w wr w2 : World} {a b : Nat} (h : Res w wr a b) (hb : Below wr.heap.size wr w2) : Res w w2 a b :=
  have hs := h.size
  have c2 : ∀ j, w2.cell? ⟨w.heap.size + 1 + 1, j, none⟩ = wr.cell? ⟨w.heap.size + 1 + 1, j, none⟩ := fun j => hb.cell (by show w.heap.size + 1 + 1 < _; omega)
  have f2 : ∀ j, w2.frozen? ⟨w.heap.size + 1 + 1, j, none⟩ = wr.frozen? ⟨w.heap.size + 1 + 1, j, none⟩ := fun j => hb.frozen (by show w.heap.size + 1 + 1 < _; omega)
  ⟨h.two.later hb, by rw [c2]; exact h.r0, by rw [c2]; exact h.r1, by rw [f2]; exact h.f0, by rw [f2]; exact h.f1, Nat.lt_of_lt_of_le h.size hb.size⟩
theorem Res.gath {w wr : World} {a b : Nat} (h : Res w wr a b) : Gath w (wr.alloc (.cells #[.int .u64 0, .int .u64 0] 24)) wr.heap.size a b 0 :=
  have hb : Below wr.heap.size wr (wr.alloc (.cells #[.int .u64 0, .int .u64 0] 24)) := (Below.refl _ _).alloc (Nat.le_refl _) _
  have k := h.later hb
  ⟨k.two, k.r0, k.r1, k.f0, k.f1, by simp [go_sem, hiN_zero], by simp [go_sem, loN_zero], by simp [go_sem], by simp [go_sem], h.size, by simp⟩
theorem bl_put {w wr : World} {c : Nat} {x y : Value} (h : Below w.heap.size w wr) (hc : w.heap.size ≤ c) : Below w.heap.size w ((wr.setCell ⟨c, 0, none⟩ x).setCell ⟨c, 1, none⟩ y) :=
  (h.setCell (by show _ ≤ c; omega) _).setCell (by show _ ≤ c; omega) _

set_option maxRecDepth 100000 in
set_option maxHeartbeats 2000000 in
theorem refsub_any (a b : Nat) (ha : a < big) (hb : b < big) (w : World) :
    Calls Tryd.prog 13 #[numV a, numV b] w fun e w' => e = .returned (.tuple #[numV (difN a b), .bool (difOk a b)]) ∧ Below w.heap.size w w' := by
  have hls := fun w => refless_any a b ha hb w
  by_cases h : a < b
  · have hl : lessN a b = true := decide_eq_true h
    rw [difN_no (by omega), difOk_no (by omega)]
    rw [hl] at hls
    clear ha hb h hl
    have Hls := Lib.hid hls
    clear hls
    go_enter Tryd.func13, Tryd.ntmps13
    go_wp2_with (go_at_call 15; with_reducible refine (Hls.out _).mono ?_)
    rintro e w1 ⟨rfl, hw1⟩
    have hR := (res_start w a b).later hw1
    clear hw1
    obtain ⟨v0, tr0⟩ := hR.r0
    obtain ⟨v1, tr1⟩ := hR.r1
    have tf0 := hR.f0
    have tf1 := hR.f1
    go_wp2
    refine bodyPost_ret (v := .tuple #[numV 0, .bool false]) ?_ rfl ?_
    · simp [results, Tryd.results13, go_sem, cell_put0 tr0 tr1, cell_put1 tr0 tr1, hiN_zero, loN_zero]
    · exact ⟨rfl, bl_put hR.two.below (by omega)⟩
  · have hl : lessN a b = false := decide_eq_false h
    have hend := Lib.hid (dis_end a b ha hb (by omega))
    rw [difN_yes (by omega), difOk_yes (by omega)]
    rw [hl] at hls
    clear ha hb h hl
    have Hls := Lib.hid hls
    clear hls
    go_enter Tryd.func13, Tryd.ntmps13
    go_wp2_with (go_at_call 15; with_reducible refine (Hls.out _).mono ?_)
    rintro e w1 ⟨rfl, hw1⟩
    have hR := (res_start w a b).later hw1
    clear hw1 Hls
    go_wp2
    go_loopw [7, 8] (fun c i wr => ∃ k : Nat, k ≤ 128 ∧ i = .int .i64 k ∧ c = .int .i64 ((borN a b k : Nat) : Int) ∧ Gath w wr w1.heap.size a b (disN a b k)) (fun _ i _ => (128 - intOf i).toNat)
    case atStart =>
      refine ⟨0, by omega, rfl, by rw [borN_zero]; rfl, ?_⟩
      rw [disN_zero]
      exact hR.gath
    case round =>
      clear hR
      obtain ⟨k, hk, rfl, rfl, hG⟩ := hrel
      by_cases hlt : k < 128
      · have cA : ∀ W n d os, Calls Tryd.prog 28 #[numV n, .int .i64 k] (grow (redrawn W d) os) fun e w'' => e = .returned (.int .i64 ((bitN n k : Nat) : Int)) ∧ ∃ p : Regrown, w'' = grow (redrawn W p.d) p.os := fun W n d os => Calls.regrown_of (bit_any n k hlt _)
        have tc0 := hG.two.c0
        have tc1 := hG.two.c1
        have tc2 := hG.two.c2
        have tc3 := hG.two.c3
        go_wp2
        have k0 := cell_regrown tc0
        have k1 := cell_regrown tc1
        have k2 := cell_regrown tc2
        have k3 := cell_regrown tc3
        refine wp_region_quiet_below (by kernel_rfl) (by kernel_rfl) ?_
        repeat (quiet_step (with_reducible exact cA _ _ _ _))
        refine wpQuiet_nil ?_
        intro w2 hw'
        obtain ⟨pq, hw''⟩ := hw'
        have hb2 : Below wr.heap.size wr w2 := by rw [hw'']; exact below_regrown _ _ _
        clear hw'' tc0 tc1 tc2 tc3 k0 k1 k2 k3
        replace hG := hG.later hb2
        clear hb2
        clear cA
        have hlt2 := (dis_eq a b k).2
        have to0 := hG.o0
        have to1 := hG.o1
        rcases step_dis a b k with ⟨hw, hs1, hs2⟩ | ⟨hw, hs1, hs2⟩ | ⟨hw, hs1, hs2⟩ | ⟨hw, hs1, hs2⟩
        · rw [hw]
          replace hs1 := Lib.hid hs1
          clear hw
          go_wp2
          exact ⟨⟨k + 1, by omega, by go_num, intV (by rw [hs1.out]; rfl), by rw [hs2]; exact hG⟩, by simp [intOf]; omega⟩
        · rw [hw]
          replace hs1 := Lib.hid hs1
          have hs3 := Lib.hid hs2
          clear hw
          go_wp2_with (go_at_call 29; with_reducible refine (set_any _ _ hlt hlt2 _).mono ?_)
          rintro e w3 ⟨rfl, hw3⟩
          rw [← hs3.out]
          clear hs2
          replace hG := hG.later hw3
          clear to0 to1 hw3
          have to0 := hG.o0
          have to1 := hG.o1
          have tg0 := hG.g0
          have tg1 := hG.g1
          go_wp2
          exact ⟨⟨k + 1, by omega, by go_num, intV (by rw [hs1.out]; rfl), hG.put⟩, by simp [intOf]; omega⟩
        · rw [hw]
          replace hs1 := Lib.hid hs1
          clear hw
          go_wp2
          exact ⟨⟨k + 1, by omega, by go_num, intV (by rw [hs1.out]; rfl), by rw [hs2]; exact hG⟩, by simp [intOf]; omega⟩
        · rw [hw]
          replace hs1 := Lib.hid hs1
          have hs3 := Lib.hid hs2
          clear hw
          go_wp2_with (go_at_call 29; with_reducible refine (set_any _ _ hlt hlt2 _).mono ?_)
          rintro e w3 ⟨rfl, hw3⟩
          rw [← hs3.out]
          clear hs2
          replace hG := hG.later hw3
          clear to0 to1 hw3
          have to0 := hG.o0
          have to1 := hG.o1
          have tg0 := hG.g0
          have tg1 := hG.g1
          go_wp2
          exact ⟨⟨k + 1, by omega, by go_num, intV (by rw [hs1.out]; rfl), hG.put⟩, by simp [intOf]; omega⟩
      · obtain rfl : k = 128 := by omega
        rw [hend.out] at hG
        clear hend
        obtain ⟨v0, tr0⟩ := hG.r0
        obtain ⟨v1, tr1⟩ := hG.r1
        have tf0 := hG.f0
        have tf1 := hG.f1
        have to0 := hG.o0
        have to1 := hG.o1
        go_wp2
        refine bodyPost_ret (v := .tuple #[numV (a - b), .bool true]) ?_ rfl ?_
        · simp [results, Tryd.results13, go_sem, cell_put0 tr0 tr1, cell_put1 tr0 tr1]
        · exact ⟨rfl, bl_put hG.two.below (by omega)⟩

theorem min_any (a b : Nat) (w : World) :
    Calls Tryd.prog 18 #[numV a, numV b] w fun e w' => e = .returned (numV (if b < a then b else a)) ∧ Below w.heap.size w w' := by
  have hls := fun w => less_any b a w
  by_cases h : b < a
  · have hl : lessN b a = true := decide_eq_true h
    rw [hl] at hls
    rw [if_pos h]
    clear h hl
    have Hls := Lib.hid hls
    clear hls
    go_enter Tryd.func18, Tryd.ntmps18
    go_wp2_with (go_at_call 17; with_reducible refine (Hls.out _).mono ?_)
    rintro e w1 ⟨rfl, hw1⟩
    have hR := (res_start w a b).later hw1
    clear hw1
    obtain ⟨v0, tr0⟩ := hR.r0
    obtain ⟨v1, tr1⟩ := hR.r1
    have tf0 := hR.f0
    have tf1 := hR.f1
    have tc2 := hR.two.c2
    have tc3 := hR.two.c3
    go_wp2
    refine bodyPost_ret (v := numV b) ?_ rfl ?_
    · simp [results, Tryd.results18, go_sem, cell_put0 tr0 tr1, cell_put1 tr0 tr1]
    · exact ⟨rfl, bl_put hR.two.below (by omega)⟩
  · have hl : lessN b a = false := decide_eq_false h
    rw [hl] at hls
    rw [if_neg h]
    clear h hl
    have Hls := Lib.hid hls
    clear hls
    go_enter Tryd.func18, Tryd.ntmps18
    go_wp2_with (go_at_call 17; with_reducible refine (Hls.out _).mono ?_)
    rintro e w1 ⟨rfl, hw1⟩
    have hR := (res_start w a b).later hw1
    clear hw1
    obtain ⟨v0, tr0⟩ := hR.r0
    obtain ⟨v1, tr1⟩ := hR.r1
    have tf0 := hR.f0
    have tf1 := hR.f1
    have tc0 := hR.two.c0
    have tc1 := hR.two.c1
    go_wp2
    refine bodyPost_ret (v := numV a) ?_ rfl ?_
    · simp [results, Tryd.results18, go_sem, cell_put0 tr0 tr1, cell_put1 tr0 tr1]
    · exact ⟨rfl, bl_put hR.two.below (by omega)⟩

theorem of_any (n : Nat) (w : World) :
    Calls Tryd.prog 26 #[.int .u64 ((n : Nat) : Int)] w fun e w' => e = .returned (.agg #[.int .u64 0, .int .u64 ((n : Nat) : Int)]) ∧ Below w.heap.size w w' := by
  go_enter Tryd.func26, Tryd.ntmps26
  go_wp2
  refine bodyPost_ret (v := .agg #[.int .u64 0, .int .u64 ((n : Nat) : Int)]) ?_ rfl ?_
  · simp [results, Tryd.results26, go_sem]
  · exact ⟨rfl, (Below.refl _ _).alloc (Nat.le_refl _) _⟩

/-- One boxed number and a result's cell behind it. -/
structure One (w wr : World) (n : Nat) : Prop where
  c0 : wr.cell? ⟨w.heap.size, 0, none⟩ = some (.int .u64 ((hiN n : Nat) : Int))
  c1 : wr.cell? ⟨w.heap.size, 1, none⟩ = some (.int .u64 ((loN n : Nat) : Int))
  r0 : ∃ v, wr.cell? ⟨w.heap.size + 1, 0, none⟩ = some v
  r1 : ∃ v, wr.cell? ⟨w.heap.size + 1, 1, none⟩ = some v
  f0 : wr.frozen? ⟨w.heap.size + 1, 0, none⟩ = false
  f1 : wr.frozen? ⟨w.heap.size + 1, 1, none⟩ = false
  size : w.heap.size + 1 < wr.heap.size
  below : Below w.heap.size w wr
abbrev W2 (w : World) (n : Nat) : World := (w.alloc (.cells #[.int .u64 ((hiN n : Nat) : Int), .int .u64 ((loN n : Nat) : Int)] 24)).alloc (.cells #[.int .u64 0, .int .u64 0] 24)
theorem one_start (w : World) (n : Nat) : One w (W2 w n) n := by
  have hbl : ∀ A B : Obj, Below w.heap.size w ((w.alloc A).alloc B) := fun A B => ((Below.refl _ _).alloc (Nat.le_refl _) _).alloc (by simp) _
  exact ⟨by simp [go_sem], by simp [go_sem], ⟨.int .u64 0, by simp [go_sem]⟩, ⟨.int .u64 0, by simp [go_sem]⟩, by simp [go_sem], by simp [go_sem], by simp, hbl _ _⟩
theorem One.later {w wr w2 : World} {n : Nat} (h : One w wr n) (hb : Below wr.heap.size wr w2) : One w w2 n :=
  have hs := h.size
  have c1 : ∀ j, w2.cell? ⟨w.heap.size, j, none⟩ = wr.cell? ⟨w.heap.size, j, none⟩ := fun j => hb.cell (by show w.heap.size < _; omega)
  have c2 : ∀ j, w2.cell? ⟨w.heap.size + 1, j, none⟩ = wr.cell? ⟨w.heap.size + 1, j, none⟩ := fun j => hb.cell (by show w.heap.size + 1 < _; omega)
  have f2 : ∀ j, w2.frozen? ⟨w.heap.size + 1, j, none⟩ = wr.frozen? ⟨w.heap.size + 1, j, none⟩ := fun j => hb.frozen (by show w.heap.size + 1 < _; omega)
  ⟨by rw [c1]; exact h.c0, by rw [c1]; exact h.c1, by rw [c2]; exact h.r0, by rw [c2]; exact h.r1, by rw [f2]; exact h.f0, by rw [f2]; exact h.f1, Nat.lt_of_lt_of_le h.size hb.size, h.below.trans (hb.mono (by omega))⟩
end Go.Proofs.YtddjogbenfkcpaaDoor
