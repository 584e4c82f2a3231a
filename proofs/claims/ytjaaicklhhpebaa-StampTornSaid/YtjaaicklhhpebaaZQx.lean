/- StampTorn's walk, out of the landed contracts. -/
import Derived.Test.YtjaaicklhhpebaaZQw
import Derived.RegionTactic
import Derived.Deep.RegionWith
import Derived.Deep.RegionHeld3
namespace Go.Proofs.Ytjaaicklhhpebaa
open Go.RowKit Go.Sort Cr

theorem kb_call {B : Nat} {w W wx : World} (h : Below B w W) (hB : B ≤ W.heap.size) (hb : Below W.heap.size W wx) : Below B w wx := h.trans (hb.mono hB)
theorem kb_put3 {B : Nat} {w W : World} (h : Below B w W) {c : Nat} (hc : B ≤ c) (x y z : Value) : Below B w (((W.setCell ⟨c, 0, none⟩ x).setCell ⟨c, 1, none⟩ y).setCell ⟨c, 2, none⟩ z) := ((h.setCell hc x).setCell hc y).setCell hc z
theorem kb_cell {W w1 : World} (hb : Below W.heap.size W w1) : (∀ b o, b < W.heap.size → w1.cell? ⟨b, o, none⟩ = W.cell? ⟨b, o, none⟩) ∧ (∀ b o, b < W.heap.size → w1.frozen? ⟨b, o, none⟩ = W.frozen? ⟨b, o, none⟩) ∧ (∀ b, b < W.heap.size → b < w1.heap.size) :=
  ⟨fun b o h => hb.cell (p := ⟨b, o, none⟩) h, fun b o h => hb.frozen (p := ⟨b, o, none⟩) h, fun _ h => Nat.lt_of_lt_of_le h hb.size⟩
theorem cut_129 (cut : Int) : ∃ k : Nat, k ≤ 128 ∧ wrap64 ((IntKind.u64.wrap cut).tmod 129) = ((k : Nat) : Int) := by
  have h : 0 ≤ IntKind.u64.wrap cut := by rw [IntKind.wrap_u64]; omega
  refine ⟨((IntKind.u64.wrap cut) % 129).toNat, by omega, ?_⟩
  rw [Int.tmod_eq_emod_of_nonneg h]
  unfold wrap64
  omega
/-- A leaf that is read is one of two, or none is. -/
def OneOf (o : Option (Int × Int × ByteArray)) (N I : Int) (D : ByteArray) (N' I' : Int) (D' : ByteArray) : Prop :=
  o = none ∨ o = some (N, I, D) ∨ o = some (N', I', D')
theorem mix_oneOf {N I : Int} {D : ByteArray} {N' I' : Int} {D' : ByteArray} (h : LeafOk N I D) (h' : LeafOk N' I' D') (hne : N ≠ N') {k : Nat} (hk : k ≤ 128) :
    OneOf (leafOf (mixB (secB N I D) (secB N' I' D') k)) N I D N' I' D' := by
  cases hl : leafOf (mixB (secB N I D) (secB N' I' D') k) with
  | none => exact .inl rfl
  | some x =>
    obtain ⟨N2, I2, D2⟩ := x
    obtain ⟨h2, e⟩ := leafOf_some hl
    rcases secB_torn h h' h2 hne hk e.symm with ⟨rfl, rfl, rfl⟩ | ⟨rfl, rfl, rfl⟩
    · exact .inr (.inl rfl)
    · exact .inr (.inr rfl)
set_option maxRecDepth 100000 in
set_option maxHeartbeats 4000000 in
theorem stampTorn_any {Dk : (Nat → Prop) → World → Nat → St → Prop} (S : LandedSt Dk) (N I : Int) (D : ByteArray) (_hD : D.size ≤ 140737488351232) (N' I' : Int) (D' : ByteArray) (_hD' : D'.size ≤ 140737488351232) (cut : Int) (w : World) :
    Calls Try.prog 5 #[leafA N I D, leafA N' I' D', .int .i64 cut] w fun e w' => e = .returned (.bool true) ∧ Below w.heap.size w w' := by
  have hal := Lib.hid (stampAlive_any S)
  have hgo := Lib.hid (refgood_any N I D)
  have hgo' := Lib.hid (refgood_any N' I' D')
  unfold leafA
  have hL := leaf_new w N I D
  have hbw := leaf_below w N I D
  have hL' := leaf_new (w.alloc (.cells #[.int .i64 N, .int .i64 I, .string D] 23)) N' I' D'
  have hb2 := leaf_below (w.alloc (.cells #[.int .i64 N, .int .i64 I, .string D] 23)) N' I' D'
  replace hL := hL.later hb2
  replace hbw := hbw.trans (hb2.mono hbw.size)
  clear hb2
  have hs1 : (w.alloc (.cells #[.int .i64 N, .int .i64 I, .string D] 23)).heap.size = w.heap.size + 1 := by simp
  rw [hs1] at hL'
  clear hs1
  by_cases hq : okLeaf N I D = true ∧ okLeaf N' I' D' = true ∧ N ≠ N'
  · obtain ⟨q1, q2, q3⟩ := hq
    have k1 := (okLeaf_iff N I D).1 q1
    have k2 := (okLeaf_iff N' I' D').1 q2
    rw [q1] at hgo
    rw [q2] at hgo'
    have hse := refsec_any N I D k1.d
    have hse' := refsec_any N' I' D' k2.d
    obtain ⟨k, hk, hcut⟩ := cut_129 cut
    have hone := mix_oneOf k1 k2 q3 hk
    have hms := mixB_size (secB_size (N := N) (I := I) k1.d) (secB_size (N := N') (I := I') k2.d) hk
    have hrd := Lib.hid (fun W => S.read (mixB (secB N I D) (secB N' I' D') k) W (by rw [hms]; decide))
    have z1 := secB_size (N := N) (I := I) k1.d
    have z2 := secB_size (N := N') (I := I') k2.d
    have hmix := Lib.hid (show mixB (secB N I D) (secB N' I' D') k = (secB N I D).extract 0 k ++ (secB N' I' D').extract k 128 from rfl)
    generalize mixB (secB N I D) (secB N' I' D') k = mx at *
    generalize secB N I D = sx at *
    generalize secB N' I' D' = sy at *
    generalize leafOf mx = o at *
    have n1 : (N == N') = false := beq_eq_false_iff_ne.2 q3
    replace hmix := Lib.hid hmix.out.symm
    clear q1 q2 k1 k2 _hD _hD' hms
    replace q3 := Lib.hid q3
    replace hone := Lib.hid hone
    replace hcut := Lib.hid hcut
    go_enter Try.func5, Try.ntmps5
    go_wp2_with fail
    refine (hal.out _).mono ?_
    rintro e w1 ⟨rfl, hb1⟩
    replace hL := hL.later hb1
    replace hL' := hL'.later hb1
    replace hbw := hbw.trans (hb1.mono hbw.size)
    clear hb1
    have x0 := hL.c0
    have x1 := hL.c1
    have x2 := hL.c2
    have xl := hL.lt
    have y0 := hL'.c0
    have y1 := hL'.c1
    have y2 := hL'.c2
    have yl := hL'.lt
    go_wp2_with fail
    refine (hgo.out _).mono ?_
    rintro e w3 ⟨rfl, rfl⟩
    go_wp2_with fail
    refine (hgo'.out _).mono ?_
    rintro e w3 ⟨rfl, rfl⟩
    go_wp2_with fail
    have p0 := x0
    have p1 := x1
    have p2 := x2
    have p3 := y0
    have p4 := y1
    have p5 := y2
    have c1 : ∀ d os, Calls Try.prog 14 #[.int .i64 N, .int .i64 I, .string D] (grow (redrawn w1 d) os) _ := fun d os => Calls.regrown_of (hse _)
    have c2 : ∀ d os, Calls Try.prog 14 #[.int .i64 N', .int .i64 I', .string D'] (grow (redrawn w1 d) os) _ := fun d os => Calls.regrown_of (hse' _)
    clear hse hse' x0 x1 x2 y0 y1 y2
    have k0 := cell_regrown p0
    have k1 := cell_regrown p1
    have k2 := cell_regrown p2
    have k3 := cell_regrown p3
    have k4 := cell_regrown p4
    have k5 := cell_regrown p5
    refine wp_region_quiet_below (by kernel_rfl) (by kernel_rfl) ?_
    repeat (quiet_step (first | with_reducible exact c1 _ _ | with_reducible exact c2 _ _))
    refine wpQuiet_nil ?_
    intro w9 hw'
    obtain ⟨pq, hw''⟩ := hw'
    have hw9 : Below w1.heap.size w1 w9 := by rw [hw'']; exact below_regrown _ _ _
    clear hw'' k0 k1 k2 k3 k4 k5
    clear p0 p1 p2 p3 p4 p5 c1 c2
    replace hL := hL.later hw9
    replace hL' := hL'.later hw9
    replace hbw := hbw.trans (hw9.mono hbw.size)
    clear hw9 xl yl
    go_wp2_with fail
    rw [hcut.out]
    have hkm := hmix.out
    clear hmix hal hgo hgo' hcut
    have hk0 : (0 : Int) ≤ (k : Int) := by omega
    have hk1 : (k : Int) ≤ 128 := by omega
    replace q3 := q3.out
    rcases hone.out with e | e | e
    all_goals
      subst e
      unfold leafV leafA at hrd
      dsimp only at hrd
      have hS0 : Below w9.heap.size w9 w9 := Below.refl _ _
      go_region_held3 (fun w' => Below w9.heap.size w9 w')
        (first | exact Below.drew (by assumption) | exact kb_call (by assumption) (Below.size (by assumption)) hbx | exact Below.alloc (by assumption) (Below.size (by assumption)) _ | exact Below.alloc hwx (Below.size hwx) _ | exact kb_put3 (by assumption) (by first | exact Nat.le_refl _ | exact Below.size (by assumption)) _ _ _)
        (first | (go_at_call 13; with_reducible refine (hrd.out _).mono ?_; rintro e wx ⟨rfl, hbx⟩; have hwx : Below w9.heap.size w9 wx := kb_call (by assumption) (Below.size (by assumption)) hbx; obtain ⟨hcx, hfx, hzx⟩ := kb_cell hbx))
      all_goals
        rename_i hHd
        have hLz := hL.later hHd
        have hLz' := hL'.later hHd
        have hbz := hbw.trans (hHd.mono hbw.size)
        replace hbz := Lib.hid hbz
        clear hbw
        have x0 := hLz.c0
        have x1 := hLz.c1
        have x2 := hLz.c2
        have y0 := hLz'.c0
        have y1 := hLz'.c1
        have y2 := hLz'.c2
        clear hLz hLz' hL hL' hHd hS0
        go_wp2
        all_goals
          go_ret
          exact ⟨by first | rfl | simp, hbz.out⟩
  · have hq' : okLeaf N I D = false ∨ (okLeaf N I D = true ∧ okLeaf N' I' D' = false) ∨ (okLeaf N I D = true ∧ okLeaf N' I' D' = true ∧ (N == N') = true) := by
      by_cases q1 : okLeaf N I D = true
      · by_cases q2 : okLeaf N' I' D' = true
        · right; right
          refine ⟨q1, q2, ?_⟩
          by_cases q3 : N = N'
          · exact beq_iff_eq.2 q3
          · exact absurd ⟨q1, q2, q3⟩ hq
        · exact .inr (.inl ⟨q1, Bool.eq_false_iff.mpr q2⟩)
      · exact .inl (Bool.eq_false_iff.mpr q1)
    clear hq
    rcases hq' with q | ⟨q, q2⟩ | ⟨q, q2, q3⟩
    · rw [q] at hgo
      clear q hgo'
      go_enter Try.func5, Try.ntmps5
      go_wp2_with fail
      refine (hal.out _).mono ?_
      rintro e w1 ⟨rfl, hb1⟩
      replace hL := hL.later hb1
      replace hbw := hbw.trans (hb1.mono hbw.size)
      have x0 := hL.c0
      have x1 := hL.c1
      have x2 := hL.c2
      have xl := hL.lt
      go_wp2_with fail
      refine (hgo.out _).mono ?_
      rintro e w3 ⟨rfl, rfl⟩
      go_wp2
      go_ret
      exact ⟨rfl, hbw⟩
    all_goals
      rw [q] at hgo
      rw [q2] at hgo'
      clear q q2
      go_enter Try.func5, Try.ntmps5
      go_wp2_with fail
      refine (hal.out _).mono ?_
      rintro e w1 ⟨rfl, hb1⟩
      replace hL := hL.later hb1
      replace hL' := hL'.later hb1
      replace hbw := hbw.trans (hb1.mono hbw.size)
      have x0 := hL.c0
      have x1 := hL.c1
      have x2 := hL.c2
      have xl := hL.lt
      have y0 := hL'.c0
      have y1 := hL'.c1
      have y2 := hL'.c2
      have yl := hL'.lt
      go_wp2_with fail
      refine (hgo.out _).mono ?_
      rintro e w3 ⟨rfl, rfl⟩
      go_wp2_with fail
      refine (hgo'.out _).mono ?_
      rintro e w3 ⟨rfl, rfl⟩
      go_wp2
      go_ret
      exact ⟨rfl, hbw⟩
end Go.Proofs.Ytjaaicklhhpebaa
