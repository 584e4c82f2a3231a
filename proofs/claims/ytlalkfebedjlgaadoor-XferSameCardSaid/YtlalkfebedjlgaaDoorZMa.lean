/- The landed transfers' small calls: numbers within bounds, one of some flags, a transfer's kinds, how many of three flags, the greatest timeout, whether it has bytes. No condition. -/
import Derived.Test.YtlalkfebedjlgaaDoorZPl
import Derived.Test.YtlalkfebedjlgaaDoorZXb
import Derived.Test.YtlalkfebedjlgaaDoorZBi
import Derived.Laws.StructEq
namespace Go.Proofs.YtlalkfebedjlgaaDoor
open Go.RowKit Go.Sort Wm Cr

theorem noLater : ∀ W W' : World, (fun _ : World => True) W → Below W.heap.size W W' → (fun _ : World => True) W' := fun _ _ _ _ => trivial
set_option maxRecDepth 100000 in
theorem xfWithin_any (a n b : Int) (W : World) : Calls Tryd.prog 29 #[.int .i64 a, .int .i64 n, .int .i64 b] W fun e W' => e = .returned (.bool (inZ a n b)) ∧ W = W' := by
  by_cases h : a ≤ n
  · have hb := Lib.hid (show decide (n ≤ b) = inZ a n b by unfold inZ; rw [decide_eq_true h]; rfl)
    go_enter Tryd.func29, Tryd.ntmps29
    go_wp2
    go_ret
    exact ⟨by rw [← hb.out]; rfl, rfl⟩
  · have hb := Lib.hid (show inZ a n b = false by unfold inZ; rw [decide_eq_false h]; rfl)
    go_enter Tryd.func29, Tryd.ntmps29
    go_wp2
    go_ret
    exact ⟨by rw [hb.out]; rfl, rfl⟩
theorem xfWithinB (a n b : Int) (W : World) : Calls Tryd.prog 29 #[.int .i64 a, .int .i64 n, .int .i64 b] W fun e W' => e = .returned (.bool (inZ a n b)) ∧ Below W.heap.size W W' :=
  (xfWithin_any a n b W).mono (fun _ _ e => ⟨e.1, by rw [← e.2]; exact Below.refl _ _⟩)
set_option maxRecDepth 100000 in
set_option maxHeartbeats 1000000 in
theorem xfHas_any (a : Tran) (k : Int) (b : Bool) (h : (bits .and .i64 a.Flags k != 0) = b) (W : World) : Calls Tryd.prog 37 #[tranV a, .int .i64 k] W fun e W' => e = .returned (.bool b) ∧ Below W.heap.size W W' := by
  rw [tranV_eq]
  go_enter Tryd.func37, Tryd.ntmps37
  go_wp2
  go_ret
  exact ⟨rfl, (Below.refl _ _).alloc (Nat.le_refl _) _⟩
/-! Flags. -/
theorem mask8 (f : Int) (k : Nat) (hk : k < 256) : (bits .and .i64 f (k : Int) != 0) = decide ((f % 256).toNat &&& k ≠ 0) := by
  have h := bits_and (w := f) (k := k) (m := 8) hk (by decide)
  rw [show ((2 ^ 8 : Nat) : Int) = 256 from rfl] at h
  rw [h]
  by_cases c : (f % 256).toNat &&& k = 0
  · rw [c, decide_eq_false (by simp)]; rfl
  · rw [decide_eq_true c, bne_iff_ne]
    omega
theorem bit8 (f : Int) (r : Nat) (hr : (f % 256).toNat = r) : bitZ f 2 = decide (r / 2 % 2 = 1) ∧ bitZ f 4 = decide (r / 4 % 2 = 1) ∧ bitZ f 8 = decide (r / 8 % 2 = 1) ∧ bitZ f 16 = decide (r / 16 % 2 = 1) ∧ bitZ f 32 = decide (r / 32 % 2 = 1) ∧ r < 256 := by
  unfold bitZ
  refine ⟨decide_eq_decide.2 ?_, decide_eq_decide.2 ?_, decide_eq_decide.2 ?_, decide_eq_decide.2 ?_, decide_eq_decide.2 ?_, ?_⟩ <;> omega
theorem maskEnds_all : ∀ r : Fin 256, decide (r.val &&& 12 ≠ 0) = (decide (r.val / 4 % 2 = 1) || decide (r.val / 8 % 2 = 1)) := by decide +kernel
theorem maskPend_all : ∀ r : Fin 256, decide (r.val &&& 2 ≠ 0) = decide (r.val / 2 % 2 = 1) := by decide +kernel
theorem maskBal_all : ∀ r : Fin 256, decide (r.val &&& 48 ≠ 0) = (decide (r.val / 16 % 2 = 1) || decide (r.val / 32 % 2 = 1)) := by decide +kernel
theorem maskEnds (f : Int) : (bits .and .i64 f 12 != 0) = endsB f := by
  obtain ⟨h2, h4, h8, h16, h32, hr⟩ := bit8 f _ rfl
  have := maskEnds_all ⟨(f % 256).toNat, hr⟩
  rw [show (12 : Int) = ((12 : Nat) : Int) from rfl, mask8 f 12 (by decide)]
  unfold endsB
  rw [h4, h8]
  exact this
theorem maskPend (f : Int) : (bits .and .i64 f 2 != 0) = bitZ f 2 := by
  obtain ⟨h2, h4, h8, h16, h32, hr⟩ := bit8 f _ rfl
  have := maskPend_all ⟨(f % 256).toNat, hr⟩
  rw [show bits .and .i64 f 2 = bits .and .i64 f ((2 : Nat) : Int) from rfl, mask8 f 2 (by decide), h2]
  exact this
theorem maskBal (f : Int) : (bits .and .i64 f 48 != 0) = balB f := by
  obtain ⟨h2, h4, h8, h16, h32, hr⟩ := bit8 f _ rfl
  have := maskBal_all ⟨(f % 256).toNat, hr⟩
  rw [show (48 : Int) = ((48 : Nat) : Int) from rfl, mask8 f 48 (by decide)]
  unfold balB
  rw [h16, h32]
  exact this
/-- A transfer in the call's first block. -/
theorem tranBox (a : Tran) (W : World) : Hx (fun _ => True) W (W.alloc (.cells a.cells.toArray 26)) [(W.heap.size, a.cells)] :=
  (Hx.refl (Mo := fun _ => True) (w := W) trivial).new noLater a.cells 26
theorem Hx.row {Mo : World → Prop} {w W : World} {b : Nat} {M : List Value} {l : List (Nat × List Value)} (h : Hx Mo w W l) (hm : (b, M) ∈ l) : W.rangeAt b 0 M := (h.box (b, M) hm).range
set_option maxRecDepth 100000 in
set_option maxHeartbeats 1000000 in
theorem xfEnds_any (a : Tran) (W : World) : Calls Tryd.prog 12 #[tranV a] W fun e W' => e = .returned (.bool (endsB a.Flags)) ∧ Below W.heap.size W W' := by
  have hm0 := tranBox a W
  have kh := Lib.hid (fun W' (h : Hx (fun _ => True) W W' [(W.heap.size, a.cells)]) => h.ask noLater (xfHas_any a 12 _ (maskEnds a.Flags) W'))
  have hMi := Lib.hid (show (Tryd.prog.info? 26).map (·.size) = some a.cells.length by rw [Tran.cells_length]; kernel_rfl)
  have hV : tranV a = .agg a.cells.toArray := rfl
  rw [hV] at kh ⊢
  generalize endsB a.Flags = v at *
  generalize a.cells = M at *
  go_enter Tryd.func12, Tryd.ntmps12
  go_wp2_with (first
    | (refine wpList_load_midg rfl 26 _ rfl W.heap.size 0 rfl M _ (hm0.row (by simp)) Tryd.underlying26 rfl hMi.out ?_)
    | (go_at_call 37; with_reducible refine (kh.out _ hm0).mono ?_; rintro e w1 ⟨rfl, hm1⟩))
  go_ret
  exact ⟨rfl, hm1.bel⟩
set_option maxRecDepth 100000 in
set_option maxHeartbeats 1000000 in
theorem xfPending_any (a : Tran) (W : World) : Calls Tryd.prog 13 #[tranV a] W fun e W' => e = .returned (.bool (bitZ a.Flags 2)) ∧ Below W.heap.size W W' := by
  have hm0 := tranBox a W
  have kh := Lib.hid (fun W' (h : Hx (fun _ => True) W W' [(W.heap.size, a.cells)]) => h.ask noLater (xfHas_any a 2 _ (maskPend a.Flags) W'))
  have hMi := Lib.hid (show (Tryd.prog.info? 26).map (·.size) = some a.cells.length by rw [Tran.cells_length]; kernel_rfl)
  have hV : tranV a = .agg a.cells.toArray := rfl
  rw [hV] at kh ⊢
  generalize bitZ a.Flags 2 = v at *
  generalize a.cells = M at *
  go_enter Tryd.func13, Tryd.ntmps13
  go_wp2_with (first
    | (refine wpList_load_midg rfl 26 _ rfl W.heap.size 0 rfl M _ (hm0.row (by simp)) Tryd.underlying26 rfl hMi.out ?_)
    | (go_at_call 37; with_reducible refine (kh.out _ hm0).mono ?_; rintro e w1 ⟨rfl, hm1⟩))
  go_ret
  exact ⟨rfl, hm1.bel⟩
set_option maxRecDepth 100000 in
set_option maxHeartbeats 1000000 in
theorem xfBalances_any (a : Tran) (W : World) : Calls Tryd.prog 14 #[tranV a] W fun e W' => e = .returned (.bool (balB a.Flags)) ∧ Below W.heap.size W W' := by
  have hm0 := tranBox a W
  have kh := Lib.hid (fun W' (h : Hx (fun _ => True) W W' [(W.heap.size, a.cells)]) => h.ask noLater (xfHas_any a 48 _ (maskBal a.Flags) W'))
  have hMi := Lib.hid (show (Tryd.prog.info? 26).map (·.size) = some a.cells.length by rw [Tran.cells_length]; kernel_rfl)
  have hV : tranV a = .agg a.cells.toArray := rfl
  rw [hV] at kh ⊢
  generalize balB a.Flags = v at *
  generalize a.cells = M at *
  go_enter Tryd.func14, Tryd.ntmps14
  go_wp2_with (first
    | (refine wpList_load_midg rfl 26 _ rfl W.heap.size 0 rfl M _ (hm0.row (by simp)) Tryd.underlying26 rfl hMi.out ?_)
    | (go_at_call 37; with_reducible refine (kh.out _ hm0).mono ?_; rintro e w1 ⟨rfl, hm1⟩))
  go_ret
  exact ⟨rfl, hm1.bel⟩
theorem goodT_in (a : Tran) : goodT a = (inZ 0 a.Timeout 4294967295 && (inZ 0 a.Ledger 4294967295 && (inZ 0 a.Code 65535 && inZ 0 a.Flags 65535))) := by
  unfold goodT inZ
  simp only [← Bool.decide_and]
  refine decide_eq_decide.2 ?_
  omega
set_option maxRecDepth 100000 in
set_option maxHeartbeats 1000000 in
theorem xfGood_any (a : Tran) (W : World) : Calls Tryd.prog 24 #[tranV a] W fun e W' => e = .returned (.bool (goodT a)) ∧ Below W.heap.size W W' := by
  have c0 := Lib.hid (fun W => xfWithin_any 0 a.Timeout 4294967295 W)
  have c1 := Lib.hid (fun W => xfWithin_any 0 a.Ledger 4294967295 W)
  have c2 := Lib.hid (fun W => xfWithin_any 0 a.Code 65535 W)
  have c3 := Lib.hid (fun W => xfWithin_any 0 a.Flags 65535 W)
  have hg := Lib.hid (goodT_in a)
  have hbl := (tranBox a W).bel
  dsimp only [Tran.cells] at hbl
  replace hbl := Lib.hid hbl
  rw [hg.out, tranV_eq]
  generalize inZ 0 a.Timeout 4294967295 = b0 at *
  generalize inZ 0 a.Ledger 4294967295 = b1 at *
  generalize inZ 0 a.Code 65535 = b2 at *
  generalize inZ 0 a.Flags 65535 = b3 at *
  clear hg
  cases b0 <;> cases b1 <;> cases b2
  all_goals
    go_enter Tryd.func24, Tryd.ntmps24
    go_wp2_with (first
      | (go_at_call 29; with_reducible refine (c0.out _).mono ?_; rintro e W1 ⟨rfl, rfl⟩)
      | (go_at_call 29; with_reducible refine (c1.out _).mono ?_; rintro e W1 ⟨rfl, rfl⟩)
      | (go_at_call 29; with_reducible refine (c2.out _).mono ?_; rintro e W1 ⟨rfl, rfl⟩)
      | (go_at_call 29; with_reducible refine (c3.out _).mono ?_; rintro e W1 ⟨rfl, rfl⟩))
    all_goals
      go_ret
      exact ⟨by first | rfl | simp, hbl.out⟩
set_option maxRecDepth 100000 in
set_option maxHeartbeats 1000000 in
theorem xfMostTime_any (a : Tran) (W : World) : Calls Tryd.prog 32 #[tranV a] W fun e W' => e = .returned (.int .i64 (if bitZ a.Flags 2 = true then 1073741824 else 0)) ∧ Below W.heap.size W W' := by
  have hm0 := tranBox a W
  have kh := Lib.hid (fun W' (h : Hx (fun _ => True) W W' [(W.heap.size, a.cells)]) => h.ask noLater (xfPending_any a W'))
  have hMi := Lib.hid (show (Tryd.prog.info? 26).map (·.size) = some a.cells.length by rw [Tran.cells_length]; kernel_rfl)
  have hV : tranV a = .agg a.cells.toArray := rfl
  rw [hV] at kh ⊢
  generalize bitZ a.Flags 2 = v at *
  generalize a.cells = M at *
  cases v
  all_goals
    go_enter Tryd.func32, Tryd.ntmps32
    go_wp2_with (first
      | (refine wpList_load_midg rfl 26 _ rfl W.heap.size 0 rfl M _ (hm0.row (by simp)) Tryd.underlying26 rfl hMi.out ?_)
      | (go_at_call 13; with_reducible refine (kh.out _ hm0).mono ?_; rintro e w1 ⟨rfl, hm1⟩))
    go_ret
    exact ⟨rfl, hm1.bel⟩
/-! How many of three flags. -/
set_option maxRecDepth 100000 in
set_option maxHeartbeats 4000000 in
theorem xfOnes_any (y : Int) (hy : y = 0 ∨ y = 2 ∨ y = 4 ∨ y = 6 ∨ y = 8 ∨ y = 10 ∨ y = 12 ∨ y = 14) (W : World) : Calls Tryd.prog 55 #[.int .u64 y] W fun e W' => e = .returned (.int .i64 (y / 2 % 2 + y / 4 % 2 + y / 8 % 2)) ∧ W = W' := by
  rcases hy with rfl | rfl | rfl | rfl | rfl | rfl | rfl | rfl
  all_goals
    go_enter Tryd.func55, Tryd.ntmps55
    go_wp2
    go_ret
    exact ⟨by kernel_rfl, rfl⟩
end Go.Proofs.YtlalkfebedjlgaaDoor
