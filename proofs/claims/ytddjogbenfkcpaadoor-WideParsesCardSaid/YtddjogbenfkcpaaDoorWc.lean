/- Division by ten. -/
import Derived.Test.YtddjogbenfkcpaaDoorWb
import Derived.Lib.Mul64
import Derived.Deep.DeepCutAuto
import Derived.IntWalk
import Derived.Shelf.Bits.Mul64
namespace Go.Proofs.YtddjogbenfkcpaaDoor
open Go.RowKit Go.Sort Wm

set_option maxRecDepth 100000 in
theorem len10 (w : World) : Calls Tryd.prog 38 #[.int .u64 10] w fun e w' => e = .returned (.int .i64 4) ∧ w = w' := by
  go_enter Tryd.func38, Tryd.ntmps38
  go_wp2
  go_ret
  exact ⟨by kernel_rfl, rfl⟩
set_option maxRecDepth 100000 in
theorem lead10 (w : World) : Calls Tryd.prog 37 #[.int .u64 10] w fun e w' => e = .returned (.int .i64 60) ∧ w = w' := by
  go_enter Tryd.func37, Tryd.ntmps37
  go_wp2_with (go_at_call 38; refine (len10 _).mono ?_; rintro e w' ⟨rfl, rfl⟩)
  go_ret
  exact ⟨rfl, rfl⟩
theorem ret_uu {a b c d : Int} (h1 : a = c) (h2 : b = d) : Ending.returned (.tuple #[.int .u64 a, .int .u64 b]) = .returned (.tuple #[.int .u64 c, .int .u64 d]) := by rw [h1, h2]
set_option maxRecDepth 100000 in
theorem div10_zero (lo : Nat) (hl : lo < 18446744073709551616) (w : World) : Calls Tryd.prog 35 #[.int .u64 0, .int .u64 ((lo : Nat) : Int), .int .u64 10] w fun e w' => e = .returned (.tuple #[.int .u64 ((lo / 10 : Nat) : Int), .int .u64 ((lo % 10 : Nat) : Int)]) ∧ Below w.heap.size w w' := by
  go_enter Tryd.func35, Tryd.ntmps35
  go_wp2
  go_quiet (fail)
  go_wp2
  go_ret2
  refine ⟨?_, below_drewN (Below.refl _ _) _⟩
  exact ret_uu (by omega) (by omega)
set_option maxRecDepth 100000 in
theorem div10_pos (hi lo : Nat) (h1 : 0 < hi) (h2 : hi < 10) (hl : lo < 18446744073709551616) (w : World) : Calls Tryd.prog 35 #[.int .u64 ((hi : Nat) : Int), .int .u64 ((lo : Nat) : Int), .int .u64 10] w fun e w' => e = .returned (.tuple #[.int .u64 ((quoN hi lo : Nat) : Int), .int .u64 ((remN hi lo : Nat) : Int)]) ∧ Below w.heap.size w w' := by
  have e1 := Lib.hid (or_words hi lo h2 hl)
  have e2 := Lib.hid (low_words lo)
  have e3 := Lib.hid (low_low lo)
  go_enter Tryd.func35, Tryd.ntmps35
  go_wp2_with (go_at_call 37; refine (lead10 _).mono ?_; rintro e w' ⟨rfl, rfl⟩)
  have hU := Lib.hid (u32_lt hi lo h2 hl)
  rw [e1.out, e2.out, e3.out, and_const, quo_step _ hU.out, rem_step _ hU.out]
  clear e1 e2 e3
  have hq : u32N hi lo / 2684354560 < 4294967296 := by have := hU.out; omega
  have hr : u32N hi lo % 2684354560 < 2684354560 := by omega
  have hu := u1_lt lo
  generalize hQ : u32N hi lo / 2684354560 = q at *
  generalize hR : u32N hi lo % 2684354560 = r at *
  generalize hO : u1N lo = u at *
  replace hQ := Lib.hid hQ
  replace hR := Lib.hid hR
  replace hO := Lib.hid hO
  go_loop [15, 16] (fun a b => a = .int .u64 ((q : Nat) : Int) ∧ b = .int .u64 ((r : Nat) : Int)) (fun _ _ => 0)
  case atStart => exact ⟨rfl, rfl⟩
  case round =>
    obtain ⟨rfl, rfl⟩ := hrel
    have hq1 : ¬ (4294967296 ≤ ((q : Nat) : Int)) := by omega
    have Hq := Lib.hid hq
    have Hr := Lib.hid hr
    have Hu := Lib.hid hu
    clear hq hr hu
    go_upto_if 78 with (fail)
    rw [not_neg]
    go_upto_region 22 with (fail)
    rw [mid_step _ q r u hQ.out hR.out hU.out Hu.out]
    generalize hV : r * 4294967296 + u = v at *
    have hv : v < 11529215046068469760 := by have := Hr.out; have := Hu.out; omega
    replace hV := Lib.hid hV
    clear hq1
    have Hv := Lib.hid hv
    clear hv
    go_wp2
    rw [quo_step' _ Hv.out, rem_step _ Hv.out]
    have hq1 : ¬ (4294967296 ≤ ((v / 2684354560 : Nat) : Int)) := by have := Hv.out; omega
    generalize hX : v / 2684354560 = x at *
    generalize hZ : v % 2684354560 = z at *
    replace hX := Lib.hid hX
    replace hZ := Lib.hid hZ
    go_loop [18, 16] (fun a b => a = .int .u64 ((x : Nat) : Int) ∧ b = .int .u64 ((z : Nat) : Int)) (fun _ _ => 0)
    case atStart => exact ⟨rfl, rfl⟩
    case round =>
      obtain ⟨rfl, rfl⟩ := hrel
      go_upto_if 113 with (fail)
      rw [not_neg]
      go_wp2
      go_ret2
      have e := div_end hi lo q r u v x z hQ.out hR.out hO.out Hq.out (by omega) hV.out hX.out hZ.out
      exact ⟨ret_uu e.1 e.2, Below.refl _ _⟩
theorem div10_any (hi lo : Nat) (h2 : hi < 10) (hl : lo < 18446744073709551616) (w : World) : Calls Tryd.prog 35 #[.int .u64 ((hi : Nat) : Int), .int .u64 ((lo : Nat) : Int), .int .u64 10] w fun e w' => e = .returned (.tuple #[.int .u64 ((quoN hi lo : Nat) : Int), .int .u64 ((remN hi lo : Nat) : Int)]) ∧ Below w.heap.size w w' := by
  by_cases h : 0 < hi
  · exact div10_pos hi lo h h2 hl w
  · obtain rfl : hi = 0 := by omega
    have := div10_zero lo hl w
    rw [show quoN 0 lo = lo / 10 by unfold quoN; omega, show remN 0 lo = lo % 10 by unfold remN; omega]
    exact this
set_option maxRecDepth 100000 in
theorem tenth_any (n : Nat) (hn : n < big) (w : World) :
    Calls Tryd.prog 32 #[numV n] w fun e w' => e = .returned (.tuple #[numV (n / 10), .int .u8 ((n % 10 : Nat) : Int)]) ∧ Below w.heap.size w w' := by
  have hd := Lib.hid (fun w => div10_any (hiN n % 10) (loN n) (by omega) (loN_lt n) w)
  have he := Lib.hid (tenth_words n)
  have hh := Lib.hid (hiN_lt hn)
  clear hn
  go_enter Tryd.func32, Tryd.ntmps32
  go_wp2_with fail
  rw [show ((hiN n : Nat) : Int) % 10 = ((hiN n % 10 : Nat) : Int) by omega]
  refine (hd.out _).mono ?_
  rintro e w1 ⟨rfl, hw1⟩
  rw [← he.out.2.1, ← he.out.2.2]
  have hO := (one_start w n).later hw1
  clear hw1 hd
  have tc0 := hO.c0
  have tc1 := hO.c1
  obtain ⟨v0, tr0⟩ := hO.r0
  obtain ⟨v1, tr1⟩ := hO.r1
  have tf0 := hO.f0
  have tf1 := hO.f1
  go_wp2
  refine bodyPost_ret (v := .tuple #[numV (n / 10), .int .u8 ((n % 10 : Nat) : Int)]) ?_ rfl ?_
  · simp [results, Tryd.results32, go_sem, cell_put0 tr0 tr1, cell_put1 tr0 tr1]
    rw [IntKind.wrap_u64, he.out.1]; have := hh.out; omega
  · exact ⟨rfl, bl_put hO.below (by omega)⟩
end Go.Proofs.YtddjogbenfkcpaaDoor
