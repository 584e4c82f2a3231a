/- The landed transfers' goTogether, unlinked and Again, and what Check asks of an end and of a move. No condition. -/
import Derived.Test.YtlalkfebedjlgaaDoorZMa
import Derived.Test.YtlalkfebedjlgaaDoorZXl
namespace Go.Proofs.YtlalkfebedjlgaaDoor
open Go.RowKit Go.Sort Wm Cr
attribute [local go_sem high] run_eql_num run_neq_num run_eql_num0 run_neq_num0

set_option maxRecDepth 100000 in
theorem xfOnesUp_any (y : Int) (hy : y = 0 ∨ y = 2 ∨ y = 4 ∨ y = 6 ∨ y = 8 ∨ y = 10 ∨ y = 12 ∨ y = 14) (W : World) : Calls Tryd.prog 46 #[.int .u64 y] W fun e W' => e = .returned (.int .i64 (y / 2 % 2 + y / 4 % 2 + y / 8 % 2)) ∧ W = W' := by
  have c := Lib.hid (fun W => xfOnes_any y hy W)
  go_enter Tryd.func46, Tryd.ntmps46
  go_wp2_with (go_at_call 55; with_reducible refine (c.out _).mono ?_; rintro e W1 ⟨rfl, rfl⟩)
  go_ret
  exact ⟨rfl, rfl⟩
theorem and14_all : ∀ r : Fin 256, r.val &&& 14 = 0 ∨ r.val &&& 14 = 2 ∨ r.val &&& 14 = 4 ∨ r.val &&& 14 = 6 ∨ r.val &&& 14 = 8 ∨ r.val &&& 14 = 10 ∨ r.val &&& 14 = 12 ∨ r.val &&& 14 = 14 := by decide +kernel
theorem tog_all : ∀ r : Fin 256, togB (r.val : Int) = (if decide ((1 : Int) < ((r.val &&& 14 : Nat) : Int) / 2 % 2 + ((r.val &&& 14 : Nat) : Int) / 4 % 2 + ((r.val &&& 14 : Nat) : Int) / 8 % 2) = true then false
    else if endsB (r.val : Int) = true then !(decide (r.val &&& 240 ≠ 0)) else if decide (r.val &&& 192 ≠ 0) = true then bitZ (r.val : Int) 2 else true) := by decide +kernel
theorem tog_in {f : Int} (h0 : 0 ≤ f) (h1 : f ≤ 255) : ∃ y : Int, bits .and .i64 f 14 = y ∧ (y = 0 ∨ y = 2 ∨ y = 4 ∨ y = 6 ∨ y = 8 ∨ y = 10 ∨ y = 12 ∨ y = 14) ∧
    togB f = if decide ((1 : Int) < y / 2 % 2 + y / 4 % 2 + y / 8 % 2) = true then false else if endsB f = true then !(bits .and .i64 f 240 != 0) else if (bits .and .i64 f 192 != 0) = true then bitZ f 2 else true := by
  obtain ⟨n, rfl⟩ := Int.eq_ofNat_of_zero_le h0
  have hn : n < 256 := by omega
  have hr : ((n : Int) % 256).toNat = n := by omega
  have h14 := bits_and (w := (n : Int)) (k := 14) (m := 8) (by decide) (by decide)
  rw [show ((2 ^ 8 : Nat) : Int) = 256 from rfl, hr] at h14
  refine ⟨((n &&& 14 : Nat) : Int), h14, ?_, ?_⟩
  · have := and14_all ⟨n, hn⟩
    dsimp only at this
    omega
  · have h240 := mask8 (n : Int) 240 (by decide)
    have h192 := mask8 (n : Int) 192 (by decide)
    rw [hr] at h240 h192
    rw [show (240 : Int) = ((240 : Nat) : Int) from rfl, show (192 : Int) = ((192 : Nat) : Int) from rfl, h240, h192]
    exact tog_all ⟨n, hn⟩
set_option maxRecDepth 100000 in
set_option maxHeartbeats 4000000 in
theorem xfTog_any (a : Tran) (h0 : 0 ≤ a.Flags) (h1 : a.Flags ≤ 255) (W : World) : Calls Tryd.prog 31 #[tranV a] W fun e W' => e = .returned (.bool (togB a.Flags)) ∧ Below W.heap.size W W' := by
  obtain ⟨y, hy, hd, hx⟩ := tog_in h0 h1
  have hw : IntKind.u64.wrap y = y := by rcases hd with rfl | rfl | rfl | rfl | rfl | rfl | rfl | rfl <;> rfl
  have hm0 := tranBox a W
  have hMi := Lib.hid (show (Tryd.prog.info? 26).map (·.size) = some a.cells.length by rw [Tran.cells_length]; kernel_rfl)
  have hg := Lib.hid (fun W' (h : Hx (fun _ => True) W W' [(W.heap.size, a.cells)]) => (h.box (W.heap.size, a.cells) (by simp)).tran (a := a) trivial)
  have hV : tranV a = .agg a.cells.toArray := rfl
  have ko := Lib.hid (fun W' (h : Hx (fun _ => True) W W' [(W.heap.size, a.cells)]) => h.ask noLater ((xfOnesUp_any y hd W').mono (fun _ _ e => ⟨e.1, by rw [← e.2]; exact Below.refl _ _⟩)))
  have ke := Lib.hid (fun W' (h : Hx (fun _ => True) W W' [(W.heap.size, a.cells)]) => h.ask noLater (xfEnds_any a W'))
  have k2 := Lib.hid (fun W' (h : Hx (fun _ => True) W W' [(W.heap.size, a.cells)]) => h.ask noLater (xfPending_any a W'))
  have k240 := Lib.hid (fun W' (h : Hx (fun _ => True) W W' [(W.heap.size, a.cells)]) => h.ask noLater (xfHas_any a 240 _ rfl W'))
  have k192 := Lib.hid (fun W' (h : Hx (fun _ => True) W W' [(W.heap.size, a.cells)]) => h.ask noLater (xfHas_any a 192 _ rfl W'))
  rw [hV] at ke k2 k240 k192 ⊢
  generalize togB a.Flags = v at *
  generalize y / 2 % 2 + y / 4 % 2 + y / 8 % 2 = c at *
  generalize (bits .and .i64 a.Flags 240 != 0) = b240 at *
  generalize (bits .and .i64 a.Flags 192 != 0) = b192 at *
  generalize endsB a.Flags = bE at *
  generalize bitZ a.Flags 2 = b2 at *
  generalize a.cells = M at *
  obtain ⟨z0, z1, z2, z3, z4, z5, z6, z7, z8, z9, z10, z11, z12, z13, z14, z15, z16, -⟩ := hg.out _ hm0
  clear hd h0 h1
  subst hx
  obtain ⟨g, hgt⟩ : ∃ g, decide (1 < c) = g := ⟨_, rfl⟩
  rw [hgt]
  cases g
  case true =>
    go_enter Tryd.func31, Tryd.ntmps31
    go_wp2_with (first | (refine wpList_load_midg rfl 26 _ rfl W.heap.size 0 rfl M _ (hm0.row (by simp)) Tryd.underlying26 rfl hMi.out ?_) | (go_at_call 46; with_reducible refine (ko.out _ hm0).mono ?_; rintro e Wn ⟨rfl, hbn⟩; replace hm0 := hbn; clear hbn; clear z0 z1 z2 z3 z4 z5 z6 z7 z8 z9 z10 z11 z12 z13 z14 z15 z16; obtain ⟨z0, z1, z2, z3, z4, z5, z6, z7, z8, z9, z10, z11, z12, z13, z14, z15, z16, -⟩ := hg.out _ hm0))
    go_ret
    exact ⟨rfl, hm0.bel⟩
  cases bE
  case true =>
    go_enter Tryd.func31, Tryd.ntmps31
    go_wp2_with (first | (refine wpList_load_midg rfl 26 _ rfl W.heap.size 0 rfl M _ (hm0.row (by simp)) Tryd.underlying26 rfl hMi.out ?_) | (go_at_call 46; with_reducible refine (ko.out _ hm0).mono ?_; rintro e Wn ⟨rfl, hbn⟩; replace hm0 := hbn; clear hbn; clear z0 z1 z2 z3 z4 z5 z6 z7 z8 z9 z10 z11 z12 z13 z14 z15 z16; obtain ⟨z0, z1, z2, z3, z4, z5, z6, z7, z8, z9, z10, z11, z12, z13, z14, z15, z16, -⟩ := hg.out _ hm0) | (go_at_call 12; with_reducible refine (ke.out _ hm0).mono ?_; rintro e Wn ⟨rfl, hbn⟩; replace hm0 := hbn; clear hbn; clear z0 z1 z2 z3 z4 z5 z6 z7 z8 z9 z10 z11 z12 z13 z14 z15 z16; obtain ⟨z0, z1, z2, z3, z4, z5, z6, z7, z8, z9, z10, z11, z12, z13, z14, z15, z16, -⟩ := hg.out _ hm0) | (go_at_call 37; with_reducible refine (k240.out _ hm0).mono ?_; rintro e Wn ⟨rfl, hbn⟩; replace hm0 := hbn; clear hbn; clear z0 z1 z2 z3 z4 z5 z6 z7 z8 z9 z10 z11 z12 z13 z14 z15 z16; obtain ⟨z0, z1, z2, z3, z4, z5, z6, z7, z8, z9, z10, z11, z12, z13, z14, z15, z16, -⟩ := hg.out _ hm0))
    go_ret
    exact ⟨rfl, hm0.bel⟩
  cases b192
  all_goals
    go_enter Tryd.func31, Tryd.ntmps31
    go_wp2_with (first | (refine wpList_load_midg rfl 26 _ rfl W.heap.size 0 rfl M _ (hm0.row (by simp)) Tryd.underlying26 rfl hMi.out ?_) | (go_at_call 46; with_reducible refine (ko.out _ hm0).mono ?_; rintro e Wn ⟨rfl, hbn⟩; replace hm0 := hbn; clear hbn; clear z0 z1 z2 z3 z4 z5 z6 z7 z8 z9 z10 z11 z12 z13 z14 z15 z16; obtain ⟨z0, z1, z2, z3, z4, z5, z6, z7, z8, z9, z10, z11, z12, z13, z14, z15, z16, -⟩ := hg.out _ hm0) | (go_at_call 12; with_reducible refine (ke.out _ hm0).mono ?_; rintro e Wn ⟨rfl, hbn⟩; replace hm0 := hbn; clear hbn; clear z0 z1 z2 z3 z4 z5 z6 z7 z8 z9 z10 z11 z12 z13 z14 z15 z16; obtain ⟨z0, z1, z2, z3, z4, z5, z6, z7, z8, z9, z10, z11, z12, z13, z14, z15, z16, -⟩ := hg.out _ hm0) | (go_at_call 37; with_reducible refine (k192.out _ hm0).mono ?_; rintro e Wn ⟨rfl, hbn⟩; replace hm0 := hbn; clear hbn; clear z0 z1 z2 z3 z4 z5 z6 z7 z8 z9 z10 z11 z12 z13 z14 z15 z16; obtain ⟨z0, z1, z2, z3, z4, z5, z6, z7, z8, z9, z10, z11, z12, z13, z14, z15, z16, -⟩ := hg.out _ hm0) | (go_at_call 13; with_reducible refine (k2.out _ hm0).mono ?_; rintro e Wn ⟨rfl, hbn⟩; replace hm0 := hbn; clear hbn; clear z0 z1 z2 z3 z4 z5 z6 z7 z8 z9 z10 z11 z12 z13 z14 z15 z16; obtain ⟨z0, z1, z2, z3, z4, z5, z6, z7, z8, z9, z10, z11, z12, z13, z14, z15, z16, -⟩ := hg.out _ hm0))
    go_ret
    exact ⟨rfl, hm0.bel⟩
theorem bits_low {w : Int} {m : Nat} (hm : m ≤ 32) (h0 : 0 ≤ w) (h1 : w ≤ 9223372036854775807) : bits .andNot .i64 w (((2 ^ m - 1 : Nat)) : Int) = w / (2 ^ m : Nat) * (2 ^ m : Nat) := by
  show IntKind.i64.wrap ((BitVec.ofInt 64 w &&& ~~~(BitVec.ofInt 64 ((2 ^ m - 1 : Nat) : Int))).toNat : Int) = _
  rw [BitVec.ofInt_natCast, bv_high, BitVec.toNat_shiftLeft, BitVec.toNat_ushiftRight, ofInt_mod, Nat.shiftRight_eq_div_pow, Nat.shiftLeft_eq]
  have hM : 2 ^ m ≤ 2 ^ 32 := Nat.pow_le_pow_right (by decide) hm
  generalize 2 ^ m = M at *
  rw [show (2 : Nat) ^ 64 = 18446744073709551616 from rfl]
  obtain ⟨n, rfl⟩ := Int.eq_ofNat_of_zero_le h0
  rw [show ((n : Int) % 18446744073709551616).toNat = n by omega]
  have h4 := Nat.div_mul_le_self n M
  rw [Nat.mod_eq_of_lt (by omega), ← Int.natCast_ediv, ← Int.natCast_mul, IntKind.wrap_i64]
  generalize n / M * M = z at *
  omega
theorem unlink_in {f : Int} (h0 : 0 ≤ f) (h1 : f ≤ 9223372036854775807) : bits .andNot .i64 f 1 = f / 2 * 2 := by
  have h := bits_low (w := f) (m := 1) (by decide) h0 h1
  rw [show ((2 ^ 1 - 1 : Nat) : Int) = 1 from rfl, show ((2 ^ 1 : Nat) : Int) = 2 from rfl] at h
  exact h
def unlinkT (a : Tran) : Tran := { a with Flags := a.Flags / 2 * 2 }
set_option maxRecDepth 100000 in
set_option maxHeartbeats 4000000 in
theorem xfUnlinked_any (a : Tran) (h0 : 0 ≤ a.Flags) (h1 : a.Flags ≤ 9223372036854775807) (W : World) : Calls Tryd.prog 38 #[tranV a] W fun e W' => e = .returned (tranV (unlinkT a)) ∧ Below W.heap.size W W' := by
  have hb := unlink_in h0 h1
  rw [tranV_eq, tranV_eq]
  unfold unlinkT
  dsimp only
  generalize a.Flags / 2 * 2 = x at *
  clear h0 h1
  go_enter Tryd.func38, Tryd.ntmps38
  go_wp2
  refine bodyPost_ret (v := .agg #[.int .u64 ((hiN a.Id : Nat) : Int), .int .u64 ((loN a.Id : Nat) : Int), .int .u64 ((hiN a.Debit : Nat) : Int), .int .u64 ((loN a.Debit : Nat) : Int), .int .u64 ((hiN a.Credit : Nat) : Int), .int .u64 ((loN a.Credit : Nat) : Int), .int .u64 ((hiN a.Amount : Nat) : Int), .int .u64 ((loN a.Amount : Nat) : Int), .int .u64 ((hiN a.Pending : Nat) : Int), .int .u64 ((loN a.Pending : Nat) : Int), .int .i64 a.Timeout, .int .i64 a.Ledger, .int .i64 a.Code, .int .i64 x, .int .i64 a.Stamp, .int .i64 a.Born]) ?_ rfl ⟨rfl, ?_⟩
  · simp [results, Tryd.results38, go_sem]
  · exact ((Below.refl _ _).alloc (Nat.le_refl _) _).alloc (by simp) _
theorem unlink_same (a b : Tran) : unlinkT a = unlinkT b ↔ plainT a = plainT b := by
  unfold unlinkT plainT
  rw [Tran.mk.injEq, Tran.mk.injEq]
  have : a.Flags / 2 * 2 = b.Flags / 2 * 2 ↔ a.Flags / 2 = b.Flags / 2 := by omega
  rw [this]
open Classical in
set_option maxRecDepth 100000 in
set_option maxHeartbeats 4000000 in
theorem xfAgain_any (a b : Tran) (ha : a.Wf) (hb : b.Wf) (h0 : 0 ≤ a.Flags) (h1 : 0 ≤ b.Flags) (W : World) : Calls Tryd.prog 17 #[tranV a, tranV b] W fun e W' => e = .returned (.int .i64 (againT a b)) ∧ Below W.heap.size W W' := by
  have hm0 := ((Hx.refl (Mo := fun _ => True) (w := W) trivial).new noLater a.cells 26).new noLater b.cells 26
  rw [World.size_alloc] at hm0
  have k1 := Lib.hid (fun W' (h : Hx (fun _ => True) W W' [(W.heap.size + 1, b.cells), (W.heap.size, a.cells)]) => h.ask noLater (xfUnlinked_any a h0 ha.Flags.2 W'))
  have k2 := Lib.hid (fun W' (h : Hx (fun _ => True) W W' [(W.heap.size + 1, b.cells), (W.heap.size, a.cells)]) => h.ask noLater (xfUnlinked_any b h1 hb.Flags.2 W'))
  have hq := fun w => run_eql_tran (unlinkT a) (unlinkT b) w
  have hx : againT a b = if (decide (unlinkT a = unlinkT b)) = true then 10 else 11 := by
    by_cases h : plainT a = plainT b
    · rw [againT_pos h, if_pos (decide_eq_true ((unlink_same a b).2 h))]
    · rw [againT_neg h, if_neg (by rw [decide_eq_true_iff]; exact fun e => h ((unlink_same a b).1 e))]
  generalize decide (unlinkT a = unlinkT b) = v at *
  generalize againT a b = x at *
  have hVa : tranV a = .agg a.cells.toArray := rfl
  have hVb : tranV b = .agg b.cells.toArray := rfl
  have hMi := Lib.hid (show (Tryd.prog.info? 26).map (·.size) = some a.cells.length by rw [Tran.cells_length]; kernel_rfl)
  have hNi := Lib.hid (show (Tryd.prog.info? 26).map (·.size) = some b.cells.length by rw [Tran.cells_length]; kernel_rfl)
  have hVa2 : tranV (unlinkT a) = .agg (unlinkT a).cells.toArray := rfl
  have hVb2 : tranV (unlinkT b) = .agg (unlinkT b).cells.toArray := rfl
  rw [hVa, hVa2] at k1
  rw [hVb, hVb2] at k2
  rw [hVa2, hVb2] at hq
  rw [hVa, hVb]
  generalize (unlinkT a).cells = Na at *
  generalize (unlinkT b).cells = Nb at *
  generalize a.cells = Ma at *
  generalize b.cells = Mb at *
  clear hVa hVb hVa2 hVb2 ha hb h0 h1
  subst hx
  go_enter Tryd.func17, Tryd.ntmps17
  go_wp2_with fail
  refine wp_region_calm (fun w' => Hx (fun _ => True) W w' [(W.heap.size + 1, Mb), (W.heap.size, Ma)]) (by kernel_rfl) (by kernel_rfl) (hm0.drew noLater) ?_
  refine calm_load 26 _ (W.heap.size) 0 (Ma) _ (by rfl) rfl rfl (fun w' h => (h.box (W.heap.size, Ma) (by simp)).range) Tryd.underlying26 rfl (by first | exact hMi.out | exact hNi.out | exact hCi.out | exact hDi.out | kernel_rfl) ?_
  try simp only [Act.put, List.setIfInBounds_toArray, List.set_cons_zero, List.set_cons_succ]
  refine calm_call 38 #[.agg Ma.toArray] (by rfl) (fun w' => by go_simp) (fun w' h => (k1.out w' h)) ?_
  try simp only [Act.put, List.setIfInBounds_toArray, List.set_cons_zero, List.set_cons_succ]
  refine calm_load 26 _ (W.heap.size + 1) 0 (Mb) _ (by rfl) rfl rfl (fun w' h => (h.box (W.heap.size + 1, Mb) (by simp)).range) Tryd.underlying26 rfl (by first | exact hMi.out | exact hNi.out | exact hCi.out | exact hDi.out | kernel_rfl) ?_
  try simp only [Act.put, List.setIfInBounds_toArray, List.set_cons_zero, List.set_cons_succ]
  refine calm_call 38 #[.agg Mb.toArray] (by rfl) (fun w' => by go_simp) (fun w' h => (k2.out w' h)) ?_
  try simp only [Act.put, List.setIfInBounds_toArray, List.set_cons_zero, List.set_cons_succ]
  refine calm_pure (v := ?cv156) (by rfl) (fun w' => ?ch156) ?cr156
  case ch156 => (go_simp; first | done | with_reducible rfl)
  try simp only [Act.put, List.setIfInBounds_toArray, List.set_cons_zero, List.set_cons_succ]
  intro w3 hm3
  cases v
  all_goals
    go_wp2
    go_ret
    exact ⟨rfl, hm3.bel⟩
def chkKind (least : Int) (a : Tran) : Int := if inZ least a.Ledger 4294967295 = false then 8 else if inZ least a.Code 65535 = false then 9 else 0
set_option maxRecDepth 100000 in
set_option maxHeartbeats 4000000 in
theorem xfKind_any (least : Int) (a : Tran) (W : World) : Calls Tryd.prog 47 #[.int .i64 least, tranV a] W fun e W' => e = .returned (.int .i64 (chkKind least a)) ∧ Below W.heap.size W W' := by
  have hm0 := tranBox a W
  have hMi := Lib.hid (show (Tryd.prog.info? 26).map (·.size) = some a.cells.length by rw [Tran.cells_length]; kernel_rfl)
  have hg := Lib.hid (fun W' (h : Hx (fun _ => True) W W' [(W.heap.size, a.cells)]) => (h.box (W.heap.size, a.cells) (by simp)).tran (a := a) trivial)
  have hV : tranV a = .agg a.cells.toArray := rfl
  have kl := Lib.hid (fun W' (h : Hx (fun _ => True) W W' [(W.heap.size, a.cells)]) => h.ask noLater (xfWithinB least a.Ledger 4294967295 W'))
  have kc := Lib.hid (fun W' (h : Hx (fun _ => True) W W' [(W.heap.size, a.cells)]) => h.ask noLater (xfWithinB least a.Code 65535 W'))
  rw [hV]
  unfold chkKind
  generalize inZ least a.Ledger 4294967295 = bl at *
  generalize inZ least a.Code 65535 = bc at *
  generalize a.cells = M at *
  obtain ⟨z0, z1, z2, z3, z4, z5, z6, z7, z8, z9, z10, z11, z12, z13, z14, z15, z16, -⟩ := hg.out _ hm0
  cases bl
  case false =>
    go_enter Tryd.func47, Tryd.ntmps47
    go_wp2_with (first | (refine wpList_load_midg rfl 26 _ rfl W.heap.size 0 rfl M _ (hm0.row (by simp)) Tryd.underlying26 rfl hMi.out ?_) | (go_at_call 29; with_reducible refine (kl.out _ hm0).mono ?_; rintro e Wn ⟨rfl, hbn⟩; replace hm0 := hbn; clear hbn; clear z0 z1 z2 z3 z4 z5 z6 z7 z8 z9 z10 z11 z12 z13 z14 z15 z16; obtain ⟨z0, z1, z2, z3, z4, z5, z6, z7, z8, z9, z10, z11, z12, z13, z14, z15, z16, -⟩ := hg.out _ hm0))
    go_ret
    exact ⟨rfl, hm0.bel⟩
  cases bc
  all_goals
    go_enter Tryd.func47, Tryd.ntmps47
    go_wp2_with (first | (refine wpList_load_midg rfl 26 _ rfl W.heap.size 0 rfl M _ (hm0.row (by simp)) Tryd.underlying26 rfl hMi.out ?_) | (go_at_call 29; with_reducible refine (kl.out _ hm0).mono ?_; rintro e Wn ⟨rfl, hbn⟩; replace hm0 := hbn; clear hbn; clear z0 z1 z2 z3 z4 z5 z6 z7 z8 z9 z10 z11 z12 z13 z14 z15 z16; obtain ⟨z0, z1, z2, z3, z4, z5, z6, z7, z8, z9, z10, z11, z12, z13, z14, z15, z16, -⟩ := hg.out _ hm0) | (go_at_call 29; with_reducible refine (kc.out _ hm0).mono ?_; rintro e Wn ⟨rfl, hbn⟩; replace hm0 := hbn; clear hbn; clear z0 z1 z2 z3 z4 z5 z6 z7 z8 z9 z10 z11 z12 z13 z14 z15 z16; obtain ⟨z0, z1, z2, z3, z4, z5, z6, z7, z8, z9, z10, z11, z12, z13, z14, z15, z16, -⟩ := hg.out _ hm0))
    go_ret
    exact ⟨rfl, hm0.bel⟩
def chkEnd (a : Tran) : Int := if decide (a.Pending = 0) = true then 16 else chkKind 0 a
set_option maxRecDepth 100000 in
set_option maxHeartbeats 4000000 in
theorem xfEnd_any (a : Tran) (W : World) : Calls Tryd.prog 33 #[tranV a] W fun e W' => e = .returned (.int .i64 (chkEnd a)) ∧ Below W.heap.size W W' := by
  have hm0 := tranBox a W
  have hMi := Lib.hid (show (Tryd.prog.info? 26).map (·.size) = some a.cells.length by rw [Tran.cells_length]; kernel_rfl)
  have hg := Lib.hid (fun W' (h : Hx (fun _ => True) W W' [(W.heap.size, a.cells)]) => (h.box (W.heap.size, a.cells) (by simp)).tran (a := a) trivial)
  have hV : tranV a = .agg a.cells.toArray := rfl
  have kz := Lib.hid (fun W' (h : Hx (fun _ => True) W W' [(W.heap.size, a.cells)]) => h.ask noLater (zero_any a.Pending W'))
  have kk := Lib.hid (fun W' (h : Hx (fun _ => True) W W' [(W.heap.size, a.cells)]) => h.ask noLater (xfKind_any 0 a W'))
  rw [hV] at kk ⊢
  unfold numV at kz
  unfold chkEnd
  generalize decide (a.Pending = 0) = bz at *
  generalize chkKind 0 a = x at *
  generalize a.cells = M at *
  obtain ⟨z0, z1, z2, z3, z4, z5, z6, z7, z8, z9, z10, z11, z12, z13, z14, z15, z16, -⟩ := hg.out _ hm0
  cases bz
  all_goals
    go_enter Tryd.func33, Tryd.ntmps33
    go_wp2_with (first | (refine wpList_load_midg rfl 26 _ rfl W.heap.size 0 rfl M _ (hm0.row (by simp)) Tryd.underlying26 rfl hMi.out ?_) | (go_at_call 30; with_reducible refine (kz.out _ hm0).mono ?_; rintro e Wn ⟨rfl, hbn⟩; replace hm0 := hbn; clear hbn; clear z0 z1 z2 z3 z4 z5 z6 z7 z8 z9 z10 z11 z12 z13 z14 z15 z16; obtain ⟨z0, z1, z2, z3, z4, z5, z6, z7, z8, z9, z10, z11, z12, z13, z14, z15, z16, -⟩ := hg.out _ hm0) | (go_at_call 47; with_reducible refine (kk.out _ hm0).mono ?_; rintro e Wn ⟨rfl, hbn⟩; replace hm0 := hbn; clear hbn; clear z0 z1 z2 z3 z4 z5 z6 z7 z8 z9 z10 z11 z12 z13 z14 z15 z16; obtain ⟨z0, z1, z2, z3, z4, z5, z6, z7, z8, z9, z10, z11, z12, z13, z14, z15, z16, -⟩ := hg.out _ hm0))
    go_ret
    exact ⟨rfl, hm0.bel⟩
def chkMove (a : Tran) : Int := if decide (a.Debit = 0) = true then 12 else if decide (a.Credit = 0) = true then 13 else if decide (a.Debit = a.Credit) = true then 14 else if decide (a.Pending = 0) = false then 15
    else if decide (a.Amount = 0) = true then (if balB a.Flags = false then 18 else chkKind 1 a) else chkKind 1 a
set_option maxRecDepth 100000 in
set_option maxHeartbeats 4000000 in
theorem xfMove_any (a : Tran) (W : World) : Calls Tryd.prog 34 #[tranV a] W fun e W' => e = .returned (.int .i64 (chkMove a)) ∧ Below W.heap.size W W' := by
  have hm0 := tranBox a W
  have hMi := Lib.hid (show (Tryd.prog.info? 26).map (·.size) = some a.cells.length by rw [Tran.cells_length]; kernel_rfl)
  have hg := Lib.hid (fun W' (h : Hx (fun _ => True) W W' [(W.heap.size, a.cells)]) => (h.box (W.heap.size, a.cells) (by simp)).tran (a := a) trivial)
  have hV : tranV a = .agg a.cells.toArray := rfl
  have kd := Lib.hid (fun W' (h : Hx (fun _ => True) W W' [(W.heap.size, a.cells)]) => h.ask noLater (zero_any a.Debit W'))
  have kc := Lib.hid (fun W' (h : Hx (fun _ => True) W W' [(W.heap.size, a.cells)]) => h.ask noLater (zero_any a.Credit W'))
  have kp := Lib.hid (fun W' (h : Hx (fun _ => True) W W' [(W.heap.size, a.cells)]) => h.ask noLater (zero_any a.Pending W'))
  have ka := Lib.hid (fun W' (h : Hx (fun _ => True) W W' [(W.heap.size, a.cells)]) => h.ask noLater (zero_any a.Amount W'))
  have kb := Lib.hid (fun W' (h : Hx (fun _ => True) W W' [(W.heap.size, a.cells)]) => h.ask noLater (xfBalances_any a W'))
  have kk := Lib.hid (fun W' (h : Hx (fun _ => True) W W' [(W.heap.size, a.cells)]) => h.ask noLater (xfKind_any 1 a W'))
  rw [hV] at kk kb ⊢
  have hq := fun w => run_eql_num a.Debit a.Credit w
  unfold numV at kd kc kp ka
  unfold chkMove
  generalize decide (a.Debit = 0) = bd at *
  generalize decide (a.Credit = 0) = bc at *
  generalize h3 : decide (a.Debit = a.Credit) = b3 at *
  generalize decide (a.Pending = 0) = bp at *
  generalize decide (a.Amount = 0) = ba at *
  generalize balB a.Flags = bb at *
  generalize chkKind 1 a = x at *
  generalize a.cells = M at *
  obtain ⟨z0, z1, z2, z3, z4, z5, z6, z7, z8, z9, z10, z11, z12, z13, z14, z15, z16, -⟩ := hg.out _ hm0
  cases bd
  case true =>
    go_enter Tryd.func34, Tryd.ntmps34
    go_wp2_with (first | (refine wpList_load_midg rfl 26 _ rfl W.heap.size 0 rfl M _ (hm0.row (by simp)) Tryd.underlying26 rfl hMi.out ?_) | (go_at_call 30; with_reducible refine (kd.out _ hm0).mono ?_; rintro e Wn ⟨rfl, hbn⟩; replace hm0 := hbn; clear hbn; clear z0 z1 z2 z3 z4 z5 z6 z7 z8 z9 z10 z11 z12 z13 z14 z15 z16; obtain ⟨z0, z1, z2, z3, z4, z5, z6, z7, z8, z9, z10, z11, z12, z13, z14, z15, z16, -⟩ := hg.out _ hm0))
    go_ret
    exact ⟨rfl, hm0.bel⟩
  cases bc
  case true =>
    go_enter Tryd.func34, Tryd.ntmps34
    go_wp2_with (first | (refine wpList_load_midg rfl 26 _ rfl W.heap.size 0 rfl M _ (hm0.row (by simp)) Tryd.underlying26 rfl hMi.out ?_) | (go_at_call 30; with_reducible refine (kd.out _ hm0).mono ?_; rintro e Wn ⟨rfl, hbn⟩; replace hm0 := hbn; clear hbn; clear z0 z1 z2 z3 z4 z5 z6 z7 z8 z9 z10 z11 z12 z13 z14 z15 z16; obtain ⟨z0, z1, z2, z3, z4, z5, z6, z7, z8, z9, z10, z11, z12, z13, z14, z15, z16, -⟩ := hg.out _ hm0) | (go_at_call 30; with_reducible refine (kc.out _ hm0).mono ?_; rintro e Wn ⟨rfl, hbn⟩; replace hm0 := hbn; clear hbn; clear z0 z1 z2 z3 z4 z5 z6 z7 z8 z9 z10 z11 z12 z13 z14 z15 z16; obtain ⟨z0, z1, z2, z3, z4, z5, z6, z7, z8, z9, z10, z11, z12, z13, z14, z15, z16, -⟩ := hg.out _ hm0))
    go_ret
    exact ⟨rfl, hm0.bel⟩
  cases b3
  case true =>
    go_enter Tryd.func34, Tryd.ntmps34
    go_wp2_with (first | (refine wpList_load_midg rfl 26 _ rfl W.heap.size 0 rfl M _ (hm0.row (by simp)) Tryd.underlying26 rfl hMi.out ?_) | (go_at_call 30; with_reducible refine (kd.out _ hm0).mono ?_; rintro e Wn ⟨rfl, hbn⟩; replace hm0 := hbn; clear hbn; clear z0 z1 z2 z3 z4 z5 z6 z7 z8 z9 z10 z11 z12 z13 z14 z15 z16; obtain ⟨z0, z1, z2, z3, z4, z5, z6, z7, z8, z9, z10, z11, z12, z13, z14, z15, z16, -⟩ := hg.out _ hm0) | (go_at_call 30; with_reducible refine (kc.out _ hm0).mono ?_; rintro e Wn ⟨rfl, hbn⟩; replace hm0 := hbn; clear hbn; clear z0 z1 z2 z3 z4 z5 z6 z7 z8 z9 z10 z11 z12 z13 z14 z15 z16; obtain ⟨z0, z1, z2, z3, z4, z5, z6, z7, z8, z9, z10, z11, z12, z13, z14, z15, z16, -⟩ := hg.out _ hm0))
    go_ret
    exact ⟨rfl, hm0.bel⟩
  cases bp
  case false =>
    go_enter Tryd.func34, Tryd.ntmps34
    go_wp2_with (first | (refine wpList_load_midg rfl 26 _ rfl W.heap.size 0 rfl M _ (hm0.row (by simp)) Tryd.underlying26 rfl hMi.out ?_) | (go_at_call 30; with_reducible refine (kd.out _ hm0).mono ?_; rintro e Wn ⟨rfl, hbn⟩; replace hm0 := hbn; clear hbn; clear z0 z1 z2 z3 z4 z5 z6 z7 z8 z9 z10 z11 z12 z13 z14 z15 z16; obtain ⟨z0, z1, z2, z3, z4, z5, z6, z7, z8, z9, z10, z11, z12, z13, z14, z15, z16, -⟩ := hg.out _ hm0) | (go_at_call 30; with_reducible refine (kc.out _ hm0).mono ?_; rintro e Wn ⟨rfl, hbn⟩; replace hm0 := hbn; clear hbn; clear z0 z1 z2 z3 z4 z5 z6 z7 z8 z9 z10 z11 z12 z13 z14 z15 z16; obtain ⟨z0, z1, z2, z3, z4, z5, z6, z7, z8, z9, z10, z11, z12, z13, z14, z15, z16, -⟩ := hg.out _ hm0) | (go_at_call 30; with_reducible refine (kp.out _ hm0).mono ?_; rintro e Wn ⟨rfl, hbn⟩; replace hm0 := hbn; clear hbn; clear z0 z1 z2 z3 z4 z5 z6 z7 z8 z9 z10 z11 z12 z13 z14 z15 z16; obtain ⟨z0, z1, z2, z3, z4, z5, z6, z7, z8, z9, z10, z11, z12, z13, z14, z15, z16, -⟩ := hg.out _ hm0))
    go_ret
    exact ⟨rfl, hm0.bel⟩
  cases ba
  case false =>
    go_enter Tryd.func34, Tryd.ntmps34
    go_wp2_with (first | (refine wpList_load_midg rfl 26 _ rfl W.heap.size 0 rfl M _ (hm0.row (by simp)) Tryd.underlying26 rfl hMi.out ?_) | (go_at_call 30; with_reducible refine (kd.out _ hm0).mono ?_; rintro e Wn ⟨rfl, hbn⟩; replace hm0 := hbn; clear hbn; clear z0 z1 z2 z3 z4 z5 z6 z7 z8 z9 z10 z11 z12 z13 z14 z15 z16; obtain ⟨z0, z1, z2, z3, z4, z5, z6, z7, z8, z9, z10, z11, z12, z13, z14, z15, z16, -⟩ := hg.out _ hm0) | (go_at_call 30; with_reducible refine (kc.out _ hm0).mono ?_; rintro e Wn ⟨rfl, hbn⟩; replace hm0 := hbn; clear hbn; clear z0 z1 z2 z3 z4 z5 z6 z7 z8 z9 z10 z11 z12 z13 z14 z15 z16; obtain ⟨z0, z1, z2, z3, z4, z5, z6, z7, z8, z9, z10, z11, z12, z13, z14, z15, z16, -⟩ := hg.out _ hm0) | (go_at_call 30; with_reducible refine (kp.out _ hm0).mono ?_; rintro e Wn ⟨rfl, hbn⟩; replace hm0 := hbn; clear hbn; clear z0 z1 z2 z3 z4 z5 z6 z7 z8 z9 z10 z11 z12 z13 z14 z15 z16; obtain ⟨z0, z1, z2, z3, z4, z5, z6, z7, z8, z9, z10, z11, z12, z13, z14, z15, z16, -⟩ := hg.out _ hm0) | (go_at_call 30; with_reducible refine (ka.out _ hm0).mono ?_; rintro e Wn ⟨rfl, hbn⟩; replace hm0 := hbn; clear hbn; clear z0 z1 z2 z3 z4 z5 z6 z7 z8 z9 z10 z11 z12 z13 z14 z15 z16; obtain ⟨z0, z1, z2, z3, z4, z5, z6, z7, z8, z9, z10, z11, z12, z13, z14, z15, z16, -⟩ := hg.out _ hm0) | (go_at_call 47; with_reducible refine (kk.out _ hm0).mono ?_; rintro e Wn ⟨rfl, hbn⟩; replace hm0 := hbn; clear hbn; clear z0 z1 z2 z3 z4 z5 z6 z7 z8 z9 z10 z11 z12 z13 z14 z15 z16; obtain ⟨z0, z1, z2, z3, z4, z5, z6, z7, z8, z9, z10, z11, z12, z13, z14, z15, z16, -⟩ := hg.out _ hm0))
    go_ret
    exact ⟨rfl, hm0.bel⟩
  cases bb
  all_goals
    go_enter Tryd.func34, Tryd.ntmps34
    go_wp2_with (first | (refine wpList_load_midg rfl 26 _ rfl W.heap.size 0 rfl M _ (hm0.row (by simp)) Tryd.underlying26 rfl hMi.out ?_) | (go_at_call 30; with_reducible refine (kd.out _ hm0).mono ?_; rintro e Wn ⟨rfl, hbn⟩; replace hm0 := hbn; clear hbn; clear z0 z1 z2 z3 z4 z5 z6 z7 z8 z9 z10 z11 z12 z13 z14 z15 z16; obtain ⟨z0, z1, z2, z3, z4, z5, z6, z7, z8, z9, z10, z11, z12, z13, z14, z15, z16, -⟩ := hg.out _ hm0) | (go_at_call 30; with_reducible refine (kc.out _ hm0).mono ?_; rintro e Wn ⟨rfl, hbn⟩; replace hm0 := hbn; clear hbn; clear z0 z1 z2 z3 z4 z5 z6 z7 z8 z9 z10 z11 z12 z13 z14 z15 z16; obtain ⟨z0, z1, z2, z3, z4, z5, z6, z7, z8, z9, z10, z11, z12, z13, z14, z15, z16, -⟩ := hg.out _ hm0) | (go_at_call 30; with_reducible refine (kp.out _ hm0).mono ?_; rintro e Wn ⟨rfl, hbn⟩; replace hm0 := hbn; clear hbn; clear z0 z1 z2 z3 z4 z5 z6 z7 z8 z9 z10 z11 z12 z13 z14 z15 z16; obtain ⟨z0, z1, z2, z3, z4, z5, z6, z7, z8, z9, z10, z11, z12, z13, z14, z15, z16, -⟩ := hg.out _ hm0) | (go_at_call 30; with_reducible refine (ka.out _ hm0).mono ?_; rintro e Wn ⟨rfl, hbn⟩; replace hm0 := hbn; clear hbn; clear z0 z1 z2 z3 z4 z5 z6 z7 z8 z9 z10 z11 z12 z13 z14 z15 z16; obtain ⟨z0, z1, z2, z3, z4, z5, z6, z7, z8, z9, z10, z11, z12, z13, z14, z15, z16, -⟩ := hg.out _ hm0) | (go_at_call 14; with_reducible refine (kb.out _ hm0).mono ?_; rintro e Wn ⟨rfl, hbn⟩; replace hm0 := hbn; clear hbn; clear z0 z1 z2 z3 z4 z5 z6 z7 z8 z9 z10 z11 z12 z13 z14 z15 z16; obtain ⟨z0, z1, z2, z3, z4, z5, z6, z7, z8, z9, z10, z11, z12, z13, z14, z15, z16, -⟩ := hg.out _ hm0) | (go_at_call 47; with_reducible refine (kk.out _ hm0).mono ?_; rintro e Wn ⟨rfl, hbn⟩; replace hm0 := hbn; clear hbn; clear z0 z1 z2 z3 z4 z5 z6 z7 z8 z9 z10 z11 z12 z13 z14 z15 z16; obtain ⟨z0, z1, z2, z3, z4, z5, z6, z7, z8, z9, z10, z11, z12, z13, z14, z15, z16, -⟩ := hg.out _ hm0))
    go_ret
    exact ⟨rfl, hm0.bel⟩
end Go.Proofs.YtlalkfebedjlgaaDoor
