/- The landed accounts' Again and Check. No condition but that the variable Most holds the greatest number. -/
import Derived.Test.YtideooaefplbhaaDoorZKa
namespace Go.Proofs.YtideooaefplbhaaDoor
open Go.RowKit Go.Sort Wm Cr
attribute [local go_sem high] run_eql_num run_neq_num run_eql_num0 run_neq_num0

theorem and6 (f : Int) : bits .and .i64 f 6 = f / 2 % 4 * 2 := by
  have h := bits_and (w := f) (k := 6) (m := 3) (by decide) (by decide)
  rw [show ((6 : Nat) : Int) = 6 from rfl, show ((2 ^ 3 : Nat) : Int) = 8 from rfl] at h
  rw [h]
  obtain ⟨r, hr⟩ : ∃ r, f % 8 = r := ⟨_, rfl⟩
  have h1 : f / 2 % 4 = r / 2 := by omega
  have h2 : 0 ≤ r ∧ r < 8 := by omega
  rw [hr, h1]
  obtain ⟨n, rfl⟩ := Int.eq_ofNat_of_zero_le h2.1
  have h3 : n < 8 := by omega
  match n, h3 with
  | 0, _ => decide
  | 1, _ => decide
  | 2, _ => decide
  | 3, _ => decide
  | 4, _ => decide
  | 5, _ => decide
  | 6, _ => decide
  | 7, _ => decide
theorem yesLater : ∀ W W' : World, (fun _ : World => True) W → Below W.heap.size W W' → (fun _ : World => True) W' := fun _ _ _ _ => trivial
theorem run_equal_kind (l c f l' c' f' : Int) (w : World) : (Op.equalIn 10000 53 (.agg #[.int .i64 l, .int .i64 c, .int .i64 f]) (.agg #[.int .i64 l', .int .i64 c', .int .i64 f'])).run Tryd.prog w = .ok (decide (l = l' ∧ c = c' ∧ f = f')) w := by
  by_cases h : l = l' ∧ c = c' ∧ f = f'
  · obtain ⟨rfl, rfl, rfl⟩ := h
    rw [decide_eq_true ⟨rfl, rfl, rfl⟩]
    simp [go_sem]
  · rw [decide_eq_false h]
    simp [go_sem]
    intro h1 h2 h3
    exact h ⟨h1, h2, h3⟩
theorem run_eql_kind (l c f l' c' f' : Int) (w : World) : (binOp .eql 53 (.agg #[.int .i64 l, .int .i64 c, .int .i64 f]) (.agg #[.int .i64 l', .int .i64 c', .int .i64 f'])).run Tryd.prog w = .ok (.bool (decide (l = l' ∧ c = c' ∧ f = f'))) w := by
  rw [run_eql_struct, run_equal_kind]; rfl
set_option maxRecDepth 100000 in
set_option maxHeartbeats 1000000 in
theorem acAgain_any (a b : Acct) (W : World) : Calls Tryd.prog 11 #[acctV a, acctV b] W fun e W' => e = .returned (.int .i64 (againA a b)) ∧ Below W.heap.size W W' := by
  have hm0 := ((Hx.refl (Mo := fun _ => True) (w := W) trivial).new yesLater a.cells 26).new yesLater b.cells 26
  rw [World.size_alloc] at hm0
  have k1 := Lib.hid (fun W' (h : Hx (fun _ => True) W W' [(W.heap.size + 1, b.cells), (W.heap.size, a.cells)]) => h.ask yesLater (acKind_any a _ (and6 a.Flags) W'))
  have k2 := Lib.hid (fun W' (h : Hx (fun _ => True) W W' [(W.heap.size + 1, b.cells), (W.heap.size, a.cells)]) => h.ask yesLater (acKind_any b _ (and6 b.Flags) W'))
  have hq := fun w => run_eql_kind a.Ledger a.Code (a.Flags / 2 % 4 * 2) b.Ledger b.Code (b.Flags / 2 % 4 * 2) w
  have hx : againA a b = if (decide (a.Ledger = b.Ledger ∧ a.Code = b.Code ∧ a.Flags / 2 % 4 * 2 = b.Flags / 2 % 4 * 2)) = true then 10 else 11 := by
    unfold againA
    by_cases h : a.Ledger = b.Ledger ∧ a.Code = b.Code ∧ a.Flags / 2 % 4 = b.Flags / 2 % 4
    · rw [if_pos h, if_pos (decide_eq_true ⟨h.1, h.2.1, by rw [h.2.2]⟩)]
    · rw [if_neg h, if_neg (by rw [decide_eq_true_iff]; exact fun e => h ⟨e.1, e.2.1, by omega⟩)]
  generalize decide (a.Ledger = b.Ledger ∧ a.Code = b.Code ∧ a.Flags / 2 % 4 * 2 = b.Flags / 2 % 4 * 2) = v at *
  generalize againA a b = x at *
  have hVa : acctV a = .agg a.cells.toArray := rfl
  have hVb : acctV b = .agg b.cells.toArray := rfl
  have hMi := Lib.hid (show (Tryd.prog.info? 26).map (·.size) = some a.cells.length by rw [Acct.cells_length]; kernel_rfl)
  have hNi := Lib.hid (show (Tryd.prog.info? 26).map (·.size) = some b.cells.length by rw [Acct.cells_length]; kernel_rfl)
  generalize a.Ledger = l1 at *
  generalize b.Ledger = l2 at *
  generalize a.Code = c1 at *
  generalize b.Code = c2 at *
  generalize a.Flags / 2 % 4 * 2 = f1 at *
  generalize b.Flags / 2 % 4 * 2 = f2 at *
  rw [hVa] at k1
  rw [hVb] at k2
  rw [hVa, hVb]
  generalize a.cells = Ma at *
  generalize b.cells = Mb at *
  clear hVa hVb
  subst hx
  go_enter Tryd.func11, Tryd.ntmps11
  go_wp2_with fail
  refine wp_region_calm (fun w' => Hx (fun _ => True) W w' [(W.heap.size + 1, Mb), (W.heap.size, Ma)]) (by kernel_rfl) (by kernel_rfl) (hm0.drew yesLater) ?_
  refine calm_load 26 _ (W.heap.size) 0 (Ma) _ (by rfl) rfl rfl (fun w' h => (h.box (W.heap.size, Ma) (by simp)).range) Tryd.underlying26 rfl (by first | exact hMi.out | exact hNi.out | exact hCi.out | exact hDi.out | kernel_rfl) ?_
  try simp only [Act.put, List.setIfInBounds_toArray, List.set_cons_zero, List.set_cons_succ]
  refine calm_call 27 #[.agg Ma.toArray] (by rfl) (fun w' => by go_simp) (fun w' h => (k1.out w' h)) ?_
  try simp only [Act.put, List.setIfInBounds_toArray, List.set_cons_zero, List.set_cons_succ]
  refine calm_load 26 _ (W.heap.size + 1) 0 (Mb) _ (by rfl) rfl rfl (fun w' h => (h.box (W.heap.size + 1, Mb) (by simp)).range) Tryd.underlying26 rfl (by first | exact hMi.out | exact hNi.out | exact hCi.out | exact hDi.out | kernel_rfl) ?_
  try simp only [Act.put, List.setIfInBounds_toArray, List.set_cons_zero, List.set_cons_succ]
  refine calm_call 27 #[.agg Mb.toArray] (by rfl) (fun w' => by go_simp) (fun w' h => (k2.out w' h)) ?_
  try simp only [Act.put, List.setIfInBounds_toArray, List.set_cons_zero, List.set_cons_succ]
  refine calm_pure (v := ?cv80) (by rfl) (fun w' => ?ch80) ?cr80
  case ch80 => (go_simp; first | done | with_reducible rfl)
  try simp only [Act.put, List.setIfInBounds_toArray, List.set_cons_zero, List.set_cons_succ]
  intro w3 hm3
  cases v
  all_goals
    go_wp2
    go_ret
    exact ⟨rfl, hm3.bel⟩
/-- What is wrong with it, test by test. -/
theorem chkA_in (a : Acct) (h : a.Wf) : chkA a = if (bits .andNot .i64 a.Flags 7 != 0) = true then 3 else if decide (a.Id = 0) = true then 4 else if decide (a.Id = mostN) = true then 5
    else if (bits .and .i64 a.Flags 6 == 6) = true then 6 else if decide (a.DebitsPending ≠ 0 ∨ a.DebitsPosted ≠ 0 ∨ a.CreditsPending ≠ 0 ∨ a.CreditsPosted ≠ 0 ∨ a.Stamp ≠ 0) = true then 7
    else if inZ 1 a.Ledger 4294967295 = false then 8 else if inZ 1 a.Code 65535 = false then 9 else 0 := by
  have h1 := bits_high (m := 3) (by decide) h.Flags.1 h.Flags.2
  rw [show (((2 ^ 3 - 1 : Nat)) : Int) = 7 from rfl, show ((2 ^ 3 : Nat) : Int) = 8 from rfl] at h1
  have h2 : (bits .andNot .i64 a.Flags 7 != 0) = decide (a.Flags < 0 ∨ 7 < a.Flags) := by
    by_cases c1 : a.Flags < 0 ∨ 7 < a.Flags
    · rw [decide_eq_true c1, bne_iff_ne]; intro e; have := h1.1 e; omega
    · rw [decide_eq_false c1, h1.2 (by omega)]; rfl
  have h4 : (bits .and .i64 a.Flags 6 == 6) = decide (bitZ a.Flags 2 = true ∧ bitZ a.Flags 4 = true) := by
    rw [and6]
    unfold bitZ
    by_cases c4 : decide (a.Flags / 2 % 2 = 1) = true ∧ decide (a.Flags / 4 % 2 = 1) = true
    · rw [decide_eq_true c4, beq_iff_eq]
      rw [decide_eq_true_iff, decide_eq_true_iff] at c4
      omega
    · rw [decide_eq_false c4, beq_eq_false_iff_ne]
      rw [decide_eq_true_iff, decide_eq_true_iff] at c4
      omega
  have h6 : inZ 1 a.Ledger 4294967295 = !decide (a.Ledger ≤ 0 ∨ 4294967296 ≤ a.Ledger) := by
    unfold inZ
    rw [← Bool.decide_and, ← decide_not]
    refine decide_eq_decide.2 ?_
    omega
  have h7 : inZ 1 a.Code 65535 = !decide (a.Code ≤ 0 ∨ 65536 ≤ a.Code) := by
    unfold inZ
    rw [← Bool.decide_and, ← decide_not]
    refine decide_eq_decide.2 ?_
    omega
  rw [h2, h4, h6, h7]
  unfold chkA
  simp only [decide_eq_true_iff, Bool.not_eq_false']
theorem Acct.same {a b : Acct} (h0 : a.Id = b.Id) (h1 : a.DebitsPending = b.DebitsPending) (h2 : a.DebitsPosted = b.DebitsPosted) (h3 : a.CreditsPending = b.CreditsPending) (h4 : a.CreditsPosted = b.CreditsPosted) (h5 : a.Ledger = b.Ledger) (h6 : a.Code = b.Code) (h7 : a.Flags = b.Flags) (h8 : a.Stamp = b.Stamp) : a = b := by
  cases a; cases b
  dsimp only at *
  subst h0 h1 h2 h3 h4 h5 h6 h7 h8
  rfl
open Classical in
set_option maxRecDepth 100000 in
theorem run_equal_accts (a b : Acct) (w : World) : (Op.equalIn 10000 26 (acctV a) (acctV b)).run Tryd.prog w = .ok (decide (a = b)) w := by
  by_cases h : a = b
  · subst h
    rw [decide_eq_true rfl, acctV_eq]
    simp [go_sem]
  · rw [decide_eq_false h, acctV_eq, acctV_eq]
    simp [go_sem]
    intro i0 i1 i2 i3 i4 i5 i6 i7 i8 i9 i10 i11 i12 i13
    exact h (Acct.same (num_inj (Int.natCast_inj.1 i0) (Int.natCast_inj.1 i1)) (num_inj (Int.natCast_inj.1 i2) (Int.natCast_inj.1 i3)) (num_inj (Int.natCast_inj.1 i4) (Int.natCast_inj.1 i5)) (num_inj (Int.natCast_inj.1 i6) (Int.natCast_inj.1 i7)) (num_inj (Int.natCast_inj.1 i8) (Int.natCast_inj.1 i9)) i10 i11 i12 i13)
open Classical in
theorem run_neq_accts (a b : Acct) (w : World) : (binOp .neq 26 (.agg a.cells.toArray) (.agg b.cells.toArray)).run Tryd.prog w = .ok (.bool (!decide (a = b))) w := by
  have := run_equal_accts a b w
  unfold acctV at this
  rw [run_neq_struct, this]; rfl
open Classical in
theorem run_neq_bare (a : Acct) (w : World) : (binOp .neq 26 (.agg a.cells.toArray) (.agg (bareA a).cells.toArray)).run Tryd.prog w = .ok (.bool (decide (a.DebitsPending ≠ 0 ∨ a.DebitsPosted ≠ 0 ∨ a.CreditsPending ≠ 0 ∨ a.CreditsPosted ≠ 0 ∨ a.Stamp ≠ 0))) w := by
  rw [run_neq_accts]
  have h : ∀ b : Bool, (b = true ↔ a = bareA a) → (!b) = decide (a.DebitsPending ≠ 0 ∨ a.DebitsPosted ≠ 0 ∨ a.CreditsPending ≠ 0 ∨ a.CreditsPosted ≠ 0 ∨ a.Stamp ≠ 0) := by
    intro b hb
    by_cases c : a.DebitsPending ≠ 0 ∨ a.DebitsPosted ≠ 0 ∨ a.CreditsPending ≠ 0 ∨ a.CreditsPosted ≠ 0 ∨ a.Stamp ≠ 0
    · rw [decide_eq_true c]
      cases b
      · rfl
      · have e := hb.1 rfl
        have e1 := congrArg Acct.DebitsPending e
        have e2 := congrArg Acct.DebitsPosted e
        have e3 := congrArg Acct.CreditsPending e
        have e4 := congrArg Acct.CreditsPosted e
        have e5 := congrArg Acct.Stamp e
        simp only [bareA] at e1 e2 e3 e4 e5
        omega
    · rw [decide_eq_false c]
      rw [hb.2 (Acct.same rfl (by simp only [bareA]; omega) (by simp only [bareA]; omega) (by simp only [bareA]; omega) (by simp only [bareA]; omega) rfl rfl rfl (by simp only [bareA]; omega))]
      rfl
  exact congrArg (fun b => Result.ok (Value.bool b) w) (h _ decide_eq_true_iff)
end Go.Proofs.YtideooaefplbhaaDoor
