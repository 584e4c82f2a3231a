/- Stage 9: the document's Again, Good and Bytes; the walks of AcctChecks, AcctAgain and AcctSame. No condition but the landed package's. -/
import Derived.Test.YtideooaefplbhaaDoorZAc
import Derived.Laws.StructEq
namespace Go.Proofs.YtideooaefplbhaaDoor
open Go.RowKit Go.Sort Wm Cr
attribute [local go_sem high] run_eql_num run_neq_num run_eql_num0 run_neq_num0

section
variable {Mo : World → Prop} {Wr : (Nat → Prop) → World → Nat → ByteArray → Prop} {Rd : (Nat → Prop) → World → Nat → Option ByteArray → Prop}
set_option maxRecDepth 100000 in
set_option maxHeartbeats 1000000 in
theorem acctChecks_any (L : LandedAc Mo Wr Rd) (a : Acct) (ha : a.Wf) (w : World) (hM : Mo w) :
    Calls Tryd.prog 3 #[acctV a] w fun e w' => e = .returned (.bool true) ∧ Below w.heap.size w w' := by
  have hal := Lib.hid (fun W (h : Hx Mo w W [(w.heap.size, a.cells)]) => h.ask L.later (acctAlive_any L W h.mo))
  have hc := Lib.hid (fun W (h : Hx Mo w W [(w.heap.size, a.cells)]) => h.ask L.later (L.check a W ha h.mo))
  have hr := Lib.hid (fun W (h : Hx Mo w W [(w.heap.size, a.cells)]) => h.ask L.later (refcheck_any a ha W))
  have hm0 := (Hx.refl hM).new L.later a.cells 26
  have hg := Lib.hid (fun W (h : Hx Mo w W [(w.heap.size, a.cells)]) => (h.box _ (List.mem_cons_self ..)).acct h)
  have hd := Lib.hid (fun W (h : Hx Mo w W [(w.heap.size, a.cells)]) => h.drew L.later)
  generalize chkA a = x at *
  clear ha L hM
  unfold acctV at *
  unfold Acct.cells at *
  go_enter Tryd.func3, Tryd.ntmps3
  go_wp2_with fail
  refine (hal.out _ hm0).mono ?_
  rintro e w1 ⟨rfl, hm1⟩
  have hm1d := hd.out _ hm1
  go_wp2_with fail
  go_region_held3 (fun w' => w'.cell? ⟨w.heap.size, 0, none⟩ = some (.int .u64 ((hiN a.Id : Nat) : Int)) ∧ w'.cell? ⟨w.heap.size, 1, none⟩ = some (.int .u64 ((loN a.Id : Nat) : Int)) ∧ w'.cell? ⟨w.heap.size, 2, none⟩ = some (.int .u64 ((hiN a.DebitsPending : Nat) : Int)) ∧ w'.cell? ⟨w.heap.size, 3, none⟩ = some (.int .u64 ((loN a.DebitsPending : Nat) : Int)) ∧ w'.cell? ⟨w.heap.size, 4, none⟩ = some (.int .u64 ((hiN a.DebitsPosted : Nat) : Int)) ∧ w'.cell? ⟨w.heap.size, 5, none⟩ = some (.int .u64 ((loN a.DebitsPosted : Nat) : Int)) ∧ w'.cell? ⟨w.heap.size, 6, none⟩ = some (.int .u64 ((hiN a.CreditsPending : Nat) : Int)) ∧ w'.cell? ⟨w.heap.size, 7, none⟩ = some (.int .u64 ((loN a.CreditsPending : Nat) : Int)) ∧ w'.cell? ⟨w.heap.size, 8, none⟩ = some (.int .u64 ((hiN a.CreditsPosted : Nat) : Int)) ∧ w'.cell? ⟨w.heap.size, 9, none⟩ = some (.int .u64 ((loN a.CreditsPosted : Nat) : Int)) ∧ w'.cell? ⟨w.heap.size, 10, none⟩ = some (.int .i64 a.Ledger) ∧ w'.cell? ⟨w.heap.size, 11, none⟩ = some (.int .i64 a.Code) ∧ w'.cell? ⟨w.heap.size, 12, none⟩ = some (.int .i64 a.Flags) ∧ w'.cell? ⟨w.heap.size, 13, none⟩ = some (.int .i64 a.Stamp) ∧ w.heap.size < w'.heap.size ∧ Hx Mo w w' [(w.heap.size, [.int .u64 ((hiN a.Id : Nat) : Int), .int .u64 ((loN a.Id : Nat) : Int), .int .u64 ((hiN a.DebitsPending : Nat) : Int), .int .u64 ((loN a.DebitsPending : Nat) : Int), .int .u64 ((hiN a.DebitsPosted : Nat) : Int), .int .u64 ((loN a.DebitsPosted : Nat) : Int), .int .u64 ((hiN a.CreditsPending : Nat) : Int), .int .u64 ((loN a.CreditsPending : Nat) : Int), .int .u64 ((hiN a.CreditsPosted : Nat) : Int), .int .u64 ((loN a.CreditsPosted : Nat) : Int), .int .i64 a.Ledger, .int .i64 a.Code, .int .i64 a.Flags, .int .i64 a.Stamp])])
    (first | exact hg.out _ hm1 | exact hg.out _ hm1d | exact hg.out _ hmx | exact hg.out _ (hd.out _ hmx) | exact hg.out _ hmy)
    (first | (go_at_call 9; with_reducible refine (hc.out _ (by first | exact hm1 | exact hm1d | exact hmx | exact hd.out _ hmx)).mono ?_; rintro e wx ⟨rfl, hmx⟩) | (go_at_call 10; with_reducible refine (hr.out _ (by first | exact hm1 | exact hm1d | exact hmx | exact hd.out _ hmx)).mono ?_; rintro e wy ⟨rfl, hmy⟩))
  all_goals
    rename_i hH
    go_wp2
    go_ret
    exact ⟨by first | rfl | simp, (hH.2.2.2.2.2.2.2.2.2.2.2.2.2.2.2).bel⟩
set_option maxRecDepth 100000 in
set_option maxHeartbeats 1000000 in
theorem refagain_any (a b : Acct) (h : a.Wf) (h2 : b.Wf) (ha : 0 ≤ a.Flags) (hb : 0 ≤ b.Flags) (w : World) : Calls Tryd.prog 12 #[acctV a, acctV b] w fun e w' => e = .returned (.int .i64 (againA a b)) ∧ Below w.heap.size w w' := by
  have e1 : ∀ x : Int, 0 ≤ x → (x / 2).tmod 4 = x / 2 % 4 := fun x hx => Int.tmod_eq_emod_of_nonneg (by omega)
  have e2 := e1 _ ha
  have e3 := e1 _ hb
  have f1 := h.Flags
  have f2 := h2.Flags
  obtain ⟨i, p, q, r, s, l, c, f, t⟩ := a
  obtain ⟨i', p', q', r', s', l', c', f', t'⟩ := b
  unfold acctV
  unfold Acct.cells at *
  dsimp only at *
  clear h h2 e1
  go_enter Tryd.func12, Tryd.ntmps12
  go_wp2
  all_goals
    go_ret
    refine ⟨congrArg (fun v : Int => Ending.returned (.int .i64 v)) ?_, ((Below.refl _ _).alloc (Nat.le_refl _) _).alloc (by simp) _⟩
    unfold againA
    dsimp only
    repeat' (first | rfl | (rw [if_pos (by first | omega | (simp_all; done) | (simp_all; omega))]) | (rw [if_neg (by first | omega | (simp_all; done) | (simp_all; omega))]))
set_option maxRecDepth 100000 in
set_option maxHeartbeats 1000000 in
theorem refgood_acct (a : Acct) (w : World) : Calls Tryd.prog 14 #[acctV a] w fun e w' => e = .returned (.bool (goodA a)) ∧ Below w.heap.size w w' := by
  have hz : Below w.heap.size w (w.alloc (.cells a.cells.toArray 26)) := (Below.refl _ _).alloc (Nat.le_refl _) _
  replace hz := Lib.hid hz
  obtain ⟨i, p, q, r, s, l, c, f, t⟩ := a
  unfold acctV
  unfold Acct.cells at *
  dsimp only at *
  go_enter Tryd.func14, Tryd.ntmps14
  go_wp2
  all_goals
    go_ret
    exact ⟨by unfold goodA; first | (simp; done) | (simp; omega) | (simp_all; done) | (simp_all; omega), hz.out⟩
end
end Go.Proofs.YtideooaefplbhaaDoor
