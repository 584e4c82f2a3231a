/- Stage 9: the walks of AcctAgain and AcctSame. No condition but the landed package's. -/
import Derived.Test.YtideooaefplbhaaDoorZAd
import Derived.Test.YtideooaefplbhaaDoorZFl
namespace Go.Proofs.YtideooaefplbhaaDoor
open Go.RowKit Go.Sort Wm Cr
attribute [local go_sem high] run_eql_num run_neq_num run_eql_num0 run_neq_num0

section
variable {Mo : World → Prop} {Wr : (Nat → Prop) → World → Nat → ByteArray → Prop} {Rd : (Nat → Prop) → World → Nat → Option ByteArray → Prop}
theorem againA_refl (a : Acct) : againA a a = 10 := by unfold againA; rw [if_pos ⟨rfl, rfl, rfl⟩]
theorem againA_symm (a b : Acct) : againA a b = againA b a := by
  unfold againA
  by_cases h : a.Ledger = b.Ledger ∧ a.Code = b.Code ∧ a.Flags / 2 % 4 = b.Flags / 2 % 4
  · rw [if_pos h, if_pos ⟨h.1.symm, h.2.1.symm, h.2.2.symm⟩]
  · rw [if_neg h, if_neg (fun e => h ⟨e.1.symm, e.2.1.symm, e.2.2.symm⟩)]
/-- Three accounts in blocks. -/
theorem Hx.three {w W : World} {k m n : Nat} {a b c : Acct} (h : Hx Mo w W [(n, c.cells), (m, b.cells), (k, a.cells)]) : W.cell? ⟨k, 0, none⟩ = some (.int .u64 ((hiN a.Id : Nat) : Int)) ∧ W.cell? ⟨k, 1, none⟩ = some (.int .u64 ((loN a.Id : Nat) : Int)) ∧ W.cell? ⟨k, 2, none⟩ = some (.int .u64 ((hiN a.DebitsPending : Nat) : Int)) ∧ W.cell? ⟨k, 3, none⟩ = some (.int .u64 ((loN a.DebitsPending : Nat) : Int)) ∧ W.cell? ⟨k, 4, none⟩ = some (.int .u64 ((hiN a.DebitsPosted : Nat) : Int)) ∧ W.cell? ⟨k, 5, none⟩ = some (.int .u64 ((loN a.DebitsPosted : Nat) : Int)) ∧ W.cell? ⟨k, 6, none⟩ = some (.int .u64 ((hiN a.CreditsPending : Nat) : Int)) ∧ W.cell? ⟨k, 7, none⟩ = some (.int .u64 ((loN a.CreditsPending : Nat) : Int)) ∧ W.cell? ⟨k, 8, none⟩ = some (.int .u64 ((hiN a.CreditsPosted : Nat) : Int)) ∧ W.cell? ⟨k, 9, none⟩ = some (.int .u64 ((loN a.CreditsPosted : Nat) : Int)) ∧ W.cell? ⟨k, 10, none⟩ = some (.int .i64 a.Ledger) ∧ W.cell? ⟨k, 11, none⟩ = some (.int .i64 a.Code) ∧ W.cell? ⟨k, 12, none⟩ = some (.int .i64 a.Flags) ∧ W.cell? ⟨k, 13, none⟩ = some (.int .i64 a.Stamp) ∧ k < W.heap.size ∧ W.cell? ⟨m, 0, none⟩ = some (.int .u64 ((hiN b.Id : Nat) : Int)) ∧ W.cell? ⟨m, 1, none⟩ = some (.int .u64 ((loN b.Id : Nat) : Int)) ∧ W.cell? ⟨m, 2, none⟩ = some (.int .u64 ((hiN b.DebitsPending : Nat) : Int)) ∧ W.cell? ⟨m, 3, none⟩ = some (.int .u64 ((loN b.DebitsPending : Nat) : Int)) ∧ W.cell? ⟨m, 4, none⟩ = some (.int .u64 ((hiN b.DebitsPosted : Nat) : Int)) ∧ W.cell? ⟨m, 5, none⟩ = some (.int .u64 ((loN b.DebitsPosted : Nat) : Int)) ∧ W.cell? ⟨m, 6, none⟩ = some (.int .u64 ((hiN b.CreditsPending : Nat) : Int)) ∧ W.cell? ⟨m, 7, none⟩ = some (.int .u64 ((loN b.CreditsPending : Nat) : Int)) ∧ W.cell? ⟨m, 8, none⟩ = some (.int .u64 ((hiN b.CreditsPosted : Nat) : Int)) ∧ W.cell? ⟨m, 9, none⟩ = some (.int .u64 ((loN b.CreditsPosted : Nat) : Int)) ∧ W.cell? ⟨m, 10, none⟩ = some (.int .i64 b.Ledger) ∧ W.cell? ⟨m, 11, none⟩ = some (.int .i64 b.Code) ∧ W.cell? ⟨m, 12, none⟩ = some (.int .i64 b.Flags) ∧ W.cell? ⟨m, 13, none⟩ = some (.int .i64 b.Stamp) ∧ m < W.heap.size ∧ W.cell? ⟨n, 0, none⟩ = some (.int .u64 ((hiN c.Id : Nat) : Int)) ∧ W.cell? ⟨n, 1, none⟩ = some (.int .u64 ((loN c.Id : Nat) : Int)) ∧ W.cell? ⟨n, 2, none⟩ = some (.int .u64 ((hiN c.DebitsPending : Nat) : Int)) ∧ W.cell? ⟨n, 3, none⟩ = some (.int .u64 ((loN c.DebitsPending : Nat) : Int)) ∧ W.cell? ⟨n, 4, none⟩ = some (.int .u64 ((hiN c.DebitsPosted : Nat) : Int)) ∧ W.cell? ⟨n, 5, none⟩ = some (.int .u64 ((loN c.DebitsPosted : Nat) : Int)) ∧ W.cell? ⟨n, 6, none⟩ = some (.int .u64 ((hiN c.CreditsPending : Nat) : Int)) ∧ W.cell? ⟨n, 7, none⟩ = some (.int .u64 ((loN c.CreditsPending : Nat) : Int)) ∧ W.cell? ⟨n, 8, none⟩ = some (.int .u64 ((hiN c.CreditsPosted : Nat) : Int)) ∧ W.cell? ⟨n, 9, none⟩ = some (.int .u64 ((loN c.CreditsPosted : Nat) : Int)) ∧ W.cell? ⟨n, 10, none⟩ = some (.int .i64 c.Ledger) ∧ W.cell? ⟨n, 11, none⟩ = some (.int .i64 c.Code) ∧ W.cell? ⟨n, 12, none⟩ = some (.int .i64 c.Flags) ∧ W.cell? ⟨n, 13, none⟩ = some (.int .i64 c.Stamp) ∧ n < W.heap.size ∧ Hx Mo w W [(n, c.cells), (m, b.cells), (k, a.cells)] := by
  have h1 := h.box (k, a.cells) (by simp)
  have h2 := h.box (m, b.cells) (by simp)
  have h3 := h.box (n, c.cells) (by simp)
  simpa only [and_assoc] using h1.acct (h2.acct (h3.acct h))
theorem Hx.two {w W : World} {k m : Nat} {a b : Acct} (h : Hx Mo w W [(m, b.cells), (k, a.cells)]) : W.cell? ⟨k, 0, none⟩ = some (.int .u64 ((hiN a.Id : Nat) : Int)) ∧ W.cell? ⟨k, 1, none⟩ = some (.int .u64 ((loN a.Id : Nat) : Int)) ∧ W.cell? ⟨k, 2, none⟩ = some (.int .u64 ((hiN a.DebitsPending : Nat) : Int)) ∧ W.cell? ⟨k, 3, none⟩ = some (.int .u64 ((loN a.DebitsPending : Nat) : Int)) ∧ W.cell? ⟨k, 4, none⟩ = some (.int .u64 ((hiN a.DebitsPosted : Nat) : Int)) ∧ W.cell? ⟨k, 5, none⟩ = some (.int .u64 ((loN a.DebitsPosted : Nat) : Int)) ∧ W.cell? ⟨k, 6, none⟩ = some (.int .u64 ((hiN a.CreditsPending : Nat) : Int)) ∧ W.cell? ⟨k, 7, none⟩ = some (.int .u64 ((loN a.CreditsPending : Nat) : Int)) ∧ W.cell? ⟨k, 8, none⟩ = some (.int .u64 ((hiN a.CreditsPosted : Nat) : Int)) ∧ W.cell? ⟨k, 9, none⟩ = some (.int .u64 ((loN a.CreditsPosted : Nat) : Int)) ∧ W.cell? ⟨k, 10, none⟩ = some (.int .i64 a.Ledger) ∧ W.cell? ⟨k, 11, none⟩ = some (.int .i64 a.Code) ∧ W.cell? ⟨k, 12, none⟩ = some (.int .i64 a.Flags) ∧ W.cell? ⟨k, 13, none⟩ = some (.int .i64 a.Stamp) ∧ k < W.heap.size ∧ W.cell? ⟨m, 0, none⟩ = some (.int .u64 ((hiN b.Id : Nat) : Int)) ∧ W.cell? ⟨m, 1, none⟩ = some (.int .u64 ((loN b.Id : Nat) : Int)) ∧ W.cell? ⟨m, 2, none⟩ = some (.int .u64 ((hiN b.DebitsPending : Nat) : Int)) ∧ W.cell? ⟨m, 3, none⟩ = some (.int .u64 ((loN b.DebitsPending : Nat) : Int)) ∧ W.cell? ⟨m, 4, none⟩ = some (.int .u64 ((hiN b.DebitsPosted : Nat) : Int)) ∧ W.cell? ⟨m, 5, none⟩ = some (.int .u64 ((loN b.DebitsPosted : Nat) : Int)) ∧ W.cell? ⟨m, 6, none⟩ = some (.int .u64 ((hiN b.CreditsPending : Nat) : Int)) ∧ W.cell? ⟨m, 7, none⟩ = some (.int .u64 ((loN b.CreditsPending : Nat) : Int)) ∧ W.cell? ⟨m, 8, none⟩ = some (.int .u64 ((hiN b.CreditsPosted : Nat) : Int)) ∧ W.cell? ⟨m, 9, none⟩ = some (.int .u64 ((loN b.CreditsPosted : Nat) : Int)) ∧ W.cell? ⟨m, 10, none⟩ = some (.int .i64 b.Ledger) ∧ W.cell? ⟨m, 11, none⟩ = some (.int .i64 b.Code) ∧ W.cell? ⟨m, 12, none⟩ = some (.int .i64 b.Flags) ∧ W.cell? ⟨m, 13, none⟩ = some (.int .i64 b.Stamp) ∧ m < W.heap.size ∧ Hx Mo w W [(m, b.cells), (k, a.cells)] := by
  have h1 := h.box (k, a.cells) (by simp)
  have h2 := h.box (m, b.cells) (by simp)
  simpa only [and_assoc] using h1.acct (h2.acct h)
set_option maxRecDepth 100000 in
set_option maxHeartbeats 4000000 in
theorem acctAgain_any (L : LandedAc Mo Wr Rd) (a b : Acct) (ha : a.Wf) (hb : b.Wf) (w : World) (hM : Mo w) :
    Calls Tryd.prog 4 #[acctV a, acctV b] w fun e w' => e = .returned (.bool true) ∧ Below w.heap.size w w' := by
  have hm0 := ((Hx.refl hM).new L.later a.cells 26).new L.later b.cells 26
  rw [World.size_alloc] at hm0
  have hal := Lib.hid (fun W (h : Hx Mo w W [(w.heap.size + 1, b.cells), (w.heap.size, a.cells)]) => h.ask L.later (acctAlive_any L W h.mo))
  rw [acctV_eq, acctV_eq]
  have f1 := ha.Flags
  have f2 := hb.Flags
  by_cases hf : 0 ≤ a.Flags ∧ 0 ≤ b.Flags
  · obtain ⟨hf1, hf2⟩ := hf
    have n1 : ¬ a.Flags < 0 := by omega
    have n2 : ¬ b.Flags < 0 := by omega
    obtain ⟨fl, hfl⟩ : ∃ fl, bits .or .i64 a.Flags 8 = fl := ⟨_, rfl⟩
    have hor := bits_or (k := 8) hf1 f1.2 (by decide)
    rw [show ((8 : Nat) : Int) = 8 from rfl, hfl] at hor
    have hlt : a.Flags.toNat ||| 8 < 2 ^ 63 := Nat.or_lt_two_pow (by omega) (by decide)
    have hpt := or8_part a.Flags.toNat
    have hfl0 : 0 ≤ fl ∧ fl ≤ 9223372036854775807 := by omega
    have hfl2 : fl / 2 % 4 = a.Flags / 2 % 4 := by omega
    clear hlt hpt hor
    obtain ⟨c, hc⟩ : ∃ c : Acct, c = { a with DebitsPosted := b.DebitsPosted, Flags := fl, Stamp := b.Stamp } := ⟨_, rfl⟩
    have hcw : c.Wf := by subst hc; exact ⟨ha.Id, ha.DebitsPending, hb.DebitsPosted, ha.CreditsPending, ha.CreditsPosted, ha.Ledger, ha.Code, by constructor <;> (dsimp only; omega), hb.Stamp⟩
    have hag : againA a c = 10 := by
      subst hc
      unfold againA
      rw [if_pos ⟨rfl, rfl, hfl2.symm⟩]
    have k1 := Lib.hid (fun n W (h : Hx Mo w W [(n, c.cells), (w.heap.size + 1, b.cells), (w.heap.size, a.cells)]) => h.ask L.later (L.again a b W ha hb hf1 hf2))
    have k2 := Lib.hid (fun n W (h : Hx Mo w W [(n, c.cells), (w.heap.size + 1, b.cells), (w.heap.size, a.cells)]) => h.ask L.later (refagain_any a b ha hb hf1 hf2 W))
    have k3 := Lib.hid (fun n W (h : Hx Mo w W [(n, c.cells), (w.heap.size + 1, b.cells), (w.heap.size, a.cells)]) => h.ask L.later (L.again a c W ha hcw hf1 (by subst hc; exact hfl0.1)))
    rw [hag] at k3
    generalize againA a b = x at *
    rw [acctV_eq, acctV_eq] at k1 k2 k3
    have hg := Lib.hid (fun W (h : Hx Mo w W [(w.heap.size + 1, b.cells), (w.heap.size, a.cells)]) => h.two)
    have hnew := Lib.hid (fun W (h : Hx Mo w W [(w.heap.size + 1, b.cells), (w.heap.size, a.cells)]) => h.new L.later c.cells 26)
    replace hc := Lib.hid hc
    go_enter Tryd.func4, Tryd.ntmps4
    go_wp2_with fail
    refine (hal.out _ hm0).mono ?_
    rintro e w1 ⟨rfl, hm1⟩
    obtain ⟨z0, z1, z2, z3, z4, z5, z6, z7, z8, z9, z10, z11, z12, z13, z14, y0, y1, y2, y3, y4, y5, y6, y7, y8, y9, y10, y11, y12, y13, y14, -⟩ := hg.out _ hm1
    go_wp2_with fail
    have hm2 := hnew.out _ hm1
    obtain ⟨w2, hw2⟩ : ∃ w2, w2 = w1.alloc (Obj.cells c.cells.toArray 26) := ⟨_, rfl⟩
    rw [← hw2] at hm2
    rw [hc.out] at hw2
    dsimp only [Acct.cells] at hw2
    rw [← hw2]
    clear hw2 hc hnew hg hm1 hal hm0 z0 z1 z2 z3 z4 z5 z6 z7 z8 z9 z10 z11 z12 z13 z14 y0 y1 y2 y3 y4 y5 y6 y7 y8 y9 y10 y11 y12 y13 y14
    have hd := Lib.hid (fun W (h : Hx Mo w W [(w1.heap.size, c.cells), (w.heap.size + 1, b.cells), (w.heap.size, a.cells)]) => h.drew L.later)
    have hm2d := hd.out _ hm2
    go_region_held3 (fun w' => w'.cell? ⟨w.heap.size, 0, none⟩ = some (.int .u64 ((hiN a.Id : Nat) : Int)) ∧ w'.cell? ⟨w.heap.size, 1, none⟩ = some (.int .u64 ((loN a.Id : Nat) : Int)) ∧ w'.cell? ⟨w.heap.size, 2, none⟩ = some (.int .u64 ((hiN a.DebitsPending : Nat) : Int)) ∧ w'.cell? ⟨w.heap.size, 3, none⟩ = some (.int .u64 ((loN a.DebitsPending : Nat) : Int)) ∧ w'.cell? ⟨w.heap.size, 4, none⟩ = some (.int .u64 ((hiN a.DebitsPosted : Nat) : Int)) ∧ w'.cell? ⟨w.heap.size, 5, none⟩ = some (.int .u64 ((loN a.DebitsPosted : Nat) : Int)) ∧ w'.cell? ⟨w.heap.size, 6, none⟩ = some (.int .u64 ((hiN a.CreditsPending : Nat) : Int)) ∧ w'.cell? ⟨w.heap.size, 7, none⟩ = some (.int .u64 ((loN a.CreditsPending : Nat) : Int)) ∧ w'.cell? ⟨w.heap.size, 8, none⟩ = some (.int .u64 ((hiN a.CreditsPosted : Nat) : Int)) ∧ w'.cell? ⟨w.heap.size, 9, none⟩ = some (.int .u64 ((loN a.CreditsPosted : Nat) : Int)) ∧ w'.cell? ⟨w.heap.size, 10, none⟩ = some (.int .i64 a.Ledger) ∧ w'.cell? ⟨w.heap.size, 11, none⟩ = some (.int .i64 a.Code) ∧ w'.cell? ⟨w.heap.size, 12, none⟩ = some (.int .i64 a.Flags) ∧ w'.cell? ⟨w.heap.size, 13, none⟩ = some (.int .i64 a.Stamp) ∧ w.heap.size < w'.heap.size ∧ w'.cell? ⟨w.heap.size + 1, 0, none⟩ = some (.int .u64 ((hiN b.Id : Nat) : Int)) ∧ w'.cell? ⟨w.heap.size + 1, 1, none⟩ = some (.int .u64 ((loN b.Id : Nat) : Int)) ∧ w'.cell? ⟨w.heap.size + 1, 2, none⟩ = some (.int .u64 ((hiN b.DebitsPending : Nat) : Int)) ∧ w'.cell? ⟨w.heap.size + 1, 3, none⟩ = some (.int .u64 ((loN b.DebitsPending : Nat) : Int)) ∧ w'.cell? ⟨w.heap.size + 1, 4, none⟩ = some (.int .u64 ((hiN b.DebitsPosted : Nat) : Int)) ∧ w'.cell? ⟨w.heap.size + 1, 5, none⟩ = some (.int .u64 ((loN b.DebitsPosted : Nat) : Int)) ∧ w'.cell? ⟨w.heap.size + 1, 6, none⟩ = some (.int .u64 ((hiN b.CreditsPending : Nat) : Int)) ∧ w'.cell? ⟨w.heap.size + 1, 7, none⟩ = some (.int .u64 ((loN b.CreditsPending : Nat) : Int)) ∧ w'.cell? ⟨w.heap.size + 1, 8, none⟩ = some (.int .u64 ((hiN b.CreditsPosted : Nat) : Int)) ∧ w'.cell? ⟨w.heap.size + 1, 9, none⟩ = some (.int .u64 ((loN b.CreditsPosted : Nat) : Int)) ∧ w'.cell? ⟨w.heap.size + 1, 10, none⟩ = some (.int .i64 b.Ledger) ∧ w'.cell? ⟨w.heap.size + 1, 11, none⟩ = some (.int .i64 b.Code) ∧ w'.cell? ⟨w.heap.size + 1, 12, none⟩ = some (.int .i64 b.Flags) ∧ w'.cell? ⟨w.heap.size + 1, 13, none⟩ = some (.int .i64 b.Stamp) ∧ w.heap.size + 1 < w'.heap.size ∧ w'.cell? ⟨w1.heap.size, 0, none⟩ = some (.int .u64 ((hiN c.Id : Nat) : Int)) ∧ w'.cell? ⟨w1.heap.size, 1, none⟩ = some (.int .u64 ((loN c.Id : Nat) : Int)) ∧ w'.cell? ⟨w1.heap.size, 2, none⟩ = some (.int .u64 ((hiN c.DebitsPending : Nat) : Int)) ∧ w'.cell? ⟨w1.heap.size, 3, none⟩ = some (.int .u64 ((loN c.DebitsPending : Nat) : Int)) ∧ w'.cell? ⟨w1.heap.size, 4, none⟩ = some (.int .u64 ((hiN c.DebitsPosted : Nat) : Int)) ∧ w'.cell? ⟨w1.heap.size, 5, none⟩ = some (.int .u64 ((loN c.DebitsPosted : Nat) : Int)) ∧ w'.cell? ⟨w1.heap.size, 6, none⟩ = some (.int .u64 ((hiN c.CreditsPending : Nat) : Int)) ∧ w'.cell? ⟨w1.heap.size, 7, none⟩ = some (.int .u64 ((loN c.CreditsPending : Nat) : Int)) ∧ w'.cell? ⟨w1.heap.size, 8, none⟩ = some (.int .u64 ((hiN c.CreditsPosted : Nat) : Int)) ∧ w'.cell? ⟨w1.heap.size, 9, none⟩ = some (.int .u64 ((loN c.CreditsPosted : Nat) : Int)) ∧ w'.cell? ⟨w1.heap.size, 10, none⟩ = some (.int .i64 c.Ledger) ∧ w'.cell? ⟨w1.heap.size, 11, none⟩ = some (.int .i64 c.Code) ∧ w'.cell? ⟨w1.heap.size, 12, none⟩ = some (.int .i64 c.Flags) ∧ w'.cell? ⟨w1.heap.size, 13, none⟩ = some (.int .i64 c.Stamp) ∧ w1.heap.size < w'.heap.size ∧ Hx Mo w w' [(w1.heap.size, c.cells), (w.heap.size + 1, b.cells), (w.heap.size, a.cells)])
      (first | exact hm2.three | exact hm2d.three | exact hmx.three | exact (hd.out _ hmx).three | exact hmy.three | exact (hd.out _ hmy).three | exact hmz.three)
      (first | (go_at_call 11; with_reducible refine (k1.out _ _ (by first | exact hm2 | exact hm2d | exact hmy | exact hd.out _ hmy | exact hmx | exact hd.out _ hmx)).mono ?_; rintro e wx ⟨rfl, hmx⟩) | (go_at_call 12; with_reducible refine (k2.out _ _ (by first | exact hmx | exact hd.out _ hmx | exact hm2 | exact hm2d)).mono ?_; rintro e wy ⟨rfl, hmy⟩) | (go_at_call 11; with_reducible refine (k3.out _ _ (by first | exact hmy | exact hd.out _ hmy)).mono ?_; rintro e wz ⟨rfl, hmz⟩))
    all_goals
      go_wp2
      go_ret
      exact ⟨by first | rfl | simp, hmz.bel⟩
  · have hg := Lib.hid (fun W (h : Hx Mo w W [(w.heap.size + 1, b.cells), (w.heap.size, a.cells)]) => h.two)
    by_cases h1 : a.Flags < 0
    · go_enter Tryd.func4, Tryd.ntmps4
      go_wp2_with fail
      refine (hal.out _ hm0).mono ?_
      rintro e w1 ⟨rfl, hm1⟩
      obtain ⟨z0, z1, z2, z3, z4, z5, z6, z7, z8, z9, z10, z11, z12, z13, z14, y0, y1, y2, y3, y4, y5, y6, y7, y8, y9, y10, y11, y12, y13, y14, -⟩ := hg.out _ hm1
      go_wp2
      go_ret
      exact ⟨rfl, hm1.bel⟩
    · have h2 : b.Flags < 0 := by omega
      go_enter Tryd.func4, Tryd.ntmps4
      go_wp2_with fail
      refine (hal.out _ hm0).mono ?_
      rintro e w1 ⟨rfl, hm1⟩
      obtain ⟨z0, z1, z2, z3, z4, z5, z6, z7, z8, z9, z10, z11, z12, z13, z14, y0, y1, y2, y3, y4, y5, y6, y7, y8, y9, y10, y11, y12, y13, y14, -⟩ := hg.out _ hm1
      go_wp2
      go_ret
      exact ⟨rfl, hm1.bel⟩
set_option maxRecDepth 100000 in
set_option maxHeartbeats 4000000 in
theorem acctSame_any (L : LandedAc Mo Wr Rd) (a b : Acct) (ha : a.Wf) (hb : b.Wf) (w : World) (hM : Mo w) :
    Calls Tryd.prog 7 #[acctV a, acctV b] w fun e w' => e = .returned (.bool true) ∧ Below w.heap.size w w' := by
  have hm0 := ((Hx.refl hM).new L.later a.cells 26).new L.later b.cells 26
  rw [World.size_alloc] at hm0
  have hal := Lib.hid (fun W (h : Hx Mo w W [(w.heap.size + 1, b.cells), (w.heap.size, a.cells)]) => h.ask L.later (acctAlive_any L W h.mo))
  rw [acctV_eq, acctV_eq]
  have f1 := ha.Flags
  have f2 := hb.Flags
  by_cases hf : 0 ≤ a.Flags ∧ 0 ≤ b.Flags
  · obtain ⟨hf1, hf2⟩ := hf
    have n1 : ¬ a.Flags < 0 := by omega
    have n2 : ¬ b.Flags < 0 := by omega
    obtain ⟨fl, hfl⟩ : ∃ fl, bits .xor .i64 b.Flags 1 = fl := ⟨_, rfl⟩
    have hor := bits_flip f2.1 f2.2
    rw [hfl] at hor
    obtain ⟨g1, g2, g3⟩ := flip_same b.Flags
    rw [← hor] at g1 g2 g3
    have hfl0 : 0 ≤ fl ∧ fl ≤ 9223372036854775807 := ⟨g2 hf2, g3 f2.2⟩
    clear hor g2 g3
    obtain ⟨c, hc⟩ : ∃ c : Acct, c = { b with Id := a.Id, Flags := fl, Stamp := a.Stamp } := ⟨_, rfl⟩
    have hcw : c.Wf := by subst hc; exact ⟨ha.Id, hb.DebitsPending, hb.DebitsPosted, hb.CreditsPending, hb.CreditsPosted, hb.Ledger, hb.Code, by constructor <;> (dsimp only; omega), ha.Stamp⟩
    have hc0 : 0 ≤ c.Flags := by subst hc; exact hfl0.1
    have hag : againA a c = againA a b := by
      subst hc
      unfold againA
      dsimp only
      rw [g1]
    have k1 := Lib.hid (fun n W (h : Hx Mo w W [(n, c.cells), (w.heap.size + 1, b.cells), (w.heap.size, a.cells)]) => h.ask L.later (L.again a b W ha hb hf1 hf2))
    have k2 := Lib.hid (fun n W (h : Hx Mo w W [(n, c.cells), (w.heap.size + 1, b.cells), (w.heap.size, a.cells)]) => h.ask L.later (L.again b a W hb ha hf2 hf1))
    have k3 := Lib.hid (fun n W (h : Hx Mo w W [(n, c.cells), (w.heap.size + 1, b.cells), (w.heap.size, a.cells)]) => h.ask L.later (L.again a c W ha hcw hf1 hc0))
    have k4 := Lib.hid (fun n W (h : Hx Mo w W [(n, c.cells), (w.heap.size + 1, b.cells), (w.heap.size, a.cells)]) => h.ask L.later (L.again a a W ha ha hf1 hf1))
    rw [hag] at k3
    rw [againA_symm b a] at k2
    rw [againA_refl] at k4
    generalize againA a b = x at *
    rw [acctV_eq, acctV_eq] at k1 k2 k3
    rw [acctV_eq] at k4
    have hg := Lib.hid (fun W (h : Hx Mo w W [(w.heap.size + 1, b.cells), (w.heap.size, a.cells)]) => h.two)
    have hnew := Lib.hid (fun W (h : Hx Mo w W [(w.heap.size + 1, b.cells), (w.heap.size, a.cells)]) => h.new L.later c.cells 26)
    replace hc := Lib.hid hc
    go_enter Tryd.func7, Tryd.ntmps7
    go_wp2_with fail
    refine (hal.out _ hm0).mono ?_
    rintro e w1 ⟨rfl, hm1⟩
    obtain ⟨z0, z1, z2, z3, z4, z5, z6, z7, z8, z9, z10, z11, z12, z13, z14, y0, y1, y2, y3, y4, y5, y6, y7, y8, y9, y10, y11, y12, y13, y14, -⟩ := hg.out _ hm1
    go_wp2_with fail
    have hm2 := hnew.out _ hm1
    obtain ⟨w2, hw2⟩ : ∃ w2, w2 = w1.alloc (Obj.cells c.cells.toArray 26) := ⟨_, rfl⟩
    rw [← hw2] at hm2
    rw [hc.out] at hw2
    dsimp only [Acct.cells] at hw2
    rw [← hw2]
    clear hw2 hc hnew hg hm1 hal hm0 z0 z1 z2 z3 z4 z5 z6 z7 z8 z9 z10 z11 z12 z13 z14 y0 y1 y2 y3 y4 y5 y6 y7 y8 y9 y10 y11 y12 y13 y14
    have hd := Lib.hid (fun W (h : Hx Mo w W [(w1.heap.size, c.cells), (w.heap.size + 1, b.cells), (w.heap.size, a.cells)]) => h.drew L.later)
    have hm2d := hd.out _ hm2
    go_region_held3 (fun w' => w'.cell? ⟨w.heap.size, 0, none⟩ = some (.int .u64 ((hiN a.Id : Nat) : Int)) ∧ w'.cell? ⟨w.heap.size, 1, none⟩ = some (.int .u64 ((loN a.Id : Nat) : Int)) ∧ w'.cell? ⟨w.heap.size, 2, none⟩ = some (.int .u64 ((hiN a.DebitsPending : Nat) : Int)) ∧ w'.cell? ⟨w.heap.size, 3, none⟩ = some (.int .u64 ((loN a.DebitsPending : Nat) : Int)) ∧ w'.cell? ⟨w.heap.size, 4, none⟩ = some (.int .u64 ((hiN a.DebitsPosted : Nat) : Int)) ∧ w'.cell? ⟨w.heap.size, 5, none⟩ = some (.int .u64 ((loN a.DebitsPosted : Nat) : Int)) ∧ w'.cell? ⟨w.heap.size, 6, none⟩ = some (.int .u64 ((hiN a.CreditsPending : Nat) : Int)) ∧ w'.cell? ⟨w.heap.size, 7, none⟩ = some (.int .u64 ((loN a.CreditsPending : Nat) : Int)) ∧ w'.cell? ⟨w.heap.size, 8, none⟩ = some (.int .u64 ((hiN a.CreditsPosted : Nat) : Int)) ∧ w'.cell? ⟨w.heap.size, 9, none⟩ = some (.int .u64 ((loN a.CreditsPosted : Nat) : Int)) ∧ w'.cell? ⟨w.heap.size, 10, none⟩ = some (.int .i64 a.Ledger) ∧ w'.cell? ⟨w.heap.size, 11, none⟩ = some (.int .i64 a.Code) ∧ w'.cell? ⟨w.heap.size, 12, none⟩ = some (.int .i64 a.Flags) ∧ w'.cell? ⟨w.heap.size, 13, none⟩ = some (.int .i64 a.Stamp) ∧ w.heap.size < w'.heap.size ∧ w'.cell? ⟨w.heap.size + 1, 0, none⟩ = some (.int .u64 ((hiN b.Id : Nat) : Int)) ∧ w'.cell? ⟨w.heap.size + 1, 1, none⟩ = some (.int .u64 ((loN b.Id : Nat) : Int)) ∧ w'.cell? ⟨w.heap.size + 1, 2, none⟩ = some (.int .u64 ((hiN b.DebitsPending : Nat) : Int)) ∧ w'.cell? ⟨w.heap.size + 1, 3, none⟩ = some (.int .u64 ((loN b.DebitsPending : Nat) : Int)) ∧ w'.cell? ⟨w.heap.size + 1, 4, none⟩ = some (.int .u64 ((hiN b.DebitsPosted : Nat) : Int)) ∧ w'.cell? ⟨w.heap.size + 1, 5, none⟩ = some (.int .u64 ((loN b.DebitsPosted : Nat) : Int)) ∧ w'.cell? ⟨w.heap.size + 1, 6, none⟩ = some (.int .u64 ((hiN b.CreditsPending : Nat) : Int)) ∧ w'.cell? ⟨w.heap.size + 1, 7, none⟩ = some (.int .u64 ((loN b.CreditsPending : Nat) : Int)) ∧ w'.cell? ⟨w.heap.size + 1, 8, none⟩ = some (.int .u64 ((hiN b.CreditsPosted : Nat) : Int)) ∧ w'.cell? ⟨w.heap.size + 1, 9, none⟩ = some (.int .u64 ((loN b.CreditsPosted : Nat) : Int)) ∧ w'.cell? ⟨w.heap.size + 1, 10, none⟩ = some (.int .i64 b.Ledger) ∧ w'.cell? ⟨w.heap.size + 1, 11, none⟩ = some (.int .i64 b.Code) ∧ w'.cell? ⟨w.heap.size + 1, 12, none⟩ = some (.int .i64 b.Flags) ∧ w'.cell? ⟨w.heap.size + 1, 13, none⟩ = some (.int .i64 b.Stamp) ∧ w.heap.size + 1 < w'.heap.size ∧ w'.cell? ⟨w1.heap.size, 0, none⟩ = some (.int .u64 ((hiN c.Id : Nat) : Int)) ∧ w'.cell? ⟨w1.heap.size, 1, none⟩ = some (.int .u64 ((loN c.Id : Nat) : Int)) ∧ w'.cell? ⟨w1.heap.size, 2, none⟩ = some (.int .u64 ((hiN c.DebitsPending : Nat) : Int)) ∧ w'.cell? ⟨w1.heap.size, 3, none⟩ = some (.int .u64 ((loN c.DebitsPending : Nat) : Int)) ∧ w'.cell? ⟨w1.heap.size, 4, none⟩ = some (.int .u64 ((hiN c.DebitsPosted : Nat) : Int)) ∧ w'.cell? ⟨w1.heap.size, 5, none⟩ = some (.int .u64 ((loN c.DebitsPosted : Nat) : Int)) ∧ w'.cell? ⟨w1.heap.size, 6, none⟩ = some (.int .u64 ((hiN c.CreditsPending : Nat) : Int)) ∧ w'.cell? ⟨w1.heap.size, 7, none⟩ = some (.int .u64 ((loN c.CreditsPending : Nat) : Int)) ∧ w'.cell? ⟨w1.heap.size, 8, none⟩ = some (.int .u64 ((hiN c.CreditsPosted : Nat) : Int)) ∧ w'.cell? ⟨w1.heap.size, 9, none⟩ = some (.int .u64 ((loN c.CreditsPosted : Nat) : Int)) ∧ w'.cell? ⟨w1.heap.size, 10, none⟩ = some (.int .i64 c.Ledger) ∧ w'.cell? ⟨w1.heap.size, 11, none⟩ = some (.int .i64 c.Code) ∧ w'.cell? ⟨w1.heap.size, 12, none⟩ = some (.int .i64 c.Flags) ∧ w'.cell? ⟨w1.heap.size, 13, none⟩ = some (.int .i64 c.Stamp) ∧ w1.heap.size < w'.heap.size ∧ Hx Mo w w' [(w1.heap.size, c.cells), (w.heap.size + 1, b.cells), (w.heap.size, a.cells)])
      (first | exact hmx.three | exact (hd.out _ hmx).three | exact hm2.three | exact hm2d.three)
      (first | (go_at_call 11; with_reducible refine (k1.out _ _ (by first | exact hmx | exact hd.out _ hmx | exact hm2 | exact hm2d)).mono ?_; rintro e wx ⟨rfl, hmx⟩) | (go_at_call 11; with_reducible refine (k2.out _ _ (by first | exact hmx | exact hd.out _ hmx | exact hm2 | exact hm2d)).mono ?_; rintro e wx ⟨rfl, hmx⟩) | (go_at_call 11; with_reducible refine (k3.out _ _ (by first | exact hmx | exact hd.out _ hmx | exact hm2 | exact hm2d)).mono ?_; rintro e wx ⟨rfl, hmx⟩) | (go_at_call 11; with_reducible refine (k4.out _ _ (by first | exact hmx | exact hd.out _ hmx | exact hm2 | exact hm2d)).mono ?_; rintro e wx ⟨rfl, hmx⟩))
    all_goals
      go_wp2
      go_ret
      exact ⟨by first | rfl | simp, hmx.bel⟩
  · have hg := Lib.hid (fun W (h : Hx Mo w W [(w.heap.size + 1, b.cells), (w.heap.size, a.cells)]) => h.two)
    by_cases h1 : a.Flags < 0
    · go_enter Tryd.func7, Tryd.ntmps7
      go_wp2_with fail
      refine (hal.out _ hm0).mono ?_
      rintro e w1 ⟨rfl, hm1⟩
      obtain ⟨z0, z1, z2, z3, z4, z5, z6, z7, z8, z9, z10, z11, z12, z13, z14, y0, y1, y2, y3, y4, y5, y6, y7, y8, y9, y10, y11, y12, y13, y14, -⟩ := hg.out _ hm1
      go_wp2
      go_ret
      exact ⟨rfl, hm1.bel⟩
    · have h2 : b.Flags < 0 := by omega
      go_enter Tryd.func7, Tryd.ntmps7
      go_wp2_with fail
      refine (hal.out _ hm0).mono ?_
      rintro e w1 ⟨rfl, hm1⟩
      obtain ⟨z0, z1, z2, z3, z4, z5, z6, z7, z8, z9, z10, z11, z12, z13, z14, y0, y1, y2, y3, y4, y5, y6, y7, y8, y9, y10, y11, y12, y13, y14, -⟩ := hg.out _ hm1
      go_wp2
      go_ret
      exact ⟨rfl, hm1.bel⟩
end
end Go.Proofs.YtideooaefplbhaaDoor
