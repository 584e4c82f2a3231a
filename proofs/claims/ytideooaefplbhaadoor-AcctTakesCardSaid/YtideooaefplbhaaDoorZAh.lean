/- Stage 9: AcctTakes' walk. No condition but the landed contracts. -/
import Derived.Test.YtideooaefplbhaaDoorZAg
import Derived.Test.YtideooaefplbhaaDoorZAf
namespace Go.Proofs.YtideooaefplbhaaDoor
open Go.RowKit Go.Sort Wm Cr

section
variable {Mo : World → Prop} {Wr : (Nat → Prop) → World → Nat → ByteArray → Prop} {Rd : (Nat → Prop) → World → Nat → Option ByteArray → Prop}
theorem zeroA_V : acctV zeroA = .agg #[.int .u64 0, .int .u64 0, .int .u64 0, .int .u64 0, .int .u64 0, .int .u64 0, .int .u64 0, .int .u64 0, .int .u64 0, .int .u64 0, .int .i64 0, .int .i64 0, .int .i64 0, .int .i64 0] := by kernel_rfl
set_option maxRecDepth 100000 in
theorem run_equal_acct (a0 a1 a2 a3 a4 a5 a6 a7 a8 a9 b0 b1 b2 b3 : Int) (w : World) :
    (Op.equalIn 10000 26 (.agg #[.int .u64 a0, .int .u64 a1, .int .u64 a2, .int .u64 a3, .int .u64 a4, .int .u64 a5, .int .u64 a6, .int .u64 a7, .int .u64 a8, .int .u64 a9, .int .i64 b0, .int .i64 b1, .int .i64 b2, .int .i64 b3])
      (.agg #[.int .u64 a0, .int .u64 a1, .int .u64 a2, .int .u64 a3, .int .u64 a4, .int .u64 a5, .int .u64 a6, .int .u64 a7, .int .u64 a8, .int .u64 a9, .int .i64 b0, .int .i64 b1, .int .i64 b2, .int .i64 b3])).run Tryd.prog w = .ok true w := by
  simp [go_sem]
theorem run_eql_acct (a0 a1 a2 a3 a4 a5 a6 a7 a8 a9 b0 b1 b2 b3 : Int) (w : World) :
    (binOp .eql 26 (.agg #[.int .u64 a0, .int .u64 a1, .int .u64 a2, .int .u64 a3, .int .u64 a4, .int .u64 a5, .int .u64 a6, .int .u64 a7, .int .u64 a8, .int .u64 a9, .int .i64 b0, .int .i64 b1, .int .i64 b2, .int .i64 b3])
      (.agg #[.int .u64 a0, .int .u64 a1, .int .u64 a2, .int .u64 a3, .int .u64 a4, .int .u64 a5, .int .u64 a6, .int .u64 a7, .int .u64 a8, .int .u64 a9, .int .i64 b0, .int .i64 b1, .int .i64 b2, .int .i64 b3])).run Tryd.prog w = .ok (.bool true) w := by
  rw [run_eql_struct, run_equal_acct]; rfl
attribute [local go_sem high] run_eql_acct
set_option maxRecDepth 100000 in
set_option maxHeartbeats 1000000 in
theorem acctTakes_any (L : LandedAc Mo Wr Rd) (R : LandedRd Rd) (s : ByteArray) (hs : s.size ≤ 140737488351232) (w : World) (hM : Mo w) :
    Calls Tryd.prog 6 #[.string s] w fun e w' => e = .returned (.bool true) ∧ Below w.heap.size w w' := by
  have hal := Lib.hid (acctAlive_any L w hM)
  by_cases h3 : 300 < s.size
  · go_enter Tryd.func6, Tryd.ntmps6
    go_wp2_with fail
    refine hal.out.mono ?_
    rintro e w1 ⟨rfl, hb1⟩
    go_wp2
    go_ret
    exact ⟨rfl, hb1⟩
  · have hrd := Lib.hid (fun W => R.read s W (by omega))
    have hget := Lib.hid (fun W q (h : Ry Rd w W [] q (some s)) => h.get (S := fun e => e = .returned (acctV (takeA (some s)))) (fun G hG => L.get G W q (some s) hG))
    by_cases h9 : s.size < 96
    · have ht : takeA (some s) = zeroA := by unfold takeA; dsimp only; rw [if_neg (by omega)]
      have hr : restA (some s) = none := by unfold restA; dsimp only; rw [if_neg (by omega)]
      rw [ht, hr, zeroA_V] at hget
      have htorn := Lib.hid (fun W l q (h : Ry Rd w W l q none) => h.ask R (S := fun e => e = .returned (.bool true)) (by obtain ⟨_, _, G, hG, _⟩ := h; exact R.torn G W q none hG))
      have hnew := Lib.hid (fun W q (h : Ry Rd w W [] q none) => h.new R [.int .u64 0, .int .u64 0, .int .u64 0, .int .u64 0, .int .u64 0, .int .u64 0, .int .u64 0, .int .u64 0, .int .u64 0, .int .u64 0, .int .i64 0, .int .i64 0, .int .i64 0, .int .i64 0] 26)
      go_enter Tryd.func6, Tryd.ntmps6
      go_wp2_with fail
      refine hal.out.mono ?_
      rintro e w1 ⟨rfl, hb1⟩
      go_wp2_with fail
      refine (hrd.out _).mono ?_
      rintro e w2 hp
      obtain ⟨q, rfl, hR⟩ := Ry.start (l := []) hb1 (fun x hx => by cases hx) hp
      go_wp2_with fail
      refine (hget.out _ _ hR).mono ?_
      rintro e w3 ⟨rfl, hR3⟩
      go_wp2_with fail
      refine (htorn.out _ _ _ (hnew.out _ _ hR3)).mono ?_
      rintro e w4 ⟨rfl, hR4⟩
      go_wp2
      go_ret
      exact ⟨rfl, hR4.bel⟩
    · have ht : takeA (some s) = accOf s := by unfold takeA; dsimp only; rw [if_pos (by omega)]
      have hr : restA (some s) = some (s.extract 96 s.size) := by unfold restA; dsimp only; rw [if_pos (by omega)]
      have hx := Lib.hid (accB_accOf s (by omega))
      have hwf := accOf_wf s (by omega)
      have hgd := accOf_good s (by omega)
      rw [ht, hr] at hget
      have hl : leftN (some (s.extract 96 s.size)) = s.size - 96 := by show (s.extract 96 s.size).size = _; rw [ByteArray.size_extract]; omega
      have hleft := Lib.hid (fun W l q (h : Ry Rd w W l q (some (s.extract 96 s.size))) => h.ask R (S := fun e => e = .returned (.int .i64 ((leftN (some (s.extract 96 s.size)) : Nat) : Int))) (by obtain ⟨_, _, G, hG, _⟩ := h; exact R.left G W q _ hG))
      rw [hl, show ((s.size - 96 : Nat) : Int) = (s.size : Int) - 96 by omega] at hleft
      generalize accOf s = a at *
      have hnew := Lib.hid (fun W q (h : Ry Rd w W [] q (some (s.extract 96 s.size))) => h.new R a.cells 26)
      have hgood := Lib.hid (fun W l q (h : Ry Rd w W l q (some (s.extract 96 s.size))) => h.ask R (refgood_acct a W))
      have hbyt := Lib.hid (fun W l q (h : Ry Rd w W l q (some (s.extract 96 s.size))) => h.ask R (refbytes_acct a W))
      rw [hgd] at hgood
      rw [hx.out] at hbyt
      have hg := Lib.hid (fun W b q (h : Ry Rd w W [(b, a.cells)] q (some (s.extract 96 s.size))) => (h.box (b, a.cells) (List.mem_cons_self ..)).acct h)
      have hd := Lib.hid (fun W b q (h : Ry Rd w W [(b, a.cells)] q (some (s.extract 96 s.size))) => h.later R ((Below.refl _ _).drew))
      have hcut := Lib.hid (show s.extract 0 96 = s.extract 0 96 from rfl)
      rw [acctV_eq] at hget hgood hbyt
      have hs9 : (96 : Int) ≤ (s.size : Int) := by omega
      clear hx ht hr hl hwf hgd L
      go_enter Tryd.func6, Tryd.ntmps6
      go_wp2_with fail
      refine hal.out.mono ?_
      rintro e w1 ⟨rfl, hb1⟩
      go_wp2_with fail
      refine (hrd.out _).mono ?_
      rintro e w2 hp
      obtain ⟨q, rfl, hR⟩ := Ry.start (l := []) hb1 (fun x hx => by cases hx) hp
      go_wp2_with fail
      refine (hget.out _ _ hR).mono ?_
      rintro e w3 ⟨rfl, hR3⟩
      have hR4 := hnew.out _ _ hR3
      obtain ⟨W4, hW4⟩ : ∃ W4, W4 = w3.alloc (.cells a.cells.toArray 26) := ⟨_, rfl⟩
      rw [← hW4] at hR4
      dsimp only [Acct.cells] at hW4
      have hR4d := hd.out _ _ _ hR4
      go_wp2_with fail
      rw [← hW4]
      replace hW4 := Lib.hid hW4
      go_region_held3 (fun w' => w'.cell? ⟨w3.heap.size, 0, none⟩ = some (.int .u64 ((hiN a.Id : Nat) : Int)) ∧ w'.cell? ⟨w3.heap.size, 1, none⟩ = some (.int .u64 ((loN a.Id : Nat) : Int)) ∧ w'.cell? ⟨w3.heap.size, 2, none⟩ = some (.int .u64 ((hiN a.DebitsPending : Nat) : Int)) ∧ w'.cell? ⟨w3.heap.size, 3, none⟩ = some (.int .u64 ((loN a.DebitsPending : Nat) : Int)) ∧ w'.cell? ⟨w3.heap.size, 4, none⟩ = some (.int .u64 ((hiN a.DebitsPosted : Nat) : Int)) ∧ w'.cell? ⟨w3.heap.size, 5, none⟩ = some (.int .u64 ((loN a.DebitsPosted : Nat) : Int)) ∧ w'.cell? ⟨w3.heap.size, 6, none⟩ = some (.int .u64 ((hiN a.CreditsPending : Nat) : Int)) ∧ w'.cell? ⟨w3.heap.size, 7, none⟩ = some (.int .u64 ((loN a.CreditsPending : Nat) : Int)) ∧ w'.cell? ⟨w3.heap.size, 8, none⟩ = some (.int .u64 ((hiN a.CreditsPosted : Nat) : Int)) ∧ w'.cell? ⟨w3.heap.size, 9, none⟩ = some (.int .u64 ((loN a.CreditsPosted : Nat) : Int)) ∧ w'.cell? ⟨w3.heap.size, 10, none⟩ = some (.int .i64 a.Ledger) ∧ w'.cell? ⟨w3.heap.size, 11, none⟩ = some (.int .i64 a.Code) ∧ w'.cell? ⟨w3.heap.size, 12, none⟩ = some (.int .i64 a.Flags) ∧ w'.cell? ⟨w3.heap.size, 13, none⟩ = some (.int .i64 a.Stamp) ∧ w3.heap.size < w'.heap.size ∧ Ry Rd w w' [(w3.heap.size, a.cells)] q (some (s.extract 96 s.size)))
        (first | exact hg.out _ _ _ hmx | exact hg.out _ _ _ (hd.out _ _ _ hmx) | exact hg.out _ _ _ hR4 | exact hg.out _ _ _ hR4d)
        (first | (go_at_call 14; with_reducible refine (hgood.out _ _ _ (by first | exact hmx | exact hd.out _ _ _ hmx | exact hR4 | exact hR4d)).mono ?_; rintro e wx ⟨rfl, hmx⟩) | (go_at_call 19; with_reducible refine (hbyt.out _ _ _ (by first | exact hmx | exact hd.out _ _ _ hmx | exact hR4 | exact hR4d)).mono ?_; rintro e wx ⟨rfl, hmx⟩) | (go_at_call 21; with_reducible refine (hleft.out _ _ _ (by first | exact hmx | exact hd.out _ _ _ hmx | exact hR4 | exact hR4d)).mono ?_; rintro e wx ⟨rfl, hmx⟩))
      all_goals
        rename_i hH
        have hbel := (hH.2.2.2.2.2.2.2.2.2.2.2.2.2.2.2).bel
        go_wp2
        go_ret
        exact ⟨by first | rfl | (simp; done) | (simp; rw [IntKind.wrap_i64]; omega), hbel⟩
end
end Go.Proofs.YtideooaefplbhaaDoor
