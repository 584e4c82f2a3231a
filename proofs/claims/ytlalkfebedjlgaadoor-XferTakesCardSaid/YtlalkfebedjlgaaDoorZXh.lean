/- Stage 10: XferTakes' walk. No condition but the landed contracts. -/
import Derived.Test.YtlalkfebedjlgaaDoorZAg
import Derived.Test.YtlalkfebedjlgaaDoorZXg
namespace Go.Proofs.YtlalkfebedjlgaaDoor
open Go.RowKit Go.Sort Wm Cr

section
variable {Mo : World → Prop} {Wr : (Nat → Prop) → World → Nat → ByteArray → Prop} {Rd : (Nat → Prop) → World → Nat → Option ByteArray → Prop}
theorem zeroT_V : tranV zeroT = .agg #[.int .u64 0, .int .u64 0, .int .u64 0, .int .u64 0, .int .u64 0, .int .u64 0, .int .u64 0, .int .u64 0, .int .u64 0, .int .u64 0, .int .i64 0, .int .i64 0, .int .i64 0, .int .i64 0, .int .i64 0, .int .i64 0] := by kernel_rfl
set_option maxRecDepth 100000 in
theorem run_equal_tranx (a0 a1 a2 a3 a4 a5 a6 a7 a8 a9 b0 b1 b2 b3 b4 b5 : Int) (w : World) :
    (Op.equalIn 10000 26 (.agg #[.int .u64 a0, .int .u64 a1, .int .u64 a2, .int .u64 a3, .int .u64 a4, .int .u64 a5, .int .u64 a6, .int .u64 a7, .int .u64 a8, .int .u64 a9, .int .i64 b0, .int .i64 b1, .int .i64 b2, .int .i64 b3, .int .i64 b4, .int .i64 b5])
      (.agg #[.int .u64 a0, .int .u64 a1, .int .u64 a2, .int .u64 a3, .int .u64 a4, .int .u64 a5, .int .u64 a6, .int .u64 a7, .int .u64 a8, .int .u64 a9, .int .i64 b0, .int .i64 b1, .int .i64 b2, .int .i64 b3, .int .i64 b4, .int .i64 b5])).run Tryd.prog w = .ok true w := by
  simp [go_sem]
theorem run_eql_tranx (a0 a1 a2 a3 a4 a5 a6 a7 a8 a9 b0 b1 b2 b3 b4 b5 : Int) (w : World) :
    (binOp .eql 26 (.agg #[.int .u64 a0, .int .u64 a1, .int .u64 a2, .int .u64 a3, .int .u64 a4, .int .u64 a5, .int .u64 a6, .int .u64 a7, .int .u64 a8, .int .u64 a9, .int .i64 b0, .int .i64 b1, .int .i64 b2, .int .i64 b3, .int .i64 b4, .int .i64 b5])
      (.agg #[.int .u64 a0, .int .u64 a1, .int .u64 a2, .int .u64 a3, .int .u64 a4, .int .u64 a5, .int .u64 a6, .int .u64 a7, .int .u64 a8, .int .u64 a9, .int .i64 b0, .int .i64 b1, .int .i64 b2, .int .i64 b3, .int .i64 b4, .int .i64 b5])).run Tryd.prog w = .ok (.bool true) w := by
  rw [run_eql_struct, run_equal_tranx]; rfl
attribute [local go_sem high] run_eql_tranx
set_option maxRecDepth 100000 in
set_option maxHeartbeats 1000000 in
theorem xferTakes_great (L : LandedXf Mo Wr Rd) (_R : LandedRd Rd) (s : ByteArray) (hs : s.size ≤ 140737488351232) (w : World) (hM : Mo w) (h3 : 300 < s.size) :
    Calls Tryd.prog 7 #[.string s] w fun e w' => e = .returned (.bool true) ∧ Below w.heap.size w w' := by
  have hal := Lib.hid (xferAlive_any L w hM)
  go_enter Tryd.func7, Tryd.ntmps7
  go_wp2_with fail
  refine hal.out.mono ?_
  rintro e w1 ⟨rfl, hb1⟩
  go_wp2
  go_ret
  exact ⟨rfl, hb1⟩
set_option maxRecDepth 100000 in
set_option maxHeartbeats 1000000 in
theorem xferTakes_short (L : LandedXf Mo Wr Rd) (R : LandedRd Rd) (s : ByteArray) (hs : s.size ≤ 140737488351232) (w : World) (hM : Mo w) (h3 : ¬ 300 < s.size) (h9 : s.size < 108) :
    Calls Tryd.prog 7 #[.string s] w fun e w' => e = .returned (.bool true) ∧ Below w.heap.size w w' := by
  have hal := Lib.hid (xferAlive_any L w hM)
  have hrd := Lib.hid (fun W => R.read s W (by omega))
  have hget := Lib.hid (fun W q (h : Ry Rd w W [] q (some s)) => h.get (S := fun e => e = .returned (tranV (takeT (some s)))) (fun G hG => L.get G W q (some s) hG))
  have ht : takeT (some s) = zeroT := by unfold takeT; dsimp only; rw [if_neg (by omega)]
  have hr : restT (some s) = none := by unfold restT; dsimp only; rw [if_neg (by omega)]
  rw [ht, hr, zeroT_V] at hget
  have htorn := Lib.hid (fun W l q (h : Ry Rd w W l q none) => h.ask R (S := fun e => e = .returned (.bool true)) (by obtain ⟨_, _, G, hG, _⟩ := h; exact R.torn G W q none hG))
  have hnew := Lib.hid (fun W q (h : Ry Rd w W [] q none) => h.new R [.int .u64 0, .int .u64 0, .int .u64 0, .int .u64 0, .int .u64 0, .int .u64 0, .int .u64 0, .int .u64 0, .int .u64 0, .int .u64 0, .int .i64 0, .int .i64 0, .int .i64 0, .int .i64 0, .int .i64 0, .int .i64 0] 26)
  go_enter Tryd.func7, Tryd.ntmps7
  go_wp2_with fail
  refine hal.out.mono ?_
  rintro e w1 ⟨rfl, hb1⟩
  go_wp2_with fail
  refine (hrd.out _).mono ?_
  rintro e w2 hp
  obtain ⟨q, rfl, hR⟩ := Ry.start (l := []) hb1 (fun x hx => by cases hx) hp
  go_wp2_with fail
  refine (hget.out _ _ hR).mono ?_
  rintro e w3 ⟨rfl, hR3⟩
  go_wp2_with fail
  refine (htorn.out _ _ _ (hnew.out _ _ hR3)).mono ?_
  rintro e w4 ⟨rfl, hR4⟩
  go_wp2
  go_ret
  exact ⟨rfl, hR4.bel⟩
set_option maxRecDepth 100000 in
set_option maxHeartbeats 1000000 in
theorem xferTakes_long (L : LandedXf Mo Wr Rd) (R : LandedRd Rd) (s : ByteArray) (hs : s.size ≤ 140737488351232) (w : World) (hM : Mo w) (h3 : ¬ 300 < s.size) (h9 : ¬ s.size < 108) :
    Calls Tryd.prog 7 #[.string s] w fun e w' => e = .returned (.bool true) ∧ Below w.heap.size w w' := by
  have hal := Lib.hid (xferAlive_any L w hM)
  have hrd := Lib.hid (fun W => R.read s W (by omega))
  have hget := Lib.hid (fun W q (h : Ry Rd w W [] q (some s)) => h.get (S := fun e => e = .returned (tranV (takeT (some s)))) (fun G hG => L.get G W q (some s) hG))
  have ht : takeT (some s) = tranOf s := by unfold takeT; dsimp only; rw [if_pos (by omega)]
  have hr : restT (some s) = some (s.extract 108 s.size) := by unfold restT; dsimp only; rw [if_pos (by omega)]
  have hx := Lib.hid (traB_tranOf s (by omega))
  have hgd := tranOf_good s (by omega)
  rw [ht, hr] at hget
  have hl : leftN (some (s.extract 108 s.size)) = s.size - 108 := by show (s.extract 108 s.size).size = _; rw [ByteArray.size_extract]; omega
  have hleft := Lib.hid (fun W l q (h : Ry Rd w W l q (some (s.extract 108 s.size))) => h.ask R (S := fun e => e = .returned (.int .i64 ((leftN (some (s.extract 108 s.size)) : Nat) : Int))) (by obtain ⟨_, _, G, hG, _⟩ := h; exact R.left G W q _ hG))
  rw [hl, show ((s.size - 108 : Nat) : Int) = (s.size : Int) - 108 by omega] at hleft
  generalize tranOf s = a at *
  have hnew := Lib.hid (fun W q (h : Ry Rd w W [] q (some (s.extract 108 s.size))) => h.new R a.cells 26)
  have hgood := Lib.hid (fun W l q (h : Ry Rd w W l q (some (s.extract 108 s.size))) => h.ask R (refgood_tran a W))
  have hbyt := Lib.hid (fun W l q (h : Ry Rd w W l q (some (s.extract 108 s.size))) => h.ask R (refbytes_tran a W))
  rw [hgd] at hgood
  rw [hx.out] at hbyt
  have hg := Lib.hid (fun W b q (h : Ry Rd w W [(b, a.cells)] q (some (s.extract 108 s.size))) => (h.box (b, a.cells) (List.mem_cons_self ..)).tran h)
  have hd := Lib.hid (fun W b q (h : Ry Rd w W [(b, a.cells)] q (some (s.extract 108 s.size))) => h.later R ((Below.refl _ _).drew))
  have hcut := Lib.hid (show s.extract 0 108 = s.extract 0 108 from rfl)
  rw [tranV_eq] at hget hgood hbyt
  have hs9 : (108 : Int) ≤ (s.size : Int) := by omega
  clear hx ht hr hl hgd L
  go_enter Tryd.func7, Tryd.ntmps7
  go_wp2_with fail
  refine hal.out.mono ?_
  rintro e w1 ⟨rfl, hb1⟩
  go_wp2_with fail
  refine (hrd.out _).mono ?_
  rintro e w2 hp
  obtain ⟨q, rfl, hR⟩ := Ry.start (l := []) hb1 (fun x hx => by cases hx) hp
  go_wp2_with fail
  refine (hget.out _ _ hR).mono ?_
  rintro e w3 ⟨rfl, hR3⟩
  have hR4 := hnew.out _ _ hR3
  obtain ⟨W4, hW4⟩ : ∃ W4, W4 = w3.alloc (.cells a.cells.toArray 26) := ⟨_, rfl⟩
  rw [← hW4] at hR4
  dsimp only [Tran.cells] at hW4
  have hR4d := hd.out _ _ _ hR4
  go_wp2_with fail
  rw [← hW4]
  replace hW4 := Lib.hid hW4
  go_region_held3 (fun w' => w'.cell? ⟨w3.heap.size, 0, none⟩ = some (.int .u64 ((hiN a.Id : Nat) : Int)) ∧ w'.cell? ⟨w3.heap.size, 1, none⟩ = some (.int .u64 ((loN a.Id : Nat) : Int)) ∧ w'.cell? ⟨w3.heap.size, 2, none⟩ = some (.int .u64 ((hiN a.Debit : Nat) : Int)) ∧ w'.cell? ⟨w3.heap.size, 3, none⟩ = some (.int .u64 ((loN a.Debit : Nat) : Int)) ∧ w'.cell? ⟨w3.heap.size, 4, none⟩ = some (.int .u64 ((hiN a.Credit : Nat) : Int)) ∧ w'.cell? ⟨w3.heap.size, 5, none⟩ = some (.int .u64 ((loN a.Credit : Nat) : Int)) ∧ w'.cell? ⟨w3.heap.size, 6, none⟩ = some (.int .u64 ((hiN a.Amount : Nat) : Int)) ∧ w'.cell? ⟨w3.heap.size, 7, none⟩ = some (.int .u64 ((loN a.Amount : Nat) : Int)) ∧ w'.cell? ⟨w3.heap.size, 8, none⟩ = some (.int .u64 ((hiN a.Pending : Nat) : Int)) ∧ w'.cell? ⟨w3.heap.size, 9, none⟩ = some (.int .u64 ((loN a.Pending : Nat) : Int)) ∧ w'.cell? ⟨w3.heap.size, 10, none⟩ = some (.int .i64 a.Timeout) ∧ w'.cell? ⟨w3.heap.size, 11, none⟩ = some (.int .i64 a.Ledger) ∧ w'.cell? ⟨w3.heap.size, 12, none⟩ = some (.int .i64 a.Code) ∧ w'.cell? ⟨w3.heap.size, 13, none⟩ = some (.int .i64 a.Flags) ∧ w'.cell? ⟨w3.heap.size, 14, none⟩ = some (.int .i64 a.Stamp) ∧ w'.cell? ⟨w3.heap.size, 15, none⟩ = some (.int .i64 a.Born) ∧ w3.heap.size < w'.heap.size ∧ Ry Rd w w' [(w3.heap.size, a.cells)] q (some (s.extract 108 s.size)))
    (first | exact hg.out _ _ _ hmx | exact hg.out _ _ _ (hd.out _ _ _ hmx) | exact hg.out _ _ _ hR4 | exact hg.out _ _ _ hR4d)
    (first | (go_at_call 20; with_reducible refine (hgood.out _ _ _ (by first | exact hmx | exact hd.out _ _ _ hmx | exact hR4 | exact hR4d)).mono ?_; rintro e wx ⟨rfl, hmx⟩) | (go_at_call 25; with_reducible refine (hbyt.out _ _ _ (by first | exact hmx | exact hd.out _ _ _ hmx | exact hR4 | exact hR4d)).mono ?_; rintro e wx ⟨rfl, hmx⟩) | (go_at_call 27; with_reducible refine (hleft.out _ _ _ (by first | exact hmx | exact hd.out _ _ _ hmx | exact hR4 | exact hR4d)).mono ?_; rintro e wx ⟨rfl, hmx⟩))
  all_goals
    rename_i hH
    have hbel := (hH.2.2.2.2.2.2.2.2.2.2.2.2.2.2.2.2.2).bel
    go_wp2
    go_ret
    exact ⟨by first | rfl | (simp; done) | (simp; rw [IntKind.wrap_i64]; omega), hbel⟩
theorem xferTakes_any (L : LandedXf Mo Wr Rd) (R : LandedRd Rd) (s : ByteArray) (hs : s.size ≤ 140737488351232) (w : World) (hM : Mo w) :
    Calls Tryd.prog 7 #[.string s] w fun e w' => e = .returned (.bool true) ∧ Below w.heap.size w w' := by
  by_cases h3 : 300 < s.size
  · exact xferTakes_great L R s hs w hM h3
  · by_cases h9 : s.size < 108
    · exact xferTakes_short L R s hs w hM h3 h9
    · exact xferTakes_long L R s hs w hM h3 h9
end
end Go.Proofs.YtlalkfebedjlgaaDoor
