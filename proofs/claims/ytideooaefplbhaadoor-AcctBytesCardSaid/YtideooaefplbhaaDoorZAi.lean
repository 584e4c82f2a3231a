/- Stage 9: AcctBytes' walk. No condition but the landed contracts. -/
import Derived.Test.YtideooaefplbhaaDoorZAh
namespace Go.Proofs.YtideooaefplbhaaDoor
open Go.RowKit Go.Sort Wm Cr
attribute [local go_sem high] run_eql_acct

section
variable {Mo : World → Prop} {Wr : (Nat → Prop) → World → Nat → ByteArray → Prop} {Rd : (Nat → Prop) → World → Nat → Option ByteArray → Prop}
/-- Two accounts in blocks, and the rest. -/
theorem acct_two {W : World} {b c : Nat} {x y : Acct} {P : Prop} (h1 : BoxAt W b x.cells) (h2 : BoxAt W c y.cells) (p : P) : W.cell? ⟨b, 0, none⟩ = some (.int .u64 ((hiN x.Id : Nat) : Int)) ∧ W.cell? ⟨b, 1, none⟩ = some (.int .u64 ((loN x.Id : Nat) : Int)) ∧ W.cell? ⟨b, 2, none⟩ = some (.int .u64 ((hiN x.DebitsPending : Nat) : Int)) ∧ W.cell? ⟨b, 3, none⟩ = some (.int .u64 ((loN x.DebitsPending : Nat) : Int)) ∧ W.cell? ⟨b, 4, none⟩ = some (.int .u64 ((hiN x.DebitsPosted : Nat) : Int)) ∧ W.cell? ⟨b, 5, none⟩ = some (.int .u64 ((loN x.DebitsPosted : Nat) : Int)) ∧ W.cell? ⟨b, 6, none⟩ = some (.int .u64 ((hiN x.CreditsPending : Nat) : Int)) ∧ W.cell? ⟨b, 7, none⟩ = some (.int .u64 ((loN x.CreditsPending : Nat) : Int)) ∧ W.cell? ⟨b, 8, none⟩ = some (.int .u64 ((hiN x.CreditsPosted : Nat) : Int)) ∧ W.cell? ⟨b, 9, none⟩ = some (.int .u64 ((loN x.CreditsPosted : Nat) : Int)) ∧ W.cell? ⟨b, 10, none⟩ = some (.int .i64 x.Ledger) ∧ W.cell? ⟨b, 11, none⟩ = some (.int .i64 x.Code) ∧ W.cell? ⟨b, 12, none⟩ = some (.int .i64 x.Flags) ∧ W.cell? ⟨b, 13, none⟩ = some (.int .i64 x.Stamp) ∧ b < W.heap.size ∧ W.cell? ⟨c, 0, none⟩ = some (.int .u64 ((hiN y.Id : Nat) : Int)) ∧ W.cell? ⟨c, 1, none⟩ = some (.int .u64 ((loN y.Id : Nat) : Int)) ∧ W.cell? ⟨c, 2, none⟩ = some (.int .u64 ((hiN y.DebitsPending : Nat) : Int)) ∧ W.cell? ⟨c, 3, none⟩ = some (.int .u64 ((loN y.DebitsPending : Nat) : Int)) ∧ W.cell? ⟨c, 4, none⟩ = some (.int .u64 ((hiN y.DebitsPosted : Nat) : Int)) ∧ W.cell? ⟨c, 5, none⟩ = some (.int .u64 ((loN y.DebitsPosted : Nat) : Int)) ∧ W.cell? ⟨c, 6, none⟩ = some (.int .u64 ((hiN y.CreditsPending : Nat) : Int)) ∧ W.cell? ⟨c, 7, none⟩ = some (.int .u64 ((loN y.CreditsPending : Nat) : Int)) ∧ W.cell? ⟨c, 8, none⟩ = some (.int .u64 ((hiN y.CreditsPosted : Nat) : Int)) ∧ W.cell? ⟨c, 9, none⟩ = some (.int .u64 ((loN y.CreditsPosted : Nat) : Int)) ∧ W.cell? ⟨c, 10, none⟩ = some (.int .i64 y.Ledger) ∧ W.cell? ⟨c, 11, none⟩ = some (.int .i64 y.Code) ∧ W.cell? ⟨c, 12, none⟩ = some (.int .i64 y.Flags) ∧ W.cell? ⟨c, 13, none⟩ = some (.int .i64 y.Stamp) ∧ c < W.heap.size ∧ P := by
  simpa only [and_assoc] using h1.acct (h2.acct p)
theorem acct_three {W : World} {b c d : Nat} {x y z : Acct} {P : Prop} (h1 : BoxAt W b x.cells) (h2 : BoxAt W c y.cells) (h3 : BoxAt W d z.cells) (p : P) : W.cell? ⟨b, 0, none⟩ = some (.int .u64 ((hiN x.Id : Nat) : Int)) ∧ W.cell? ⟨b, 1, none⟩ = some (.int .u64 ((loN x.Id : Nat) : Int)) ∧ W.cell? ⟨b, 2, none⟩ = some (.int .u64 ((hiN x.DebitsPending : Nat) : Int)) ∧ W.cell? ⟨b, 3, none⟩ = some (.int .u64 ((loN x.DebitsPending : Nat) : Int)) ∧ W.cell? ⟨b, 4, none⟩ = some (.int .u64 ((hiN x.DebitsPosted : Nat) : Int)) ∧ W.cell? ⟨b, 5, none⟩ = some (.int .u64 ((loN x.DebitsPosted : Nat) : Int)) ∧ W.cell? ⟨b, 6, none⟩ = some (.int .u64 ((hiN x.CreditsPending : Nat) : Int)) ∧ W.cell? ⟨b, 7, none⟩ = some (.int .u64 ((loN x.CreditsPending : Nat) : Int)) ∧ W.cell? ⟨b, 8, none⟩ = some (.int .u64 ((hiN x.CreditsPosted : Nat) : Int)) ∧ W.cell? ⟨b, 9, none⟩ = some (.int .u64 ((loN x.CreditsPosted : Nat) : Int)) ∧ W.cell? ⟨b, 10, none⟩ = some (.int .i64 x.Ledger) ∧ W.cell? ⟨b, 11, none⟩ = some (.int .i64 x.Code) ∧ W.cell? ⟨b, 12, none⟩ = some (.int .i64 x.Flags) ∧ W.cell? ⟨b, 13, none⟩ = some (.int .i64 x.Stamp) ∧ b < W.heap.size ∧ W.cell? ⟨c, 0, none⟩ = some (.int .u64 ((hiN y.Id : Nat) : Int)) ∧ W.cell? ⟨c, 1, none⟩ = some (.int .u64 ((loN y.Id : Nat) : Int)) ∧ W.cell? ⟨c, 2, none⟩ = some (.int .u64 ((hiN y.DebitsPending : Nat) : Int)) ∧ W.cell? ⟨c, 3, none⟩ = some (.int .u64 ((loN y.DebitsPending : Nat) : Int)) ∧ W.cell? ⟨c, 4, none⟩ = some (.int .u64 ((hiN y.DebitsPosted : Nat) : Int)) ∧ W.cell? ⟨c, 5, none⟩ = some (.int .u64 ((loN y.DebitsPosted : Nat) : Int)) ∧ W.cell? ⟨c, 6, none⟩ = some (.int .u64 ((hiN y.CreditsPending : Nat) : Int)) ∧ W.cell? ⟨c, 7, none⟩ = some (.int .u64 ((loN y.CreditsPending : Nat) : Int)) ∧ W.cell? ⟨c, 8, none⟩ = some (.int .u64 ((hiN y.CreditsPosted : Nat) : Int)) ∧ W.cell? ⟨c, 9, none⟩ = some (.int .u64 ((loN y.CreditsPosted : Nat) : Int)) ∧ W.cell? ⟨c, 10, none⟩ = some (.int .i64 y.Ledger) ∧ W.cell? ⟨c, 11, none⟩ = some (.int .i64 y.Code) ∧ W.cell? ⟨c, 12, none⟩ = some (.int .i64 y.Flags) ∧ W.cell? ⟨c, 13, none⟩ = some (.int .i64 y.Stamp) ∧ c < W.heap.size ∧ W.cell? ⟨d, 0, none⟩ = some (.int .u64 ((hiN z.Id : Nat) : Int)) ∧ W.cell? ⟨d, 1, none⟩ = some (.int .u64 ((loN z.Id : Nat) : Int)) ∧ W.cell? ⟨d, 2, none⟩ = some (.int .u64 ((hiN z.DebitsPending : Nat) : Int)) ∧ W.cell? ⟨d, 3, none⟩ = some (.int .u64 ((loN z.DebitsPending : Nat) : Int)) ∧ W.cell? ⟨d, 4, none⟩ = some (.int .u64 ((hiN z.DebitsPosted : Nat) : Int)) ∧ W.cell? ⟨d, 5, none⟩ = some (.int .u64 ((loN z.DebitsPosted : Nat) : Int)) ∧ W.cell? ⟨d, 6, none⟩ = some (.int .u64 ((hiN z.CreditsPending : Nat) : Int)) ∧ W.cell? ⟨d, 7, none⟩ = some (.int .u64 ((loN z.CreditsPending : Nat) : Int)) ∧ W.cell? ⟨d, 8, none⟩ = some (.int .u64 ((hiN z.CreditsPosted : Nat) : Int)) ∧ W.cell? ⟨d, 9, none⟩ = some (.int .u64 ((loN z.CreditsPosted : Nat) : Int)) ∧ W.cell? ⟨d, 10, none⟩ = some (.int .i64 z.Ledger) ∧ W.cell? ⟨d, 11, none⟩ = some (.int .i64 z.Code) ∧ W.cell? ⟨d, 12, none⟩ = some (.int .i64 z.Flags) ∧ W.cell? ⟨d, 13, none⟩ = some (.int .i64 z.Stamp) ∧ d < W.heap.size ∧ P := by
  simpa only [and_assoc] using h1.acct (h2.acct (h3.acct p))
set_option maxRecDepth 100000 in
set_option maxHeartbeats 4000000 in
theorem acctBytes_true (L : LandedAc Mo Wr Rd) (K : LandedWr Wr) (R : LandedRd Rd) (a : Acct) (ha : a.Wf) (s : ByteArray) (hs : s.size ≤ 140737488351232) (w : World) (hM : Mo w) (h3 : ¬ 100 < s.size) (hgd : goodA a = true) :
    Calls Tryd.prog 5 #[acctV a, .string s] w fun e w' => e = .returned (.bool true) ∧ Below w.heap.size w w' := by
  have hm0 := (Hx.refl hM).new L.later a.cells 26
  have hal := Lib.hid (fun W (h : Hx Mo w W [(w.heap.size, a.cells)]) => h.ask L.later (acctAlive_any L W h.mo))
  have hg1 := Lib.hid (fun W (h : Hx Mo w W [(w.heap.size, a.cells)]) => (h.box _ (List.mem_cons_self ..)).acct h)
  have hw1 := wantA_wf ha
  have hbz := accB_size (wantA a)
  have htk := takeA_put ha s
  have hrs := restA_put (wantA a) s
  have hput := Lib.hid (fun W p (h : Wx Wr w W [(w.heap.size, a.cells)] p ByteArray.empty) => h.put (S := fun e => e = .returned (.tuple #[])) (fun F hF => L.put F W p ByteArray.empty a ha hF (by decide)))
  rw [ByteArray.empty_append] at hput
  generalize hx : wantA a = x at *
  have hsz : (accB x ++ s).size = 96 + s.size := by rw [ByteArray.size_append, hbz]
  have hs1 : s.size ≤ 100 := by omega
  have hgood := Lib.hid (fun W l p (h : Wx Wr w W l p (accB x)) => h.ask K (refgood_acct a W))
  have hagood := Lib.hid (fun W l p q (h : Rx Wr Rd w W l p (accB x) q (some s)) => h.ask K R (L.good a W ha))
  have hstr := Lib.hid (fun W l p (h : Wx Wr w W l p (accB x)) => h.ask K (S := fun e => e = .returned (.string (accB x))) (by obtain ⟨_, _, F, hF, _⟩ := h; exact K.str F W p _ hF (by omega)))
  have hstr2 := Lib.hid (fun W l p q (h : Rx Wr Rd w W l p (accB x) q (some s)) => h.ask K R (S := fun e => e = .returned (.string (accB x))) (by obtain ⟨_, _, F, G, hF, _⟩ := h; exact K.str F W p _ hF (by omega)))
  have hlen := Lib.hid (fun W l p q (h : Rx Wr Rd w W l p (accB x) q (some s)) => h.ask K R (S := fun e => e = .returned (.int .i64 (((accB x).size : Nat) : Int))) (by obtain ⟨_, _, F, G, hF, _⟩ := h; exact K.len F W p _ hF (by omega)))
  have hbyt := Lib.hid (fun W l p q (h : Rx Wr Rd w W l p (accB x) q (some s)) => h.ask K R (refbytes_acct x W))
  have hleft := Lib.hid (fun W l p q (h : Rx Wr Rd w W l p (accB x) q (some s)) => h.ask K R (S := fun e => e = .returned (.int .i64 ((leftN (some s) : Nat) : Int))) (by obtain ⟨_, _, F, G, _, hG, _⟩ := h; exact R.left G W q _ hG))
  rw [show leftN (some s) = s.size from rfl] at hleft
  rw [hbz, show ((96 : Nat) : Int) = 96 from rfl] at hlen
  have hrd := Lib.hid (fun W => R.read (accB x ++ s) W (by rw [ByteArray.size_append]; omega))
  have hget := Lib.hid (fun W l p q (h : Rx Wr Rd w W l p (accB x) q (some (accB x ++ s))) => h.get K (S := fun e => e = .returned (acctV (takeA (some (accB x ++ s))))) (fun G hG => L.get G W q _ hG))
  rw [htk, hrs] at hget
  have hnew1 := Lib.hid (fun W p (h : Wx Wr w W [(w.heap.size, a.cells)] p (accB x)) => h.new K x.cells 26)
  have hnew2 := Lib.hid (fun W c p q (h : Rx Wr Rd w W [(c, x.cells), (w.heap.size, a.cells)] p (accB x) q (some s)) => h.new K R x.cells 26)
  have hg3 := Lib.hid (fun W b c p q (h : Rx Wr Rd w W [(b, x.cells), (c, x.cells), (w.heap.size, a.cells)] p (accB x) q (some s)) => acct_three (h.box (w.heap.size, a.cells) (by simp)) (h.box (c, x.cells) (by simp)) (h.box (b, x.cells) (by simp)) h)
  have hg2 := Lib.hid (fun W c p (h : Wx Wr w W [(c, x.cells), (w.heap.size, a.cells)] p (accB x)) => acct_two (h.box (w.heap.size, a.cells) (by simp)) (h.box (c, x.cells) (by simp)) h)
  have hd := Lib.hid (fun W b c p q (h : Rx Wr Rd w W [(b, x.cells), (c, x.cells), (w.heap.size, a.cells)] p (accB x) q (some s)) => h.later K R ((Below.refl _ _).drew))
  have hx0 : x = a := by rw [← hx]; unfold wantA; rw [if_pos hgd]
  rw [hgd] at hgood hagood
  subst hx0
  rw [acctV_eq] at hput hgood hagood hbyt hget
  rw [acctV_eq]
  go_enter Tryd.func5, Tryd.ntmps5
  go_wp2_with fail
  refine (hal.out _ hm0).mono ?_
  rintro e w1 ⟨rfl, hm1⟩
  obtain ⟨z0, z1, z2, z3, z4, z5, z6, z7, z8, z9, z10, z11, z12, z13, z14, -⟩ := hg1.out _ hm1
  have hW2 := Wx.start K (l := [(w.heap.size, x.cells)]) hm1.bel hm1.box
  go_wp2_with fail
  refine (hput.out _ _ hW2).mono ?_
  rintro e w2 ⟨rfl, hW3⟩
  obtain ⟨z0, z1, z2, z3, z4, z5, z6, z7, z8, z9, z10, z11, z12, z13, z14, -⟩ := (hW3.box _ (List.mem_cons_self ..)).acct (trivial : True)
  go_wp2_with fail
  refine (hgood.out _ _ _ hW3).mono ?_
  rintro e w3 ⟨rfl, hW4⟩
  obtain ⟨z0, z1, z2, z3, z4, z5, z6, z7, z8, z9, z10, z11, z12, z13, z14, -⟩ := (hW4.box _ (List.mem_cons_self ..)).acct (trivial : True)
  have hW5 := hnew1.out _ _ hW4
  obtain ⟨W5, hw5⟩ : ∃ W5, W5 = w3.alloc (.cells x.cells.toArray 26) := ⟨_, rfl⟩
  rw [← hw5] at hW5
  dsimp only [Acct.cells] at hw5
  go_wp2_with fail
  rw [← hw5]
  clear z0 z1 z2 z3 z4 z5 z6 z7 z8 z9 z10 z11 z12 z13 z14 hW4 hW3 hW2 hm1 hm0 hal hg1 hput hgood
  replace hw5 := Lib.hid hw5
  refine (hstr.out _ _ _ hW5).mono ?_
  rintro e w6 ⟨rfl, hW6⟩
  go_wp2_with fail
  refine (hrd.out _).mono ?_
  rintro e w7 hp
  obtain ⟨q, rfl, hR7⟩ := hW6.read K hp
  go_wp2_with fail
  refine (hget.out _ _ _ _ hR7).mono ?_
  rintro e w8 ⟨rfl, hR8⟩
  have hR9 := hnew2.out _ _ _ _ hR8
  obtain ⟨W9, hw9⟩ : ∃ W9, W9 = w8.alloc (.cells x.cells.toArray 26) := ⟨_, rfl⟩
  rw [← hw9] at hR9
  dsimp only [Acct.cells] at hw9
  have hR9d := hd.out _ _ _ _ _ hR9
  clear hp hR7 hR8 hW6 hW5 hnew1 hnew2 hrd hget hstr
  go_wp2_with fail
  rw [← hw9]
  replace hw9 := Lib.hid hw9
  go_region_held3 (fun w' => w'.cell? ⟨w.heap.size, 0, none⟩ = some (.int .u64 ((hiN x.Id : Nat) : Int)) ∧ w'.cell? ⟨w.heap.size, 1, none⟩ = some (.int .u64 ((loN x.Id : Nat) : Int)) ∧ w'.cell? ⟨w.heap.size, 2, none⟩ = some (.int .u64 ((hiN x.DebitsPending : Nat) : Int)) ∧ w'.cell? ⟨w.heap.size, 3, none⟩ = some (.int .u64 ((loN x.DebitsPending : Nat) : Int)) ∧ w'.cell? ⟨w.heap.size, 4, none⟩ = some (.int .u64 ((hiN x.DebitsPosted : Nat) : Int)) ∧ w'.cell? ⟨w.heap.size, 5, none⟩ = some (.int .u64 ((loN x.DebitsPosted : Nat) : Int)) ∧ w'.cell? ⟨w.heap.size, 6, none⟩ = some (.int .u64 ((hiN x.CreditsPending : Nat) : Int)) ∧ w'.cell? ⟨w.heap.size, 7, none⟩ = some (.int .u64 ((loN x.CreditsPending : Nat) : Int)) ∧ w'.cell? ⟨w.heap.size, 8, none⟩ = some (.int .u64 ((hiN x.CreditsPosted : Nat) : Int)) ∧ w'.cell? ⟨w.heap.size, 9, none⟩ = some (.int .u64 ((loN x.CreditsPosted : Nat) : Int)) ∧ w'.cell? ⟨w.heap.size, 10, none⟩ = some (.int .i64 x.Ledger) ∧ w'.cell? ⟨w.heap.size, 11, none⟩ = some (.int .i64 x.Code) ∧ w'.cell? ⟨w.heap.size, 12, none⟩ = some (.int .i64 x.Flags) ∧ w'.cell? ⟨w.heap.size, 13, none⟩ = some (.int .i64 x.Stamp) ∧ w.heap.size < w'.heap.size ∧ w'.cell? ⟨w3.heap.size, 0, none⟩ = some (.int .u64 ((hiN x.Id : Nat) : Int)) ∧ w'.cell? ⟨w3.heap.size, 1, none⟩ = some (.int .u64 ((loN x.Id : Nat) : Int)) ∧ w'.cell? ⟨w3.heap.size, 2, none⟩ = some (.int .u64 ((hiN x.DebitsPending : Nat) : Int)) ∧ w'.cell? ⟨w3.heap.size, 3, none⟩ = some (.int .u64 ((loN x.DebitsPending : Nat) : Int)) ∧ w'.cell? ⟨w3.heap.size, 4, none⟩ = some (.int .u64 ((hiN x.DebitsPosted : Nat) : Int)) ∧ w'.cell? ⟨w3.heap.size, 5, none⟩ = some (.int .u64 ((loN x.DebitsPosted : Nat) : Int)) ∧ w'.cell? ⟨w3.heap.size, 6, none⟩ = some (.int .u64 ((hiN x.CreditsPending : Nat) : Int)) ∧ w'.cell? ⟨w3.heap.size, 7, none⟩ = some (.int .u64 ((loN x.CreditsPending : Nat) : Int)) ∧ w'.cell? ⟨w3.heap.size, 8, none⟩ = some (.int .u64 ((hiN x.CreditsPosted : Nat) : Int)) ∧ w'.cell? ⟨w3.heap.size, 9, none⟩ = some (.int .u64 ((loN x.CreditsPosted : Nat) : Int)) ∧ w'.cell? ⟨w3.heap.size, 10, none⟩ = some (.int .i64 x.Ledger) ∧ w'.cell? ⟨w3.heap.size, 11, none⟩ = some (.int .i64 x.Code) ∧ w'.cell? ⟨w3.heap.size, 12, none⟩ = some (.int .i64 x.Flags) ∧ w'.cell? ⟨w3.heap.size, 13, none⟩ = some (.int .i64 x.Stamp) ∧ w3.heap.size < w'.heap.size ∧ w'.cell? ⟨w8.heap.size, 0, none⟩ = some (.int .u64 ((hiN x.Id : Nat) : Int)) ∧ w'.cell? ⟨w8.heap.size, 1, none⟩ = some (.int .u64 ((loN x.Id : Nat) : Int)) ∧ w'.cell? ⟨w8.heap.size, 2, none⟩ = some (.int .u64 ((hiN x.DebitsPending : Nat) : Int)) ∧ w'.cell? ⟨w8.heap.size, 3, none⟩ = some (.int .u64 ((loN x.DebitsPending : Nat) : Int)) ∧ w'.cell? ⟨w8.heap.size, 4, none⟩ = some (.int .u64 ((hiN x.DebitsPosted : Nat) : Int)) ∧ w'.cell? ⟨w8.heap.size, 5, none⟩ = some (.int .u64 ((loN x.DebitsPosted : Nat) : Int)) ∧ w'.cell? ⟨w8.heap.size, 6, none⟩ = some (.int .u64 ((hiN x.CreditsPending : Nat) : Int)) ∧ w'.cell? ⟨w8.heap.size, 7, none⟩ = some (.int .u64 ((loN x.CreditsPending : Nat) : Int)) ∧ w'.cell? ⟨w8.heap.size, 8, none⟩ = some (.int .u64 ((hiN x.CreditsPosted : Nat) : Int)) ∧ w'.cell? ⟨w8.heap.size, 9, none⟩ = some (.int .u64 ((loN x.CreditsPosted : Nat) : Int)) ∧ w'.cell? ⟨w8.heap.size, 10, none⟩ = some (.int .i64 x.Ledger) ∧ w'.cell? ⟨w8.heap.size, 11, none⟩ = some (.int .i64 x.Code) ∧ w'.cell? ⟨w8.heap.size, 12, none⟩ = some (.int .i64 x.Flags) ∧ w'.cell? ⟨w8.heap.size, 13, none⟩ = some (.int .i64 x.Stamp) ∧ w8.heap.size < w'.heap.size ∧ Rx Wr Rd w w' [(w8.heap.size, x.cells), (w3.heap.size, x.cells), (w.heap.size, x.cells)] w1.heap.size (accB x) q (some s))
    (first | exact hg3.out _ _ _ _ _ hmx | exact hg3.out _ _ _ _ _ (hd.out _ _ _ _ _ hmx) | exact hg3.out _ _ _ _ _ hR9 | exact hg3.out _ _ _ _ _ hR9d)
    (first | (go_at_call 18; with_reducible refine (hagood.out _ _ _ _ (by first | exact hmx | exact hd.out _ _ _ _ _ hmx | exact hR9 | exact hR9d)).mono ?_; rintro e wx ⟨rfl, hmx⟩) | (go_at_call 16; with_reducible refine (hstr2.out _ _ _ _ (by first | exact hmx | exact hd.out _ _ _ _ _ hmx | exact hR9 | exact hR9d)).mono ?_; rintro e wx ⟨rfl, hmx⟩) | (go_at_call 19; with_reducible refine (hbyt.out _ _ _ _ (by first | exact hmx | exact hd.out _ _ _ _ _ hmx | exact hR9 | exact hR9d)).mono ?_; rintro e wx ⟨rfl, hmx⟩) | (go_at_call 20; with_reducible refine (hlen.out _ _ _ _ (by first | exact hmx | exact hd.out _ _ _ _ _ hmx | exact hR9 | exact hR9d)).mono ?_; rintro e wx ⟨rfl, hmx⟩) | (go_at_call 21; with_reducible refine (hleft.out _ _ _ _ (by first | exact hmx | exact hd.out _ _ _ _ _ hmx | exact hR9 | exact hR9d)).mono ?_; rintro e wx ⟨rfl, hmx⟩))
  all_goals
    rename_i hH
    go_wp2
    go_ret
    exact ⟨by first | rfl | (simp; done) | (simp; rw [IntKind.wrap_i64]; omega), hmx.bel⟩
end
end Go.Proofs.YtideooaefplbhaaDoor
