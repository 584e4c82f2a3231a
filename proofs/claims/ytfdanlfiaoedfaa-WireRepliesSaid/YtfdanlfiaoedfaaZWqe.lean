/- Stage 22: which requests have bytes: the landed Good, whole, and the document's. No condition. -/
import Derived.Test.YtfdanlfiaoedfaaZWqd
namespace Go.Proofs.Ytfdanlfiaoedfaa
open Go.RowKit Go.Sort Wm Cr

set_option maxRecDepth 100000 in
set_option maxHeartbeats 2000000 in
theorem askGood_any (q : Req) (s : Reqs) (w : World) : Calls Try.prog 33 #[reqV q s] w fun e w' => e = .returned (.bool (good20 q)) ∧ Below w.heap.size w w' := by
  have hz := Lib.hid (fun (cs : Array Value) (t : TypeId) => (Below.refl w.heap.size w).alloc (Nat.le_refl _) (.cells cs t))
  have hz2 := Lib.hid (fun (cs ds : Array Value) (t u : TypeId) => ((Below.refl w.heap.size w).alloc (Nat.le_refl _) (.cells cs t)).alloc (by simp) (.cells ds u))
  obtain ⟨op, acs, ts, now, ids, ⟨ac, fr, tt, db, cr, la, li⟩⟩ := q
  obtain ⟨sA, sAc, sT, sTc, sI, sIc⟩ := s
  unfold reqV
  unfold good20 fewB goodF
  dsimp only at *
  generalize acs.length = na at *
  generalize ts.length = nt at *
  generalize ids.length = ni at *
  go_enter Try.func33, Try.ntmps33
  go_wp2

  all_goals
    go_ret
    exact ⟨by first | rfl | (simp; done) | (simp_all; done) | (refine congrArg (fun b : Bool => Ending.returned (.bool b)) ?_; rw [Bool.eq_iff_iff]; simp; omega) | (refine congrArg (fun b : Bool => Ending.returned (.bool b)) ?_; rw [Bool.eq_iff_iff]; simp_all; omega), by first | exact hz.out _ _ | exact hz2.out _ _ _ _⟩
theorem goodQ_split (q : Req) : goodQ q = if q.Op = 1 then good19 q && q.Accounts.all goodA else if q.Op = 2 then good19 q && q.Transfers.all goodT else good19 q || good20 q := by
  unfold goodQ good19 good20
  by_cases h1 : q.Op = 1
  · simp only [if_pos h1]
  by_cases h2 : q.Op = 2
  · simp only [if_neg h1, if_pos h2]
  by_cases h3 : q.Op = 3
  · have n4 : ¬ q.Op = 4 := by omega
    have n5 : ¬ q.Op = 5 := by omega
    have n6 : ¬ q.Op = 6 := by omega
    simp [h3]
  by_cases h4 : q.Op = 4
  · simp [h4]
  by_cases h5 : q.Op = 5
  · simp [h5]
  by_cases h6 : q.Op = 6
  · simp [h6]
  · simp [h1, h2, h3, h4, h5, h6]
theorem BoxAt.req {W : World} {b : Nat} {q : Req} {s : Reqs} (h : BoxAt W b (q.cells s)) : W.cell? ⟨b, 0, none⟩ = some (.int .i64 q.Op) ∧ W.cell? ⟨b, 1, none⟩ = some (.slice s.Accounts q.Accounts.length s.Accountsc) ∧ W.cell? ⟨b, 2, none⟩ = some (.slice s.Transfers q.Transfers.length s.Transfersc) ∧ W.cell? ⟨b, 3, none⟩ = some (.int .i64 q.Now) ∧ W.cell? ⟨b, 4, none⟩ = some (.slice s.Ids q.Ids.length s.Idsc) ∧ W.cell? ⟨b, 5, none⟩ = some (.int .u64 ((hiN q.Filter.Account : Nat) : Int)) ∧ W.cell? ⟨b, 6, none⟩ = some (.int .u64 ((loN q.Filter.Account : Nat) : Int)) ∧ W.cell? ⟨b, 7, none⟩ = some (.int .i64 q.Filter.From) ∧ W.cell? ⟨b, 8, none⟩ = some (.int .i64 q.Filter.To) ∧ W.cell? ⟨b, 9, none⟩ = some (.bool q.Filter.Debits) ∧ W.cell? ⟨b, 10, none⟩ = some (.bool q.Filter.Credits) ∧ W.cell? ⟨b, 11, none⟩ = some (.bool q.Filter.Latest) ∧ W.cell? ⟨b, 12, none⟩ = some (.int .i64 q.Filter.Limit) ∧ b < W.heap.size :=
  ⟨h.spot 0 _ rfl, h.spot 1 _ rfl, h.spot 2 _ rfl, h.spot 3 _ rfl, h.spot 4 _ rfl, h.spot 5 _ rfl, h.spot 6 _ rfl, h.spot 7 _ rfl, h.spot 8 _ rfl, h.spot 9 _ rfl, h.spot 10 _ rfl, h.spot 11 _ rfl, h.spot 12 _ rfl, h.lt⟩
set_option maxRecDepth 100000 in
set_option maxHeartbeats 4000000 in
theorem wireGood_any (q : Req) (s : Reqs) (w : World) (h : ReqAt w q s) : Calls Try.prog 13 #[reqV q s] w fun e w' => e = .returned (.bool (goodQ q)) ∧ Below w.heap.size w w' := by
  have hz := Lib.hid (fun (cs : Array Value) (t : TypeId) => (Below.refl w.heap.size w).alloc (Nat.le_refl _) (.cells cs t))
  have hbx := BoxAt.new w (q.cells s) 31
  have hsp := goodQ_split q
  have k19 := fun W => engGood_any q s W
  have k20 := fun W => askGood_any q s W
  have kA := Lib.hid (fun W (hb : Below w.heap.size w W) => allAcct_any q.Accounts s.Accounts s.Accountsc W (h.Accounts.later hb) h.Accountsl)
  have kT := Lib.hid (fun W (hb : Below w.heap.size w W) => allTran_any q.Transfers s.Transfers s.Transfersc W (h.Transfers.later hb) h.Transfersl)
  generalize goodQ q = r at *
  generalize good19 q = g19 at *
  generalize good20 q = g20 at *
  clear h
  obtain ⟨op, acs, ts, now, ids, ⟨ac, fr, tt, db, cr, la, li⟩⟩ := q
  obtain ⟨sA, sAc, sT, sTc, sI, sIc⟩ := s
  unfold reqV at *
  dsimp only at *
  replace k19 := Lib.hid k19
  replace k20 := Lib.hid k20
  replace hbx := Lib.hid hbx
  by_cases h1 : op = 1
  · subst h1
    rw [if_pos rfl] at hsp
    generalize acs.all goodA = gA at *
    go_enter Try.func13, Try.ntmps13
    go_wp2_with fail
    refine (k19.out _).mono ?_
    rintro e w2 ⟨rfl, hb2⟩
    obtain ⟨z0, z1, z2, z3, z4, z5, z6, z7, z8, z9, z10, z11, z12, zl⟩ := (hbx.out.later hb2).req
    have hbe := (hz.out _ _).trans (hb2.mono (hz.out _ _).size)
    dsimp only at z0 z1 z2 z3 z4 z5 z6 z7 z8 z9 z10 z11 z12 zl
    clear hb2 k19 k20
    cases g19 with
    | false =>
      have hbe := Lib.hid hbe
      go_wp2
      go_ret
      exact ⟨by rw [hsp]; rfl, hbe.out⟩
    | true =>
      have kA1 := kA.out w2 hbe
      replace hbe := Lib.hid hbe
      go_wp2_with fail
      refine kA1.mono ?_
      rintro e w3 ⟨rfl, hb3⟩
      have hfin := Lib.hid (hbe.out.trans (hb3.mono hbe.out.size))
      clear hb3 z0 z1 z2 z3 z4 z5 z6 z7 z8 z9 z10 z11 z12 zl
      go_wp2
      go_ret
      exact ⟨by rw [hsp]; rfl, hfin.out⟩
  by_cases h2 : op = 2
  · subst h2
    rw [if_neg (by decide), if_pos rfl] at hsp
    generalize ts.all goodT = gA at *
    go_enter Try.func13, Try.ntmps13
    go_wp2_with fail
    refine (k19.out _).mono ?_
    rintro e w2 ⟨rfl, hb2⟩
    obtain ⟨z0, z1, z2, z3, z4, z5, z6, z7, z8, z9, z10, z11, z12, zl⟩ := (hbx.out.later hb2).req
    have hbe := (hz.out _ _).trans (hb2.mono (hz.out _ _).size)
    dsimp only at z0 z1 z2 z3 z4 z5 z6 z7 z8 z9 z10 z11 z12 zl
    clear hb2 k19 k20
    cases g19 with
    | false =>
      have hbe := Lib.hid hbe
      go_wp2
      go_ret
      exact ⟨by rw [hsp]; rfl, hbe.out⟩
    | true =>
      have kA1 := kT.out w2 hbe
      replace hbe := Lib.hid hbe
      go_wp2_with fail
      refine kA1.mono ?_
      rintro e w3 ⟨rfl, hb3⟩
      have hfin := Lib.hid (hbe.out.trans (hb3.mono hbe.out.size))
      clear hb3 z0 z1 z2 z3 z4 z5 z6 z7 z8 z9 z10 z11 z12 zl
      go_wp2
      go_ret
      exact ⟨by rw [hsp]; rfl, hfin.out⟩
  rw [if_neg h1, if_neg h2] at hsp
  have n1 : decide (op = 1) = false := decide_eq_false h1
  have n2 : decide (op = 2) = false := decide_eq_false h2
  go_enter Try.func13, Try.ntmps13
  go_wp2_with fail
  refine (k19.out _).mono ?_
  rintro e w2 ⟨rfl, hb2⟩
  obtain ⟨z0, z1, z2, z3, z4, z5, z6, z7, z8, z9, z10, z11, z12, zl⟩ := (hbx.out.later hb2).req
  have hbe := (hz.out _ _).trans (hb2.mono (hz.out _ _).size)
  dsimp only at z0 z1 z2 z3 z4 z5 z6 z7 z8 z9 z10 z11 z12 zl
  clear hb2 k19 kA kT
  cases g19 with
  | true =>
    have hbe := Lib.hid hbe
    go_wp2
    go_ret
    exact ⟨by rw [hsp]; rfl, hbe.out⟩
  | false =>
    replace hbe := Lib.hid hbe
    go_wp2_with fail
    refine (k20.out _).mono ?_
    rintro e w3 ⟨rfl, hb3⟩
    have hfin := Lib.hid (hbe.out.trans (hb3.mono hbe.out.size))
    clear hb3 z0 z1 z2 z3 z4 z5 z6 z7 z8 z9 z10 z11 z12 zl
    go_wp2
    go_ret
    exact ⟨by rw [hsp]; rfl, hfin.out⟩
end Go.Proofs.Ytfdanlfiaoedfaa
