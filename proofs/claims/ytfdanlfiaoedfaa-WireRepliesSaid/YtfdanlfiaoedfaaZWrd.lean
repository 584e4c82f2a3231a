/- Stage 22, landed: a reply is read. No condition but sizes. -/
import Derived.Test.YtfdanlfiaoedfaaZWrb
import Derived.Test.YtfdanlfiaoedfaaZWqs
namespace Go.Proofs.Ytfdanlfiaoedfaa
open Go.RowKit Go.Sort Wm Cr

theorem readP_yes {s : ByteArray} (hc : (endB (repR (some s)) && fitsP (repT (some s))) = true) : readP s = some (repT (some s)) := by unfold readP; exact if_pos hc
theorem readP_no {s : ByteArray} (hc : (endB (repR (some s)) && fitsP (repT (some s))) = false) : readP s = none := by unfold readP; exact if_neg (by rw [hc]; exact Bool.false_ne_true)
/-- An empty reply, as a value. -/
def bareP : Value := .agg #[.int .i64 0, .slice none 0 0, .slice none 0 0, .slice none 0 0]
/-- What is read. -/
def ReadOutP (s : ByteArray) (e : Ending) (W' : World) : Prop :=
  (∃ q sl, readP s = some q ∧ e = .returned (.tuple #[repV q sl, .int .i64 0]) ∧ RepAt W' q sl) ∨ (readP s = none ∧ e = .returned (.tuple #[bareP, .int .i64 4]))
theorem readOutP_yes {s : ByteArray} (hc : (endB (repR (some s)) && fitsP (repT (some s))) = true) (sl : Reps) (W' : World) (h : RepAt W' (repT (some s)) sl) : ReadOutP s (.returned (.tuple #[repV (repT (some s)) sl, .int .i64 0])) W' :=
  .inl ⟨repT (some s), sl, readP_yes hc, rfl, h⟩
theorem readOutP_no {s : ByteArray} (hc : (endB (repR (some s)) && fitsP (repT (some s))) = false) (W' : World) : ReadOutP s (.returned (.tuple #[bareP, .int .i64 4])) W' := .inr ⟨readP_no hc, rfl⟩
theorem listV_short {α : Type} {v : Option ByteArray → α} {r : Option ByteArray → Option ByteArray} (st : Option ByteArray) : (listV v r st).length ≤ 140737488351232 := by
  unfold listV
  rw [sevV_length]
  have := (cntN_int st).2
  omega
set_option maxRecDepth 100000 in
set_option maxHeartbeats 4000000 in
theorem wireReadReply_any (s : ByteArray) (hs : s.size ≤ 16384) (W : World) : Calls Try.prog 19 #[.string s] W fun e W' => ReadOutP s e W' ∧ Below W.heap.size W W' := by
  have hyes := fun (hc : (endB (repR (some s)) && fitsP (repT (some s))) = true) => readOutP_yes hc
  have hno := fun (hc : (endB (repR (some s)) && fitsP (repT (some s))) = false) => readOutP_no hc
  have eT : repT (some s) = ⟨intT 1 (some s), listV resT (intR 1) (intR 1 (some s)), listV takeA restA (listR (intR 1) (intR 1 (some s))), listV takeT restT (listR restA (listR (intR 1) (intR 1 (some s))))⟩ := rfl
  have eR : repR (some s) = listR restT (listR restA (listR (intR 1) (intR 1 (some s)))) := rfl
  have h0 := (Held.start W).box isAsr_nil [.int .i64 0, .slice none 0 0, .slice none 0 0, .slice none 0 0] 43
  have LB : IsAsr (star (boxA W.heap.size [.int .i64 0, .slice none 0 0, .slice none 0 0, .slice none 0 0]) nilA) := (isAsr_box _ _).star isAsr_nil
  have k0 := Lib.hid (tapeRead_h LB h0 s hs)
  have kI := Lib.hid (fun w p B (L : IsAsr B) (h : Held W w (star (objA RdIs p (some s)) B)) => rInt_h L h 1 1 rfl)
  have kR := Lib.hid (fun w p B (L : IsAsr B) (h : Held W w (star (objA RdIs p (intR 1 (some s))) B)) => sevResu_h L h)
  have kA := Lib.hid (fun w p B (L : IsAsr B) (h : Held W w (star (objA RdIs p (listR (intR 1) (intR 1 (some s)))) B)) => sevAcct_h L h)
  have kT := Lib.hid (fun w p B (L : IsAsr B) (h : Held W w (star (objA RdIs p (listR restA (listR (intR 1) (intR 1 (some s))))) B)) => sevTran_h L h)
  have l1 : (listV resT (intR 1) (intR 1 (some s))).length ≤ 140737488351232 := listV_short _
  have l2 : (listV takeA restA (listR (intR 1) (intR 1 (some s)))).length ≤ 140737488351232 := listV_short _
  have l3 : (listV takeT restT (listR restA (listR (intR 1) (intR 1 (some s))))).length ≤ 140737488351232 := listV_short _
  rw [eT, eR] at hyes hno
  clear eT eR
  unfold bareP at hno
  generalize ReadOutP s = RO at *
  generalize intT 1 (some s) = er at *
  generalize intR 1 (some s) = st1 at *
  generalize listV resT (intR 1) st1 = rs at *
  generalize listR (intR 1) st1 = st2 at *
  generalize listV takeA restA st2 = acs at *
  generalize listR restA st2 = st3 at *
  generalize listV takeT restT st3 = ts at *
  generalize listR restT st3 = st4 at *
  have k3 := Lib.hid (fun w sl (h : RepAt w ⟨er, rs, acs, ts⟩ sl) => isReply_any ⟨er, rs, acs, ts⟩ sl w h)
  generalize fitsP ⟨er, rs, acs, ts⟩ = gq at *
  replace hyes := Lib.hid hyes
  replace hno := Lib.hid hno
  replace h0 := Lib.hid h0
  generalize hbR : W.heap.size = bR at *
  go_enter Try.func19, Try.ntmps19
  go_wp2_with fail
  refine k0.out.mono ?_
  rintro e w2 ⟨p, rfl, h2⟩
  clear k0 h0
  go_wp2_with fail
  refine (kI.out _ _ _ LB h2).mono ?_
  rintro e w3 ⟨rfl, h3⟩
  clear kI h2
  go_wp2_with fail
  refine (kR.out _ _ _ LB h3).mono ?_
  rintro e w4 ⟨vr, rfl, h4⟩
  obtain ⟨sR, sRc, rfl, -⟩ := RowAt.own resuW h4.rowAt.1
  clear kR h3
  have L4 := (isAsr_row 81 1 (.slice sR rs.length sRc) rs.length (rowK Resu.cells rs)).star LB
  go_wp2_with fail
  refine (kA.out _ _ _ L4 h4.pull).mono ?_
  rintro e w5 ⟨va, rfl, h5⟩
  obtain ⟨sA, sAc, rfl, -⟩ := RowAt.own acctW h5.rowAt.1
  clear kA h4
  have L5 := (isAsr_row 58 14 (.slice sA acs.length sAc) acs.length (rowK Acct.cells acs)).star L4
  go_wp2_with fail
  refine (kT.out _ _ _ L5 h5.pull).mono ?_
  rintro e w6 ⟨vt, rfl, h6⟩
  obtain ⟨sT, sTc, rfl, -⟩ := RowAt.own tranW h6.rowAt.1
  clear kT h5
  have L6 := (isAsr_row 61 16 (.slice sT ts.length sTc) ts.length (rowK Tran.cells ts)).star ((isAsr_rd p st4).star L5)
  replace hyes := Lib.hid (fun hc W' h => hyes.out hc ⟨sR, sRc, sA, sAc, sT, sTc⟩ W' h)
  replace k3 := Lib.hid (fun w h => k3.out w ⟨sR, sRc, sA, sAc, sT, sTc⟩ h)
  unfold repV at *
  dsimp only at *
  have h7 := h6.box L6 ((#[.int .i64 er, .slice sR rs.length sRc, .slice sA acs.length sAc, .slice sT ts.length sTc] : Array Value).toList) 43
  obtain ⟨w7, hw7⟩ : ∃ w7, w7 = w6.alloc (.cells (#[.int .i64 er, .slice sR rs.length sRc, .slice sA acs.length sAc, .slice sT ts.length sTc] : Array Value) 43) := ⟨_, rfl⟩
  change Held W (w6.alloc (.cells (#[.int .i64 er, .slice sR rs.length sRc, .slice sA acs.length sAc, .slice sT ts.length sTc] : Array Value) 43)) _ at h7
  rw [← hw7] at h7
  have LQ := (isAsr_box w6.heap.size ((#[.int .i64 er, .slice sR rs.length sRc, .slice sA acs.length sAc, .slice sT ts.length sTc] : Array Value).toList)).star L6
  have hq := h7.boxAt
  have z0 := hq.1.spot 0 _ rfl; have z1 := hq.1.spot 1 _ rfl; have z2 := hq.1.spot 2 _ rfl; have z3 := hq.1.spot 3 _ rfl
  have zl := hq.1.lt
  clear hq h6
  have ke := Lib.hid (Held.ask (isAsr_rd _ _) ((isAsr_box w6.heap.size ((#[.int .i64 er, .slice sR rs.length sRc, .slice sA acs.length sAc, .slice sT ts.length sTc] : Array Value).toList)).star ((isAsr_row 61 16 (.slice sT ts.length sTc) ts.length (rowK Tran.cells ts)).star L5)) (S := fun e _ => e = .returned (.bool (endB st4))) h7.pull3 (fun F hF => landedRd.fin F w7 p st4 hF))
  replace h7 := Lib.hid h7
  replace hw7 := Lib.hid hw7
  go_wp2_with fail
  rw [← hw7.out]
  clear hw7
  generalize w6.heap.size = bQ at *
  refine ke.out.mono ?_
  rintro e w8 ⟨rfl, h8⟩
  replace h8 := h8.push3
  clear ke h7 z0 z1 z2 z3 zl
  generalize endB st4 = ed at *
  cases ed with
  | false =>
    replace hno := Lib.hid (hno.out rfl)
    clear hyes k3
    have h9 := h8.pull6.fill ((isAsr_box bQ ((#[.int .i64 er, .slice sR rs.length sRc, .slice sA acs.length sAc, .slice sT ts.length sTc] : Array Value).toList)).star ((isAsr_row 61 16 (.slice sT ts.length sTc) ts.length (rowK Tran.cells ts)).star ((isAsr_rd p st4).star ((isAsr_row 58 14 (.slice sA acs.length sAc) acs.length (rowK Acct.cells acs)).star ((isAsr_row 81 1 (.slice sR rs.length sRc) rs.length (rowK Resu.cells rs)).star isAsr_nil))))) (vs := (#[.int .i64 0, .slice none 0 0, .slice none 0 0, .slice none 0 0] : Array Value).toList) (show 4 = 4 from rfl)
    have hth := Lib.hid (box_thereAt (o := 0) (n := 4) h8.pull6.boxAt.1 h8.pull6.boxAt.2.1 (Nat.le_refl 4))
    obtain ⟨w9, hw9⟩ : ∃ w9, w9 = w8.setCells bR 0 (#[.int .i64 0, .slice none 0 0, .slice none 0 0, .slice none 0 0] : Array Value).toList := ⟨_, rfl⟩
    rw [← hw9] at h9
    replace h9 := Lib.hid h9
    replace hw9 := Lib.hid hw9
    clear h8
    go_wp2_with (refine wpList_store_mid rfl 43 _ _ rfl bR 0 _ rfl rfl hth.out (by kernel_rfl) (by kernel_rfl) ?_; rw [← hw9.out])
    have hb := h9.out.boxAt.1
    have e0 := hb.spot 0 _ rfl; have e1 := hb.spot 1 _ rfl; have e2 := hb.spot 2 _ rfl; have e3 := hb.spot 3 _ rfl
    refine bodyPost_ret (v := .tuple #[.agg (#[.int .i64 0, .slice none 0 0, .slice none 0 0, .slice none 0 0] : Array Value), .int .i64 4]) ?_ rfl ⟨hno.out w9, by rw [← hbR]; exact h9.out.below⟩
    simp [results, Try.results19, go_sem, e0, e1, e2, e3]
  | true =>
    have hq := h8.boxAt
    have z0 := hq.1.spot 0 _ rfl; have z1 := hq.1.spot 1 _ rfl; have z2 := hq.1.spot 2 _ rfl; have z3 := hq.1.spot 3 _ rfl
    have zl := hq.1.lt
    clear hq
    have kg := Lib.hid (k3.out w8 ⟨RowAt.owns resuW h8.pull5.rowAt.1, l1, RowAt.owns acctW h8.pull4.rowAt.1, l2, RowAt.owns tranW h8.pull.rowAt.1, l3⟩)
    replace h8 := Lib.hid h8
    go_wp2_with fail
    refine kg.out.mono ?_
    rintro e w10 ⟨rfl, hb10⟩
    have h10 := Held.later LQ h8.out hb10
    clear kg h8 k3 z0 z1 z2 z3 zl hb10
    cases gq with
    | false =>
      replace hno := Lib.hid (hno.out rfl)
      clear hyes
      have h9 := h10.pull6.fill ((isAsr_box bQ ((#[.int .i64 er, .slice sR rs.length sRc, .slice sA acs.length sAc, .slice sT ts.length sTc] : Array Value).toList)).star ((isAsr_row 61 16 (.slice sT ts.length sTc) ts.length (rowK Tran.cells ts)).star ((isAsr_rd p st4).star ((isAsr_row 58 14 (.slice sA acs.length sAc) acs.length (rowK Acct.cells acs)).star ((isAsr_row 81 1 (.slice sR rs.length sRc) rs.length (rowK Resu.cells rs)).star isAsr_nil))))) (vs := (#[.int .i64 0, .slice none 0 0, .slice none 0 0, .slice none 0 0] : Array Value).toList) (show 4 = 4 from rfl)
      have hth := Lib.hid (box_thereAt (o := 0) (n := 4) h10.pull6.boxAt.1 h10.pull6.boxAt.2.1 (Nat.le_refl 4))
      obtain ⟨w9, hw9⟩ : ∃ w9, w9 = w10.setCells bR 0 (#[.int .i64 0, .slice none 0 0, .slice none 0 0, .slice none 0 0] : Array Value).toList := ⟨_, rfl⟩
      rw [← hw9] at h9
      replace h9 := Lib.hid h9
      replace hw9 := Lib.hid hw9
      clear h10
      go_wp2_with (refine wpList_store_mid rfl 43 _ _ rfl bR 0 _ rfl rfl hth.out (by kernel_rfl) (by kernel_rfl) ?_; rw [← hw9.out])
      have hb := h9.out.boxAt.1
      have e0 := hb.spot 0 _ rfl; have e1 := hb.spot 1 _ rfl; have e2 := hb.spot 2 _ rfl; have e3 := hb.spot 3 _ rfl
      refine bodyPost_ret (v := .tuple #[.agg (#[.int .i64 0, .slice none 0 0, .slice none 0 0, .slice none 0 0] : Array Value), .int .i64 4]) ?_ rfl ⟨hno.out w9, by rw [← hbR]; exact h9.out.below⟩
      simp [results, Try.results19, go_sem, e0, e1, e2, e3]
    | true =>
      replace hyes := Lib.hid (hyes.out rfl)
      clear hno
      have hq := h10.boxAt
      have z0 := hq.1.spot 0 _ rfl; have z1 := hq.1.spot 1 _ rfl; have z2 := hq.1.spot 2 _ rfl; have z3 := hq.1.spot 3 _ rfl
      have zl := hq.1.lt
      clear hq
      have h9 := h10.pull6.fill ((isAsr_box bQ ((#[.int .i64 er, .slice sR rs.length sRc, .slice sA acs.length sAc, .slice sT ts.length sTc] : Array Value).toList)).star ((isAsr_row 61 16 (.slice sT ts.length sTc) ts.length (rowK Tran.cells ts)).star ((isAsr_rd p st4).star ((isAsr_row 58 14 (.slice sA acs.length sAc) acs.length (rowK Acct.cells acs)).star ((isAsr_row 81 1 (.slice sR rs.length sRc) rs.length (rowK Resu.cells rs)).star isAsr_nil))))) (vs := (#[.int .i64 er, .slice sR rs.length sRc, .slice sA acs.length sAc, .slice sT ts.length sTc] : Array Value).toList) (show 4 = 4 from rfl)
      have hth := Lib.hid (box_thereAt (o := 0) (n := 4) h10.pull6.boxAt.1 h10.pull6.boxAt.2.1 (Nat.le_refl 4))
      obtain ⟨w9, hw9⟩ : ∃ w9, w9 = w10.setCells bR 0 (#[.int .i64 er, .slice sR rs.length sRc, .slice sA acs.length sAc, .slice sT ts.length sTc] : Array Value).toList := ⟨_, rfl⟩
      rw [← hw9] at h9
      have hat9 := Lib.hid (show RepAt w9 ⟨er, rs, acs, ts⟩ ⟨sR, sRc, sA, sAc, sT, sTc⟩ from ⟨RowAt.owns resuW h9.pull6.rowAt.1, l1, RowAt.owns acctW h9.pull5.rowAt.1, l2, RowAt.owns tranW h9.pull3.rowAt.1, l3⟩)
      replace h9 := Lib.hid h9
      replace hw9 := Lib.hid hw9
      clear h10
      go_wp2_with (refine wpList_store_mid rfl 43 _ _ rfl bR 0 _ rfl rfl hth.out (by kernel_rfl) (by kernel_rfl) ?_; rw [← hw9.out])
      have hb := h9.out.boxAt.1
      have e0 := hb.spot 0 _ rfl; have e1 := hb.spot 1 _ rfl; have e2 := hb.spot 2 _ rfl; have e3 := hb.spot 3 _ rfl
      refine bodyPost_ret (v := .tuple #[.agg (#[.int .i64 er, .slice sR rs.length sRc, .slice sA acs.length sAc, .slice sT ts.length sTc] : Array Value), .int .i64 0]) ?_ rfl ⟨hyes.out w9 hat9.out, by rw [← hbR]; exact h9.out.below⟩
      simp [results, Try.results19, go_sem, e0, e1, e2, e3]
end Go.Proofs.Ytfdanlfiaoedfaa
