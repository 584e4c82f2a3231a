/- Stage 22, landed: a request is read. No condition but sizes. -/
import Derived.Test.YtfdanlfiaoedfaaZWqna
import Derived.Test.YtfdanlfiaoedfaaZWqnb
import Derived.Test.YtfdanlfiaoedfaaZWqnc
import Derived.Test.YtfdanlfiaoedfaaZWqnd
namespace Go.Proofs.Ytfdanlfiaoedfaa
open Go.RowKit Go.Sort Wm Cr

section
variable {w W : World} {R : Asr} {p : Nat} {st : Option ByteArray}
theorem getRequest_h (L : IsAsr R) (h : Held w W (star (objA RdIs p st) R)) :
    Calls Try.prog 35 #[.pointer (some ⟨p, 0, none⟩)] W fun e w2 => ∃ s, e = .returned (reqV (bodyV (intT 1 st) (intR 1 st)) s) ∧ Held w w2 (star (rowsA (bodyV (intT 1 st) (intR 1 st)) s) (star (objA RdIs p (bodyR (intT 1 st) (intR 1 st))) R)) := by
  by_cases h1 : intT 1 st = 1
  · exact getRequest1_h L h h1
  by_cases h2 : intT 1 st = 2
  · exact getRequest2_h L h h2
  by_cases h3 : intT 1 st = 3
  · exact getRequest3_h L h h3
  by_cases h4 : intT 1 st = 4
  · exact getRequest4_h L h h4
  by_cases h5 : intT 1 st = 5
  · exact getRequest5_h L h h5
  by_cases h6 : intT 1 st = 6
  · exact getRequest6_h L h h6
  exact getRequest7_h L h (by omega)
end
theorem tapeRead_h {w W : World} {B : Asr} (L : IsAsr B) (h : Held w W B) (s : ByteArray) (hs : s.size ≤ 16384) : Calls Try.prog 34 #[.string s] W fun e w2 => ∃ p, e = .returned (.pointer (some ⟨p, 0, none⟩)) ∧ Held w w2 (star (objA RdIs p (some s)) B) := by
  refine (landedRd.read s W hs).mono ?_
  rintro e w2 ⟨p, F, rfl, h1, h2, h3⟩
  exact ⟨p, rfl, h.more L h3 ⟨F, h1, h2⟩⟩
theorem readQ_yes {s : ByteArray} (hc : (endB (restQ s) && goodQ (takeQ s)) = true) : readQ s = some (takeQ s) := by unfold readQ; exact if_pos hc
theorem readQ_no {s : ByteArray} (hc : (endB (restQ s) && goodQ (takeQ s)) = false) : readQ s = none := by unfold readQ; exact if_neg (by rw [hc]; exact Bool.false_ne_true)
/-- An empty request, as a value. -/
def bareV : Value := .agg #[.int .i64 0, .slice none 0 0, .slice none 0 0, .int .i64 0, .slice none 0 0, .int .u64 0, .int .u64 0, .int .i64 0, .int .i64 0, .bool false, .bool false, .bool false, .int .i64 0]
/-- What is read. -/
def ReadOut (s : ByteArray) (e : Ending) (W' : World) : Prop :=
  (∃ q sl, readQ s = some q ∧ e = .returned (.tuple #[reqV q sl, .int .i64 0]) ∧ ReqAt W' q sl) ∨ (readQ s = none ∧ e = .returned (.tuple #[bareV, .int .i64 4]))
theorem readOut_yes {s : ByteArray} (hc : (endB (restQ s) && goodQ (takeQ s)) = true) (sl : Reqs) (W' : World) (h : ReqAt W' (takeQ s) sl) : ReadOut s (.returned (.tuple #[reqV (takeQ s) sl, .int .i64 0])) W' :=
  .inl ⟨takeQ s, sl, readQ_yes hc, rfl, h⟩
theorem readOut_no {s : ByteArray} (hc : (endB (restQ s) && goodQ (takeQ s)) = false) (W' : World) : ReadOut s (.returned (.tuple #[bareV, .int .i64 4])) W' := .inr ⟨readQ_no hc, rfl⟩
theorem getRead_h {s : ByteArray} {w W : World} {p : Nat} {B : Asr} (L : IsAsr B) (h : Held w W (star (objA RdIs p (some s)) B)) :
    Calls Try.prog 35 #[.pointer (some ⟨p, 0, none⟩)] W fun e w2 => ∃ sl, e = .returned (reqV (takeQ s) sl) ∧ Held w w2 (star (rowsA (takeQ s) sl) (star (objA RdIs p (restQ s)) B)) := by
  unfold takeQ restQ
  exact getRequest_h L h
set_option maxRecDepth 100000 in
set_option maxHeartbeats 4000000 in
theorem wireRead_any (s : ByteArray) (hs : s.size ≤ 16384) (W : World) : Calls Try.prog 14 #[.string s] W fun e W' => ReadOut s e W' ∧ Below W.heap.size W W' := by
  have hyes := fun (hc : (endB (restQ s) && goodQ (takeQ s)) = true) => readOut_yes hc
  have hno := fun (hc : (endB (restQ s) && goodQ (takeQ s)) = false) => readOut_no hc
  have h0 := (Held.start W).box isAsr_nil [.int .i64 0, .slice none 0 0, .slice none 0 0, .int .i64 0, .slice none 0 0, .int .u64 0, .int .u64 0, .int .i64 0, .int .i64 0, .bool false, .bool false, .bool false, .int .i64 0] 31
  have LB : IsAsr (star (boxA W.heap.size [.int .i64 0, .slice none 0 0, .slice none 0 0, .int .i64 0, .slice none 0 0, .int .u64 0, .int .u64 0, .int .i64 0, .int .i64 0, .bool false, .bool false, .bool false, .int .i64 0]) nilA) := (isAsr_box _ _).star isAsr_nil
  have k0 := Lib.hid (tapeRead_h LB h0 s hs)
  have k1 := Lib.hid (fun w p (h : Held W w (star (objA RdIs p (some s)) (star (boxA W.heap.size [.int .i64 0, .slice none 0 0, .slice none 0 0, .int .i64 0, .slice none 0 0, .int .u64 0, .int .u64 0, .int .i64 0, .int .i64 0, .bool false, .bool false, .bool false, .int .i64 0]) nilA))) => getRead_h LB h)
  have k3 := Lib.hid (fun w sl (h : ReqAt w (takeQ s) sl) => wireGood_any (takeQ s) sl w h)
  unfold bareV at hno
  generalize ReadOut s = RO at *
  generalize takeQ s = q at *
  generalize restQ s = rst at *
  generalize goodQ q = gq at *
  replace hyes := Lib.hid hyes
  replace hno := Lib.hid hno
  replace h0 := Lib.hid h0
  generalize hbR : W.heap.size = bR at *
  go_enter Try.func14, Try.ntmps14
  go_wp2_with fail
  refine k0.out.mono ?_
  rintro e w2 ⟨p, rfl, h2⟩
  clear k0 h0
  go_wp2_with fail
  refine (k1.out _ _ h2).mono ?_
  rintro e w3 ⟨sl, rfl, h3⟩
  clear k1 h2
  have LR : IsAsr (rowsA q sl) := isAsr_rows q sl
  obtain ⟨op, acs, ts, now, ids, ⟨ac, fr, tt, db, cr, la, li⟩⟩ := q
  obtain ⟨sA, sAc, sT, sTc, sI, sIc⟩ := sl
  replace hyes := Lib.hid (fun hc W' h => hyes.out hc ⟨sA, sAc, sT, sTc, sI, sIc⟩ W' h)
  replace k3 := Lib.hid (fun w h => k3.out w ⟨sA, sAc, sT, sTc, sI, sIc⟩ h)
  unfold reqV at *
  dsimp only at *
  have h4 := (h3.box (LR.star ((isAsr_rd _ _).star LB)) (#[.int .i64 op, .slice sA acs.length sAc, .slice sT ts.length sTc, .int .i64 now, .slice sI ids.length sIc, .int .u64 ((hiN ac : Nat) : Int), .int .u64 ((loN ac : Nat) : Int), .int .i64 fr, .int .i64 tt, .bool db, .bool cr, .bool la, .int .i64 li] : Array Value).toList 31).push3
  obtain ⟨w4, hw4⟩ : ∃ w4, w4 = w3.alloc (.cells (#[.int .i64 op, .slice sA acs.length sAc, .slice sT ts.length sTc, .int .i64 now, .slice sI ids.length sIc, .int .u64 ((hiN ac : Nat) : Int), .int .u64 ((loN ac : Nat) : Int), .int .i64 fr, .int .i64 tt, .bool db, .bool cr, .bool la, .int .i64 li] : Array Value) 31) := ⟨_, rfl⟩
  change Held W (w3.alloc (.cells (#[.int .i64 op, .slice sA acs.length sAc, .slice sT ts.length sTc, .int .i64 now, .slice sI ids.length sIc, .int .u64 ((hiN ac : Nat) : Int), .int .u64 ((loN ac : Nat) : Int), .int .i64 fr, .int .i64 tt, .bool db, .bool cr, .bool la, .int .i64 li] : Array Value) 31)) _ at h4
  rw [← hw4] at h4
  have hq := h4.pull3.boxAt
  have z0 := hq.1.spot 0 _ rfl; have z1 := hq.1.spot 1 _ rfl; have z2 := hq.1.spot 2 _ rfl; have z3 := hq.1.spot 3 _ rfl; have z4 := hq.1.spot 4 _ rfl; have z5 := hq.1.spot 5 _ rfl; have z6 := hq.1.spot 6 _ rfl; have z7 := hq.1.spot 7 _ rfl; have z8 := hq.1.spot 8 _ rfl; have z9 := hq.1.spot 9 _ rfl; have z10 := hq.1.spot 10 _ rfl; have z11 := hq.1.spot 11 _ rfl; have z12 := hq.1.spot 12 _ rfl
  have zl := hq.1.lt
  clear hq h3
  have ke := Lib.hid (Held.ask (isAsr_rd _ _) (LR.star ((isAsr_box _ _).star LB)) (S := fun e _ => e = .returned (.bool (endB rst))) h4.pull (fun F hF => landedRd.fin F w4 p rst hF))
  replace h4 := Lib.hid h4
  replace hw4 := Lib.hid hw4
  go_wp2_with fail
  rw [← hw4.out]
  clear hw4
  generalize w3.heap.size = bQ at *
  refine ke.out.mono ?_
  rintro e w5 ⟨rfl, h5⟩
  replace h5 := h5.pull
  clear ke h4 z0 z1 z2 z3 z4 z5 z6 z7 z8 z9 z10 z11 z12 zl
  generalize endB rst = er at *
  cases er with
  | false =>
    replace hno := Lib.hid (hno.out rfl)
    clear hyes k3
    have h8 := h5.pull4
    have h9 := h8.fill ((isAsr_rows _ _).star ((isAsr_rd _ _).star ((isAsr_box _ _).star isAsr_nil))) (vs := (#[.int .i64 0, .slice none 0 0, .slice none 0 0, .int .i64 0, .slice none 0 0, .int .u64 0, .int .u64 0, .int .i64 0, .int .i64 0, .bool false, .bool false, .bool false, .int .i64 0] : Array Value).toList) (show 13 = 13 from rfl)
    have hth := Lib.hid (box_thereAt (o := 0) (n := 13) h8.boxAt.1 h8.boxAt.2.1 (Nat.le_refl 13))
    obtain ⟨w9, hw9⟩ : ∃ w9, w9 = w5.setCells bR 0 (#[.int .i64 0, .slice none 0 0, .slice none 0 0, .int .i64 0, .slice none 0 0, .int .u64 0, .int .u64 0, .int .i64 0, .int .i64 0, .bool false, .bool false, .bool false, .int .i64 0] : Array Value).toList := ⟨_, rfl⟩
    rw [← hw9] at h9
    replace h9 := Lib.hid h9
    replace hw9 := Lib.hid hw9
    clear h5 h8
    go_wp2_with (refine wpList_store_mid rfl 31 _ _ rfl bR 0 _ rfl rfl hth.out (by kernel_rfl) (by kernel_rfl) ?_; rw [← hw9.out])
    have hb := h9.out.boxAt.1
    have e0 := hb.spot 0 _ rfl; have e1 := hb.spot 1 _ rfl; have e2 := hb.spot 2 _ rfl; have e3 := hb.spot 3 _ rfl; have e4 := hb.spot 4 _ rfl; have e5 := hb.spot 5 _ rfl; have e6 := hb.spot 6 _ rfl; have e7 := hb.spot 7 _ rfl; have e8 := hb.spot 8 _ rfl; have e9 := hb.spot 9 _ rfl; have e10 := hb.spot 10 _ rfl; have e11 := hb.spot 11 _ rfl; have e12 := hb.spot 12 _ rfl
    refine bodyPost_ret (v := .tuple #[.agg (#[.int .i64 0, .slice none 0 0, .slice none 0 0, .int .i64 0, .slice none 0 0, .int .u64 0, .int .u64 0, .int .i64 0, .int .i64 0, .bool false, .bool false, .bool false, .int .i64 0] : Array Value), .int .i64 4]) ?_ rfl ⟨hno.out w9, by rw [← hbR]; exact h9.out.below⟩
    simp [results, Try.results14, go_sem, e0, e1, e2, e3, e4, e5, e6, e7, e8, e9, e10, e11, e12]
  | true =>
    have hq := h5.pull3.boxAt
    have z0 := hq.1.spot 0 _ rfl; have z1 := hq.1.spot 1 _ rfl; have z2 := hq.1.spot 2 _ rfl; have z3 := hq.1.spot 3 _ rfl; have z4 := hq.1.spot 4 _ rfl; have z5 := hq.1.spot 5 _ rfl; have z6 := hq.1.spot 6 _ rfl; have z7 := hq.1.spot 7 _ rfl; have z8 := hq.1.spot 8 _ rfl; have z9 := hq.1.spot 9 _ rfl; have z10 := hq.1.spot 10 _ rfl; have z11 := hq.1.spot 11 _ rfl; have z12 := hq.1.spot 12 _ rfl
    have zl := hq.1.lt
    clear hq
    have kg := Lib.hid (Held.ask LR ((isAsr_rd _ _).star ((isAsr_box _ _).star LB)) (S := fun e _ => e = .returned (.bool gq)) h5 (fun F hF => k3.out w5 hF.1))
    replace h5 := Lib.hid h5
    go_wp2_with fail
    refine kg.out.mono ?_
    rintro e w6 ⟨rfl, h6⟩
    clear kg h5 k3 z0 z1 z2 z3 z4 z5 z6 z7 z8 z9 z10 z11 z12 zl
    cases gq with
    | false =>
      replace hno := Lib.hid (hno.out rfl)
      clear hyes
      have h8 := h6.pull4
      have h9 := h8.fill ((isAsr_rows _ _).star ((isAsr_rd _ _).star ((isAsr_box _ _).star isAsr_nil))) (vs := (#[.int .i64 0, .slice none 0 0, .slice none 0 0, .int .i64 0, .slice none 0 0, .int .u64 0, .int .u64 0, .int .i64 0, .int .i64 0, .bool false, .bool false, .bool false, .int .i64 0] : Array Value).toList) (show 13 = 13 from rfl)
      have hth := Lib.hid (box_thereAt (o := 0) (n := 13) h8.boxAt.1 h8.boxAt.2.1 (Nat.le_refl 13))
      obtain ⟨w9, hw9⟩ : ∃ w9, w9 = w6.setCells bR 0 (#[.int .i64 0, .slice none 0 0, .slice none 0 0, .int .i64 0, .slice none 0 0, .int .u64 0, .int .u64 0, .int .i64 0, .int .i64 0, .bool false, .bool false, .bool false, .int .i64 0] : Array Value).toList := ⟨_, rfl⟩
      rw [← hw9] at h9
      replace h9 := Lib.hid h9
      replace hw9 := Lib.hid hw9
      clear h6 h8
      go_wp2_with (refine wpList_store_mid rfl 31 _ _ rfl bR 0 _ rfl rfl hth.out (by kernel_rfl) (by kernel_rfl) ?_; rw [← hw9.out])
      have hb := h9.out.boxAt.1
      have e0 := hb.spot 0 _ rfl; have e1 := hb.spot 1 _ rfl; have e2 := hb.spot 2 _ rfl; have e3 := hb.spot 3 _ rfl; have e4 := hb.spot 4 _ rfl; have e5 := hb.spot 5 _ rfl; have e6 := hb.spot 6 _ rfl; have e7 := hb.spot 7 _ rfl; have e8 := hb.spot 8 _ rfl; have e9 := hb.spot 9 _ rfl; have e10 := hb.spot 10 _ rfl; have e11 := hb.spot 11 _ rfl; have e12 := hb.spot 12 _ rfl
      refine bodyPost_ret (v := .tuple #[.agg (#[.int .i64 0, .slice none 0 0, .slice none 0 0, .int .i64 0, .slice none 0 0, .int .u64 0, .int .u64 0, .int .i64 0, .int .i64 0, .bool false, .bool false, .bool false, .int .i64 0] : Array Value), .int .i64 4]) ?_ rfl ⟨hno.out w9, by rw [← hbR]; exact h9.out.below⟩
      simp [results, Try.results14, go_sem, e0, e1, e2, e3, e4, e5, e6, e7, e8, e9, e10, e11, e12]
    | true =>
      replace hyes := Lib.hid (hyes.out rfl)
      clear hno
      have hq := h6.pull3.boxAt
      have z0 := hq.1.spot 0 _ rfl; have z1 := hq.1.spot 1 _ rfl; have z2 := hq.1.spot 2 _ rfl; have z3 := hq.1.spot 3 _ rfl; have z4 := hq.1.spot 4 _ rfl; have z5 := hq.1.spot 5 _ rfl; have z6 := hq.1.spot 6 _ rfl; have z7 := hq.1.spot 7 _ rfl; have z8 := hq.1.spot 8 _ rfl; have z9 := hq.1.spot 9 _ rfl; have z10 := hq.1.spot 10 _ rfl; have z11 := hq.1.spot 11 _ rfl; have z12 := hq.1.spot 12 _ rfl
      have zl := hq.1.lt
      clear hq
      have h8 := h6.pull4
      have h9 := h8.fill ((isAsr_rows _ _).star ((isAsr_rd _ _).star ((isAsr_box _ _).star isAsr_nil))) (vs := (#[.int .i64 op, .slice sA acs.length sAc, .slice sT ts.length sTc, .int .i64 now, .slice sI ids.length sIc, .int .u64 ((hiN ac : Nat) : Int), .int .u64 ((loN ac : Nat) : Int), .int .i64 fr, .int .i64 tt, .bool db, .bool cr, .bool la, .int .i64 li] : Array Value).toList) (show 13 = 13 from rfl)
      have hth := Lib.hid (box_thereAt (o := 0) (n := 13) h8.boxAt.1 h8.boxAt.2.1 (Nat.le_refl 13))
      obtain ⟨w9, hw9⟩ : ∃ w9, w9 = w6.setCells bR 0 (#[.int .i64 op, .slice sA acs.length sAc, .slice sT ts.length sTc, .int .i64 now, .slice sI ids.length sIc, .int .u64 ((hiN ac : Nat) : Int), .int .u64 ((loN ac : Nat) : Int), .int .i64 fr, .int .i64 tt, .bool db, .bool cr, .bool la, .int .i64 li] : Array Value).toList := ⟨_, rfl⟩
      rw [← hw9] at h9
      obtain ⟨_, hr9⟩ := h9.rest.head
      have hat9 := Lib.hid hr9.1
      clear hr9
      replace h9 := Lib.hid h9
      replace hw9 := Lib.hid hw9
      clear h6 h8
      go_wp2_with (refine wpList_store_mid rfl 31 _ _ rfl bR 0 _ rfl rfl hth.out (by kernel_rfl) (by kernel_rfl) ?_; rw [← hw9.out])
      have hb := h9.out.boxAt.1
      have e0 := hb.spot 0 _ rfl; have e1 := hb.spot 1 _ rfl; have e2 := hb.spot 2 _ rfl; have e3 := hb.spot 3 _ rfl; have e4 := hb.spot 4 _ rfl; have e5 := hb.spot 5 _ rfl; have e6 := hb.spot 6 _ rfl; have e7 := hb.spot 7 _ rfl; have e8 := hb.spot 8 _ rfl; have e9 := hb.spot 9 _ rfl; have e10 := hb.spot 10 _ rfl; have e11 := hb.spot 11 _ rfl; have e12 := hb.spot 12 _ rfl
      refine bodyPost_ret (v := .tuple #[.agg (#[.int .i64 op, .slice sA acs.length sAc, .slice sT ts.length sTc, .int .i64 now, .slice sI ids.length sIc, .int .u64 ((hiN ac : Nat) : Int), .int .u64 ((loN ac : Nat) : Int), .int .i64 fr, .int .i64 tt, .bool db, .bool cr, .bool la, .int .i64 li] : Array Value), .int .i64 0]) ?_ rfl ⟨hyes.out w9 hat9.out, by rw [← hbR]; exact h9.out.below⟩
      simp [results, Try.results14, go_sem, e0, e1, e2, e3, e4, e5, e6, e7, e8, e9, e10, e11, e12]
end Go.Proofs.Ytfdanlfiaoedfaa
