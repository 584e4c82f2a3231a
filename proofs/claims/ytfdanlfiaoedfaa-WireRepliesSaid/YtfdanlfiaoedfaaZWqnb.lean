/- Stage 22, landed: a request of names is taken. No condition but sizes. -/
import Derived.Test.YtfdanlfiaoedfaaZWrc
namespace Go.Proofs.Ytfdanlfiaoedfaa
open Go.RowKit Go.Sort Wm Cr

section
variable {w W : World} {R : Asr} {p : Nat} {st : Option ByteArray}
set_option maxRecDepth 100000 in
set_option maxHeartbeats 4000000 in
theorem getRequest4_h (L : IsAsr R) (h : Held w W (star (objA RdIs p st) R)) (hop : intT 1 st = 4) :
    Calls Try.prog 35 #[.pointer (some ⟨p, 0, none⟩)] W fun e w2 => ∃ s, e = .returned (reqV (bodyV (intT 1 st) (intR 1 st)) s) ∧ Held w w2 (star (rowsA (bodyV (intT 1 st) (intR 1 st)) s) (star (objA RdIs p (bodyR (intT 1 st) (intR 1 st))) R)) := by
  have h1 := (h.box ((isAsr_rd _ _).star L) [.int .i64 0, .slice none 0 0, .slice none 0 0, .int .i64 0, .slice none 0 0, .int .u64 0, .int .u64 0, .int .i64 0, .int .i64 0, .bool false, .bool false, .bool false, .int .i64 0] 31).pull
  have LB : IsAsr (star (boxA W.heap.size [.int .i64 0, .slice none 0 0, .slice none 0 0, .int .i64 0, .slice none 0 0, .int .u64 0, .int .u64 0, .int .i64 0, .int .i64 0, .bool false, .bool false, .bool false, .int .i64 0]) R) := (isAsr_box _ _).star L
  have k0 := Lib.hid (rInt_h LB h1 1 1 rfl)
  rw [hop] at k0 ⊢
  rw [bodyV_4, bodyR_4]
  generalize intR 1 st = st1 at *
  clear h1
  generalize hbR : W.heap.size = bR at *
  go_enter Try.func35, Try.ntmps35
  go_wp2_with fail
  refine k0.out.mono ?_
  rintro e w2 ⟨rfl, h2⟩
  clear k0
  have h3 := (h2.box ((isAsr_rd _ _).star LB) [.int .i64 4, .slice none 0 0, .slice none 0 0, .int .i64 0, .slice none 0 0, .int .u64 0, .int .u64 0, .int .i64 0, .int .i64 0, .bool false, .bool false, .bool false, .int .i64 0] 31).pull
  have LQ : IsAsr (star (boxA w2.heap.size [.int .i64 4, .slice none 0 0, .slice none 0 0, .int .i64 0, .slice none 0 0, .int .u64 0, .int .u64 0, .int .i64 0, .int .i64 0, .bool false, .bool false, .bool false, .int .i64 0]) (star (boxA bR [.int .i64 0, .slice none 0 0, .slice none 0 0, .int .i64 0, .slice none 0 0, .int .u64 0, .int .u64 0, .int .i64 0, .int .i64 0, .bool false, .bool false, .bool false, .int .i64 0]) R)) := (isAsr_box _ _).star LB
  obtain ⟨w3, hw3⟩ : ∃ w3, w3 = w2.alloc (.cells #[.int .i64 4, .slice none 0 0, .slice none 0 0, .int .i64 0, .slice none 0 0, .int .u64 0, .int .u64 0, .int .i64 0, .int .i64 0, .bool false, .bool false, .bool false, .int .i64 0] 31) := ⟨_, rfl⟩
  change Held w (w2.alloc (.cells #[.int .i64 4, .slice none 0 0, .slice none 0 0, .int .i64 0, .slice none 0 0, .int .u64 0, .int .u64 0, .int .i64 0, .int .i64 0, .bool false, .bool false, .bool false, .int .i64 0] 31)) _ at h3
  rw [← hw3] at h3
  have k1 := Lib.hid (sevIdn_h LQ h3)
  have hln : (listV idT (intR 16) st1).length ≤ 140737488351232 := by
    unfold listV
    rw [sevV_length]
    have := (cntN_int st1).2
    omega
  generalize hlL : listV idT (intR 16) st1 = l at *
  replace hlL := Lib.hid hlL
  have hq := h3.pull.boxAt
  have c0 := hq.1.spot 0 _ rfl; have c1 := hq.1.spot 1 _ rfl; have c2 := hq.1.spot 2 _ rfl; have c3 := hq.1.spot 3 _ rfl; have c4 := hq.1.spot 4 _ rfl; have c5 := hq.1.spot 5 _ rfl; have c6 := hq.1.spot 6 _ rfl; have c7 := hq.1.spot 7 _ rfl; have c8 := hq.1.spot 8 _ rfl; have c9 := hq.1.spot 9 _ rfl; have c10 := hq.1.spot 10 _ rfl; have c11 := hq.1.spot 11 _ rfl; have c12 := hq.1.spot 12 _ rfl
  have hl := hq.1.lt
  clear hq h2
  replace h3 := Lib.hid h3
  replace hw3 := Lib.hid hw3
  go_wp2_with fail
  rw [← hw3.out]
  generalize w2.heap.size = bQ at *
  refine k1.out.mono ?_
  rintro e w4 ⟨va, rfl, h4⟩
  obtain ⟨sao, sc, rfl, -⟩ := RowAt.own idnW h4.rowAt.1
  clear k1 h3 c0 c1 c2 c3 c4 c5 c6 c7 c8 c9 c10 c11 c12 hl hw3
  have hq := h4.pull3.boxAt
  have c0 := hq.1.spot 0 _ rfl; have c1 := hq.1.spot 1 _ rfl; have c2 := hq.1.spot 2 _ rfl; have c3 := hq.1.spot 3 _ rfl; have c4 := hq.1.spot 4 _ rfl; have c5 := hq.1.spot 5 _ rfl; have c6 := hq.1.spot 6 _ rfl; have c7 := hq.1.spot 7 _ rfl; have c8 := hq.1.spot 8 _ rfl; have c9 := hq.1.spot 9 _ rfl; have c10 := hq.1.spot 10 _ rfl; have c11 := hq.1.spot 11 _ rfl; have c12 := hq.1.spot 12 _ rfl
  have hl := hq.1.lt
  have f4 := hq.2.1 4
  have h5 := Held.put1 ((isAsr_row _ _ _ _ _).star ((isAsr_rd _ _).star LB)) h4.pull3 (j := 4) (show 4 < 13 by decide) (.slice sao l.length sc)
  have h6 := h5.pull4
  replace h5 := Lib.hid h5
  clear h4
  have h9 := h6.fill ((isAsr_box _ _).star ((isAsr_row _ _ _ _ _).star ((isAsr_rd _ _).star L))) (vs := (#[.int .i64 4, .slice none 0 0, .slice none 0 0, .int .i64 0, .slice sao l.length sc, .int .u64 0, .int .u64 0, .int .i64 0, .int .i64 0, .bool false, .bool false, .bool false, .int .i64 0] : Array Value).toList) (show 13 = 13 from rfl)
  have hth := Lib.hid (box_thereAt (o := 0) (n := 13) h6.boxAt.1 h6.boxAt.2.1 (Nat.le_refl 13))
  obtain ⟨w9, hw9⟩ : ∃ w9, w9 = (w4.setCell ⟨bQ, 4, none⟩ (.slice sao l.length sc)).setCells bR 0 (#[.int .i64 4, .slice none 0 0, .slice none 0 0, .int .i64 0, .slice sao l.length sc, .int .u64 0, .int .u64 0, .int .i64 0, .int .i64 0, .bool false, .bool false, .bool false, .int .i64 0] : Array Value).toList := ⟨_, rfl⟩
  rw [← hw9] at h9
  replace h9 := Lib.hid h9
  replace hw9 := Lib.hid hw9
  clear hq h6 h5
  have hrow := Lib.hid h9.out.rest.rest.rowAt.1
  go_wp2_with (refine wpList_store_mid rfl 31 _ _ rfl bR 0 _ rfl rfl hth.out (by kernel_rfl) (by kernel_rfl) ?_; rw [← hw9.out])
  obtain rfl := hlL.out
  have hb := h9.out.boxAt.1
  have e0 := hb.spot 0 _ rfl; have e1 := hb.spot 1 _ rfl; have e2 := hb.spot 2 _ rfl; have e3 := hb.spot 3 _ rfl; have e4 := hb.spot 4 _ rfl; have e5 := hb.spot 5 _ rfl; have e6 := hb.spot 6 _ rfl; have e7 := hb.spot 7 _ rfl; have e8 := hb.spot 8 _ rfl; have e9 := hb.spot 9 _ rfl; have e10 := hb.spot 10 _ rfl; have e11 := hb.spot 11 _ rfl; have e12 := hb.spot 12 _ rfl
  refine bodyPost_ret (v := .agg (#[.int .i64 4, .slice none 0 0, .slice none 0 0, .int .i64 0, .slice sao (listV idT (intR 16) st1).length sc, .int .u64 0, .int .u64 0, .int .i64 0, .int .i64 0, .bool false, .bool false, .bool false, .int .i64 0] : Array Value)) ?_ rfl ⟨⟨none, 0, none, 0, sao, sc⟩, (by unfold reqV zeroF; dsimp only; rw [show hiN 0 = 0 from by decide, show loN 0 = 0 from by decide]; rfl), (h9.out.rest.rest.swap.under (rows_idn 4 hln)).swap⟩
  simp [results, Try.results35, go_sem, e0, e1, e2, e3, e4, e5, e6, e7, e8, e9, e10, e11, e12]
set_option maxRecDepth 100000 in
set_option maxHeartbeats 4000000 in
theorem getRequest5_h (L : IsAsr R) (h : Held w W (star (objA RdIs p st) R)) (hop : intT 1 st = 5) :
    Calls Try.prog 35 #[.pointer (some ⟨p, 0, none⟩)] W fun e w2 => ∃ s, e = .returned (reqV (bodyV (intT 1 st) (intR 1 st)) s) ∧ Held w w2 (star (rowsA (bodyV (intT 1 st) (intR 1 st)) s) (star (objA RdIs p (bodyR (intT 1 st) (intR 1 st))) R)) := by
  have h1 := (h.box ((isAsr_rd _ _).star L) [.int .i64 0, .slice none 0 0, .slice none 0 0, .int .i64 0, .slice none 0 0, .int .u64 0, .int .u64 0, .int .i64 0, .int .i64 0, .bool false, .bool false, .bool false, .int .i64 0] 31).pull
  have LB : IsAsr (star (boxA W.heap.size [.int .i64 0, .slice none 0 0, .slice none 0 0, .int .i64 0, .slice none 0 0, .int .u64 0, .int .u64 0, .int .i64 0, .int .i64 0, .bool false, .bool false, .bool false, .int .i64 0]) R) := (isAsr_box _ _).star L
  have k0 := Lib.hid (rInt_h LB h1 1 1 rfl)
  rw [hop] at k0 ⊢
  rw [bodyV_5, bodyR_5]
  generalize intR 1 st = st1 at *
  clear h1
  generalize hbR : W.heap.size = bR at *
  go_enter Try.func35, Try.ntmps35
  go_wp2_with fail
  refine k0.out.mono ?_
  rintro e w2 ⟨rfl, h2⟩
  clear k0
  have h3 := (h2.box ((isAsr_rd _ _).star LB) [.int .i64 5, .slice none 0 0, .slice none 0 0, .int .i64 0, .slice none 0 0, .int .u64 0, .int .u64 0, .int .i64 0, .int .i64 0, .bool false, .bool false, .bool false, .int .i64 0] 31).pull
  have LQ : IsAsr (star (boxA w2.heap.size [.int .i64 5, .slice none 0 0, .slice none 0 0, .int .i64 0, .slice none 0 0, .int .u64 0, .int .u64 0, .int .i64 0, .int .i64 0, .bool false, .bool false, .bool false, .int .i64 0]) (star (boxA bR [.int .i64 0, .slice none 0 0, .slice none 0 0, .int .i64 0, .slice none 0 0, .int .u64 0, .int .u64 0, .int .i64 0, .int .i64 0, .bool false, .bool false, .bool false, .int .i64 0]) R)) := (isAsr_box _ _).star LB
  obtain ⟨w3, hw3⟩ : ∃ w3, w3 = w2.alloc (.cells #[.int .i64 5, .slice none 0 0, .slice none 0 0, .int .i64 0, .slice none 0 0, .int .u64 0, .int .u64 0, .int .i64 0, .int .i64 0, .bool false, .bool false, .bool false, .int .i64 0] 31) := ⟨_, rfl⟩
  change Held w (w2.alloc (.cells #[.int .i64 5, .slice none 0 0, .slice none 0 0, .int .i64 0, .slice none 0 0, .int .u64 0, .int .u64 0, .int .i64 0, .int .i64 0, .bool false, .bool false, .bool false, .int .i64 0] 31)) _ at h3
  rw [← hw3] at h3
  have k1 := Lib.hid (sevIdn_h LQ h3)
  have hln : (listV idT (intR 16) st1).length ≤ 140737488351232 := by
    unfold listV
    rw [sevV_length]
    have := (cntN_int st1).2
    omega
  generalize hlL : listV idT (intR 16) st1 = l at *
  replace hlL := Lib.hid hlL
  have hq := h3.pull.boxAt
  have c0 := hq.1.spot 0 _ rfl; have c1 := hq.1.spot 1 _ rfl; have c2 := hq.1.spot 2 _ rfl; have c3 := hq.1.spot 3 _ rfl; have c4 := hq.1.spot 4 _ rfl; have c5 := hq.1.spot 5 _ rfl; have c6 := hq.1.spot 6 _ rfl; have c7 := hq.1.spot 7 _ rfl; have c8 := hq.1.spot 8 _ rfl; have c9 := hq.1.spot 9 _ rfl; have c10 := hq.1.spot 10 _ rfl; have c11 := hq.1.spot 11 _ rfl; have c12 := hq.1.spot 12 _ rfl
  have hl := hq.1.lt
  clear hq h2
  replace h3 := Lib.hid h3
  replace hw3 := Lib.hid hw3
  go_wp2_with fail
  rw [← hw3.out]
  generalize w2.heap.size = bQ at *
  refine k1.out.mono ?_
  rintro e w4 ⟨va, rfl, h4⟩
  obtain ⟨sao, sc, rfl, -⟩ := RowAt.own idnW h4.rowAt.1
  clear k1 h3 c0 c1 c2 c3 c4 c5 c6 c7 c8 c9 c10 c11 c12 hl hw3
  have hq := h4.pull3.boxAt
  have c0 := hq.1.spot 0 _ rfl; have c1 := hq.1.spot 1 _ rfl; have c2 := hq.1.spot 2 _ rfl; have c3 := hq.1.spot 3 _ rfl; have c4 := hq.1.spot 4 _ rfl; have c5 := hq.1.spot 5 _ rfl; have c6 := hq.1.spot 6 _ rfl; have c7 := hq.1.spot 7 _ rfl; have c8 := hq.1.spot 8 _ rfl; have c9 := hq.1.spot 9 _ rfl; have c10 := hq.1.spot 10 _ rfl; have c11 := hq.1.spot 11 _ rfl; have c12 := hq.1.spot 12 _ rfl
  have hl := hq.1.lt
  have f4 := hq.2.1 4
  have h5 := Held.put1 ((isAsr_row _ _ _ _ _).star ((isAsr_rd _ _).star LB)) h4.pull3 (j := 4) (show 4 < 13 by decide) (.slice sao l.length sc)
  have h6 := h5.pull4
  replace h5 := Lib.hid h5
  clear h4
  have h9 := h6.fill ((isAsr_box _ _).star ((isAsr_row _ _ _ _ _).star ((isAsr_rd _ _).star L))) (vs := (#[.int .i64 5, .slice none 0 0, .slice none 0 0, .int .i64 0, .slice sao l.length sc, .int .u64 0, .int .u64 0, .int .i64 0, .int .i64 0, .bool false, .bool false, .bool false, .int .i64 0] : Array Value).toList) (show 13 = 13 from rfl)
  have hth := Lib.hid (box_thereAt (o := 0) (n := 13) h6.boxAt.1 h6.boxAt.2.1 (Nat.le_refl 13))
  obtain ⟨w9, hw9⟩ : ∃ w9, w9 = (w4.setCell ⟨bQ, 4, none⟩ (.slice sao l.length sc)).setCells bR 0 (#[.int .i64 5, .slice none 0 0, .slice none 0 0, .int .i64 0, .slice sao l.length sc, .int .u64 0, .int .u64 0, .int .i64 0, .int .i64 0, .bool false, .bool false, .bool false, .int .i64 0] : Array Value).toList := ⟨_, rfl⟩
  rw [← hw9] at h9
  replace h9 := Lib.hid h9
  replace hw9 := Lib.hid hw9
  clear hq h6 h5
  have hrow := Lib.hid h9.out.rest.rest.rowAt.1
  go_wp2_with (refine wpList_store_mid rfl 31 _ _ rfl bR 0 _ rfl rfl hth.out (by kernel_rfl) (by kernel_rfl) ?_; rw [← hw9.out])
  obtain rfl := hlL.out
  have hb := h9.out.boxAt.1
  have e0 := hb.spot 0 _ rfl; have e1 := hb.spot 1 _ rfl; have e2 := hb.spot 2 _ rfl; have e3 := hb.spot 3 _ rfl; have e4 := hb.spot 4 _ rfl; have e5 := hb.spot 5 _ rfl; have e6 := hb.spot 6 _ rfl; have e7 := hb.spot 7 _ rfl; have e8 := hb.spot 8 _ rfl; have e9 := hb.spot 9 _ rfl; have e10 := hb.spot 10 _ rfl; have e11 := hb.spot 11 _ rfl; have e12 := hb.spot 12 _ rfl
  refine bodyPost_ret (v := .agg (#[.int .i64 5, .slice none 0 0, .slice none 0 0, .int .i64 0, .slice sao (listV idT (intR 16) st1).length sc, .int .u64 0, .int .u64 0, .int .i64 0, .int .i64 0, .bool false, .bool false, .bool false, .int .i64 0] : Array Value)) ?_ rfl ⟨⟨none, 0, none, 0, sao, sc⟩, (by unfold reqV zeroF; dsimp only; rw [show hiN 0 = 0 from by decide, show loN 0 = 0 from by decide]; rfl), (h9.out.rest.rest.swap.under (rows_idn 5 hln)).swap⟩
  simp [results, Try.results35, go_sem, e0, e1, e2, e3, e4, e5, e6, e7, e8, e9, e10, e11, e12]
end
end Go.Proofs.Ytfdanlfiaoedfaa
