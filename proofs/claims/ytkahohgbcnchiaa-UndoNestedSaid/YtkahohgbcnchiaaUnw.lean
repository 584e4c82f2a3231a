/- Stage 14: a call on both, the lists and the document's. No condition but sizes. -/
import Derived.Test.YtkahohgbcnchiaaUns
import Derived.Test.YtkahohgbcnchiaaUnv
namespace Go.Proofs.Ytkahohgbcnchiaa
open Go.RowKit Wm

/-- What a call makes of what is now, and was. -/
def histU (hist : List StU) (c : Ucall) : List StU :=
  match hist with
  | [] => []
  | st :: past =>
    if c.Kind = 0 then addU c.Second st c.X :: st :: past
    else if c.Kind = 1 then (if hasU (selU c.Second st) c.I then setU c.Second st c.I.toNat c.X :: st :: past else st :: past)
    else if c.Kind = 2 then (st :: past).drop (past.length - c.I.toNat)
    else if c.Kind = 3 then [st]
    else st :: past
def DoesU (hist hist2 : List StU) (e : Ending) : Prop := ∃ b, e = .returned (.bool b) ∧ (hist = hist2 → b = true)
def ucallV (c : Ucall) : Value := .agg c.cells.toArray
theorem ucallV_eq (c : Ucall) : ucallV c = .agg #[.int .i64 c.Kind, .bool c.Second, .int .i64 c.I, .int .i64 c.X] := rfl
theorem ubox {W : World} {B : Nat} {c : Ucall} (h : BoxAt W B c.cells) : W.cell? ⟨B, 0, none⟩ = some (.int .i64 c.Kind) ∧ W.cell? ⟨B, 1, none⟩ = some (.bool c.Second) ∧ W.cell? ⟨B, 2, none⟩ = some (.int .i64 c.I) ∧ W.cell? ⟨B, 3, none⟩ = some (.int .i64 c.X) ∧ B < W.heap.size := ⟨h.spot 0 _ rfl, h.spot 1 _ rfl, h.spot 2 _ rfl, h.spot 3 _ rfl, h.lt⟩
section
variable {w W : World} {R : Asr} {g pl pk pd : Nat} {st st2 : StU} {past past2 : List StU}

set_option maxRecDepth 100000 in
set_option maxHeartbeats 2000000 in
theorem udoes_add_false (L : IsAsr R) (h : Held w W (star (deskA g (N2 g pl pk) (st :: past)) (star (docA pd (st2 :: past2)) R))) (c : Ucall) (hs : c.Second = false) (h0 : c.Kind = 0) (hl : past.length < 10000) (hl2 : past2.length < 10000) (x1 : (selU false st).length ≤ 10000) (y1 : st2.1.length ≤ 10000) (y2 : st2.2.length ≤ 10000) :
    Calls Try.prog 10 #[.pointer (some ⟨g, 0, none⟩), .pointer (some ⟨pl, 0, none⟩), .pointer (some ⟨pk, 0, none⟩), .pointer (some ⟨pd, 0, none⟩), ucallV c] W fun e w' => DoesU (st :: past) (st2 :: past2) e ∧ Held w w' (star (deskA g (N2 g pl pk) (histU (st :: past) c)) (star (docA pd (histU (st2 :: past2) c)) R)) := by
  have hh : ∀ (s : StU) (p : List StU), histU (s :: p) c = (addU c.Second s c.X :: s :: p) := fun s p => by unfold histU; rw [h0]; rfl
  rw [hh, hh]
  clear hh
  have hT0 := h.box ((isAsr_desk (isAsr_N2 g pl pk) g _).star ((isAsr_doc _ _).star L)) c.cells 33
  obtain ⟨la, lb, ra, rb, hd, hT1⟩ := hT0.pull3.openDoc
  have hnow := Lib.hid (pastNow_h ((isAsr_box _ _).star ((isAsr_desk (isAsr_N2 g pl pk) g _).star L)) hT1 (by rw [hd.lenA]; omega) (by rw [hd.lenB]; omega))
  obtain ⟨q0, q1, q2, q3, lB⟩ := ubox hT0.boxAt.1
  have hlenA : ra.len = st2.1.length := by rw [Rw.reads_len hT1.pastReads.1, hd.ra]
  have hlenB : rb.len = st2.2.length := by rw [Rw.reads_len hT1.pastReads.2, hd.rb]
  rw [ucallV_eq]
  replace hnow := Lib.hid (show Calls Try.prog 12 #[.pointer (some ⟨pd, 0, none⟩)] (W.alloc (.cells c.cells.toArray 33)) fun e w2 => e = .returned (.tuple #[.slice ra.ao st2.1.length ra.cap, .slice rb.ao st2.2.length rb.cap]) ∧ Held w w2 (star (boxA W.heap.size c.cells) (star (deskA g (N2 g pl pk) (st :: past)) (star (docA pd (st2 :: past2)) R))) from
    hnow.out.mono (fun _ _ ⟨a, b⟩ => ⟨by rw [a]; unfold Rw.val; rw [hlenA, hlenB], (b.shutDoc hd).push3⟩))
  generalize ra.ao = a1 at *
  generalize rb.ao = a2 at *
  generalize ra.cap = d1 at *
  generalize rb.cap = d2 at *
  clear hT0 hT1 hd hlenA hlenB h
  obtain ⟨kind, sec, ci, cx⟩ := c
  dsimp only at *
  subst hs
  subst h0
  go_enter Try.func10, Try.ntmps10
  go_upto_region 1 with (fail)
  change Code.wp _ _ _ _ (W.alloc (.cells (Ucall.mk 0 false ci cx).cells.toArray 33))
  generalize W.alloc (.cells (Ucall.mk 0 false ci cx).cells.toArray 33) = W0 at *
  generalize hcs : (Ucall.mk 0 false ci cx).cells = cs at *
  go_wp2_with fail
  refine hnow.out.mono ?_
  rintro e w1 ⟨rfl, hT⟩
  clear hnow q0 q1 q2 q3 lB
  obtain ⟨q0, q1, q2, q3, lB⟩ := ubox (c := ⟨0, false, ci, cx⟩) (by rw [hcs]; exact hT.boxAt.1)
  dsimp only at q0 q1 q2 q3
  have k1 := Lib.hid ((docAdd_h ((isAsr_box _ _).star ((isAsr_desk (isAsr_N2 g pl pk) g _).star L)) hT.pull3 hl2 y1 y2 false cx).mono (R' := fun e w2 => e = .returned (.tuple #[]) ∧ Held w w2 (star (boxA W.heap.size cs) (star (deskA g (N2 g pl pk) (st :: past)) (star (docA pd (addU false st2 cx :: st2 :: past2)) R)))) (fun _ _ ⟨a, b⟩ => ⟨a, b.push3⟩))
  clear hT
  go_wp2_with fail
  refine k1.out.mono ?_
  rintro e w2 ⟨rfl, hT2⟩
  clear k1 q0 q1 q2 q3 lB
  obtain ⟨q0, q1, q2, q3, lB⟩ := ubox (c := ⟨0, false, ci, cx⟩) (by rw [hcs]; exact hT2.boxAt.1)
  dsimp only at q0 q1 q2 q3
  have k2 := Lib.hid ((desk2_add ((isAsr_box _ _).star ((isAsr_doc _ _).star L)) hT2.pull false cx (by omega) (by omega)).mono (R' := fun e w2 => e = .returned (.int .i64 (((selU false st).length : Nat) : Int)) ∧ Held w w2 (star (boxA W.heap.size cs) (star (deskA g (N2 g pl pk) (addU false st cx :: st :: past)) (star (docA pd (addU false st2 cx :: st2 :: past2)) R)))) (fun _ _ ⟨a, b⟩ => ⟨a, b.pull⟩))
  unfold ptrU at k2
  dsimp only [cond_true, cond_false] at k2
  clear hT2
  go_wp2_with fail
  refine k2.out.mono ?_
  rintro e w3 ⟨rfl, hT3⟩
  replace hT3 := Lib.hid hT3.rest
  clear k2 q0 q1 q2 q3 lB
  have hfin : st :: past = st2 :: past2 → (((selU false st).length : Int) == ((st2.1.length : Nat) : Int)) = true := fun e => by
    injection e with e _
    rw [← e]
    exact beq_self_eq_true _
  replace hfin := Lib.hid hfin
  go_wp2
  go_ret
  exact ⟨⟨_, rfl, hfin.out⟩, hT3.out⟩
set_option maxRecDepth 100000 in
set_option maxHeartbeats 2000000 in
theorem udoes_add_true (L : IsAsr R) (h : Held w W (star (deskA g (N2 g pl pk) (st :: past)) (star (docA pd (st2 :: past2)) R))) (c : Ucall) (hs : c.Second = true) (h0 : c.Kind = 0) (hl : past.length < 10000) (hl2 : past2.length < 10000) (x1 : (selU true st).length ≤ 10000) (y1 : st2.1.length ≤ 10000) (y2 : st2.2.length ≤ 10000) :
    Calls Try.prog 10 #[.pointer (some ⟨g, 0, none⟩), .pointer (some ⟨pl, 0, none⟩), .pointer (some ⟨pk, 0, none⟩), .pointer (some ⟨pd, 0, none⟩), ucallV c] W fun e w' => DoesU (st :: past) (st2 :: past2) e ∧ Held w w' (star (deskA g (N2 g pl pk) (histU (st :: past) c)) (star (docA pd (histU (st2 :: past2) c)) R)) := by
  have hh : ∀ (s : StU) (p : List StU), histU (s :: p) c = (addU c.Second s c.X :: s :: p) := fun s p => by unfold histU; rw [h0]; rfl
  rw [hh, hh]
  clear hh
  have hT0 := h.box ((isAsr_desk (isAsr_N2 g pl pk) g _).star ((isAsr_doc _ _).star L)) c.cells 33
  obtain ⟨la, lb, ra, rb, hd, hT1⟩ := hT0.pull3.openDoc
  have hnow := Lib.hid (pastNow_h ((isAsr_box _ _).star ((isAsr_desk (isAsr_N2 g pl pk) g _).star L)) hT1 (by rw [hd.lenA]; omega) (by rw [hd.lenB]; omega))
  obtain ⟨q0, q1, q2, q3, lB⟩ := ubox hT0.boxAt.1
  have hlenA : ra.len = st2.1.length := by rw [Rw.reads_len hT1.pastReads.1, hd.ra]
  have hlenB : rb.len = st2.2.length := by rw [Rw.reads_len hT1.pastReads.2, hd.rb]
  rw [ucallV_eq]
  replace hnow := Lib.hid (show Calls Try.prog 12 #[.pointer (some ⟨pd, 0, none⟩)] (W.alloc (.cells c.cells.toArray 33)) fun e w2 => e = .returned (.tuple #[.slice ra.ao st2.1.length ra.cap, .slice rb.ao st2.2.length rb.cap]) ∧ Held w w2 (star (boxA W.heap.size c.cells) (star (deskA g (N2 g pl pk) (st :: past)) (star (docA pd (st2 :: past2)) R))) from
    hnow.out.mono (fun _ _ ⟨a, b⟩ => ⟨by rw [a]; unfold Rw.val; rw [hlenA, hlenB], (b.shutDoc hd).push3⟩))
  generalize ra.ao = a1 at *
  generalize rb.ao = a2 at *
  generalize ra.cap = d1 at *
  generalize rb.cap = d2 at *
  clear hT0 hT1 hd hlenA hlenB h
  obtain ⟨kind, sec, ci, cx⟩ := c
  dsimp only at *
  subst hs
  subst h0
  go_enter Try.func10, Try.ntmps10
  go_upto_region 1 with (fail)
  change Code.wp _ _ _ _ (W.alloc (.cells (Ucall.mk 0 true ci cx).cells.toArray 33))
  generalize W.alloc (.cells (Ucall.mk 0 true ci cx).cells.toArray 33) = W0 at *
  generalize hcs : (Ucall.mk 0 true ci cx).cells = cs at *
  go_wp2_with fail
  refine hnow.out.mono ?_
  rintro e w1 ⟨rfl, hT⟩
  clear hnow q0 q1 q2 q3 lB
  obtain ⟨q0, q1, q2, q3, lB⟩ := ubox (c := ⟨0, true, ci, cx⟩) (by rw [hcs]; exact hT.boxAt.1)
  dsimp only at q0 q1 q2 q3
  have k1 := Lib.hid ((docAdd_h ((isAsr_box _ _).star ((isAsr_desk (isAsr_N2 g pl pk) g _).star L)) hT.pull3 hl2 y1 y2 true cx).mono (R' := fun e w2 => e = .returned (.tuple #[]) ∧ Held w w2 (star (boxA W.heap.size cs) (star (deskA g (N2 g pl pk) (st :: past)) (star (docA pd (addU true st2 cx :: st2 :: past2)) R)))) (fun _ _ ⟨a, b⟩ => ⟨a, b.push3⟩))
  clear hT
  go_wp2_with fail
  refine k1.out.mono ?_
  rintro e w2 ⟨rfl, hT2⟩
  clear k1 q0 q1 q2 q3 lB
  obtain ⟨q0, q1, q2, q3, lB⟩ := ubox (c := ⟨0, true, ci, cx⟩) (by rw [hcs]; exact hT2.boxAt.1)
  dsimp only at q0 q1 q2 q3
  have k2 := Lib.hid ((desk2_add ((isAsr_box _ _).star ((isAsr_doc _ _).star L)) hT2.pull true cx (by omega) (by omega)).mono (R' := fun e w2 => e = .returned (.int .i64 (((selU true st).length : Nat) : Int)) ∧ Held w w2 (star (boxA W.heap.size cs) (star (deskA g (N2 g pl pk) (addU true st cx :: st :: past)) (star (docA pd (addU true st2 cx :: st2 :: past2)) R)))) (fun _ _ ⟨a, b⟩ => ⟨a, b.pull⟩))
  unfold ptrU at k2
  dsimp only [cond_true, cond_false] at k2
  clear hT2
  go_wp2_with fail
  refine k2.out.mono ?_
  rintro e w3 ⟨rfl, hT3⟩
  replace hT3 := Lib.hid hT3.rest
  clear k2 q0 q1 q2 q3 lB
  have hfin : st :: past = st2 :: past2 → (((selU true st).length : Int) == ((st2.2.length : Nat) : Int)) = true := fun e => by
    injection e with e _
    rw [← e]
    exact beq_self_eq_true _
  replace hfin := Lib.hid hfin
  go_wp2
  go_ret
  exact ⟨⟨_, rfl, hfin.out⟩, hT3.out⟩
set_option maxRecDepth 100000 in
set_option maxHeartbeats 2000000 in
theorem udoes_set_false (L : IsAsr R) (h : Held w W (star (deskA g (N2 g pl pk) (st :: past)) (star (docA pd (st2 :: past2)) R))) (c : Ucall) (hs : c.Second = false) (h0 : c.Kind = 1) (hl : past.length < 10000) (hl2 : past2.length < 10000) (_x1 : (selU false st).length ≤ 10000) (y1 : st2.1.length ≤ 10000) (y2 : st2.2.length ≤ 10000) :
    Calls Try.prog 10 #[.pointer (some ⟨g, 0, none⟩), .pointer (some ⟨pl, 0, none⟩), .pointer (some ⟨pk, 0, none⟩), .pointer (some ⟨pd, 0, none⟩), ucallV c] W fun e w' => DoesU (st :: past) (st2 :: past2) e ∧ Held w w' (star (deskA g (N2 g pl pk) (histU (st :: past) c)) (star (docA pd (histU (st2 :: past2) c)) R)) := by
  have hT0 := h.box ((isAsr_desk (isAsr_N2 g pl pk) g _).star ((isAsr_doc _ _).star L)) c.cells 33
  obtain ⟨la, lb, ra, rb, hd, hT1⟩ := hT0.pull3.openDoc
  have hnow := Lib.hid (pastNow_h ((isAsr_box _ _).star ((isAsr_desk (isAsr_N2 g pl pk) g _).star L)) hT1 (by rw [hd.lenA]; omega) (by rw [hd.lenB]; omega))
  obtain ⟨q0, q1, q2, q3, lB⟩ := ubox hT0.boxAt.1
  have hlenA : ra.len = st2.1.length := by rw [Rw.reads_len hT1.pastReads.1, hd.ra]
  have hlenB : rb.len = st2.2.length := by rw [Rw.reads_len hT1.pastReads.2, hd.rb]
  rw [ucallV_eq]
  replace hnow := Lib.hid (show Calls Try.prog 12 #[.pointer (some ⟨pd, 0, none⟩)] (W.alloc (.cells c.cells.toArray 33)) fun e w2 => e = .returned (.tuple #[.slice ra.ao st2.1.length ra.cap, .slice rb.ao st2.2.length rb.cap]) ∧ Held w w2 (star (boxA W.heap.size c.cells) (star (deskA g (N2 g pl pk) (st :: past)) (star (docA pd (st2 :: past2)) R))) from
    hnow.out.mono (fun _ _ ⟨a, b⟩ => ⟨by rw [a]; unfold Rw.val; rw [hlenA, hlenB], (b.shutDoc hd).push3⟩))
  generalize ra.ao = a1 at *
  generalize rb.ao = a2 at *
  generalize ra.cap = d1 at *
  generalize rb.cap = d2 at *
  clear hT0 hT1 hd hlenA hlenB h
  obtain ⟨kind, sec, ci, cx⟩ := c
  dsimp only at *
  subst hs
  subst h0
  go_enter Try.func10, Try.ntmps10
  go_upto_region 1 with (fail)
  change Code.wp _ _ _ _ (W.alloc (.cells (Ucall.mk 1 false ci cx).cells.toArray 33))
  generalize W.alloc (.cells (Ucall.mk 1 false ci cx).cells.toArray 33) = W0 at *
  generalize hcs : (Ucall.mk 1 false ci cx).cells = cs at *
  go_wp2_with fail
  refine hnow.out.mono ?_
  rintro e w1 ⟨rfl, hT⟩
  clear hnow q0 q1 q2 q3 lB
  obtain ⟨q0, q1, q2, q3, lB⟩ := ubox (c := ⟨1, false, ci, cx⟩) (by rw [hcs]; exact hT.boxAt.1)
  dsimp only at q0 q1 q2 q3
  have hh : ∀ (s : StU) (p : List StU), histU (s :: p) ⟨1, false, ci, cx⟩ = (if hasU (selU false s) ci then setU false s ci.toNat cx :: s :: p else s :: p) := fun s p => by unfold histU; rfl
  obtain ⟨D2, hD2⟩ : ∃ D, D = histU (st :: past) ⟨1, false, ci, cx⟩ := ⟨_, rfl⟩
  obtain ⟨P2, hP2⟩ : ∃ D, D = histU (st2 :: past2) ⟨1, false, ci, cx⟩ := ⟨_, rfl⟩
  have k1 := Lib.hid (fun W1 (hT : Held w W1 (star (boxA W.heap.size cs) (star (deskA g (N2 g pl pk) (st :: past)) (star (docA pd (st2 :: past2)) R)))) => (show Calls Try.prog 20 #[.pointer (some ⟨pl, 0, none⟩), .int .i64 ci, .int .i64 cx] W1 fun e w2 => e = .returned (.bool (hasU (selU false st) ci)) ∧ Held w w2 (star (boxA W.heap.size cs) (star (deskA g (N2 g pl pk) D2) (star (docA pd (st2 :: past2)) R))) from by
    rw [hD2, hh]
    cases hu : hasU (selU false st) ci with
    | true => exact (desk2_set ((isAsr_box _ _).star ((isAsr_doc _ _).star L)) hT.pull false ci cx hu (by omega)).mono (fun _ _ ⟨a, b⟩ => ⟨a, b.pull⟩)
    | false => exact (desk2_set_out ((isAsr_box _ _).star ((isAsr_doc _ _).star L)) hT.pull false ci cx hu).mono (fun _ _ ⟨a, b⟩ => ⟨a, b.pull⟩)))
  have k2 := Lib.hid (fun W1 (hT : Held w W1 (star (boxA W.heap.size cs) (star (deskA g (N2 g pl pk) D2) (star (docA pd (st2 :: past2)) R)))) => (show Calls Try.prog 23 #[.pointer (some ⟨pd, 0, none⟩), .bool false, .int .i64 ci, .int .i64 cx] W1 fun e w2 => e = .returned (.bool (hasU (selU false st2) ci)) ∧ Held w w2 (star (boxA W.heap.size cs) (star (deskA g (N2 g pl pk) D2) (star (docA pd P2) R))) from by
    rw [hP2, hh]
    cases hu : hasU (selU false st2) ci with
    | true => exact (docSet_h ((isAsr_box _ _).star ((isAsr_desk (isAsr_N2 g pl pk) g _).star L)) hT.pull3 hl2 y1 y2 false ci cx hu).mono (fun _ _ ⟨a, b⟩ => ⟨a, b.push3⟩)
    | false => exact (docSet_out ((isAsr_box _ _).star ((isAsr_desk (isAsr_N2 g pl pk) g _).star L)) hT.pull3 hl2 false ci cx hu).mono (fun _ _ ⟨a, b⟩ => ⟨a, b.push3⟩)))
  have hs := Lib.hid (fun W1 (D P : Asr) (h : Held w W1 (star (boxA W.heap.size cs) (star D P))) => show (W1.cell? ⟨W.heap.size, 1, none⟩ = some (.bool false) ∧ W.heap.size < W1.heap.size) ∧ W1.cell? ⟨W.heap.size, 2, none⟩ = some (.int .i64 ci) ∧ W1.cell? ⟨W.heap.size, 3, none⟩ = some (.int .i64 cx) from by
    obtain ⟨-, q1, q2, q3, lB⟩ := ubox (c := ⟨1, false, ci, cx⟩) (by rw [hcs]; exact h.boxAt.1)
    exact ⟨⟨q1, lB⟩, q2, q3⟩)
  have hTd := hT.later ((isAsr_box _ _).star ((isAsr_desk (isAsr_N2 g pl pk) g _).star ((isAsr_doc _ _).star L))) (Below.refl _ _).drew
  replace hTd := Lib.hid hTd
  have hfin : st :: past = st2 :: past2 → (hasU (selU false st) ci == hasU (selU false st2) ci) = true := fun e => by
    injection e with e _
    rw [← e]
    exact beq_self_eq_true _
  clear hh
  replace hD2 := Lib.hid hD2
  replace hP2 := Lib.hid hP2
  obtain ⟨u1, hu1⟩ : ∃ u, u = hasU (selU false st) ci := ⟨_, rfl⟩
  obtain ⟨u2, hu2⟩ : ∃ u, u = hasU (selU false st2) ci := ⟨_, rfl⟩
  rw [← hu1] at k1 hfin
  rw [← hu2] at k2 hfin
  clear hu1 hu2
  have hgo : Held w w1.drew (star (boxA W.heap.size cs) (star (deskA g (N2 g pl pk) D2) (star (docA pd P2) R))) → True := fun _ => trivial
  clear hgo hT
  replace hfin := Lib.hid hfin
  go_upto_region 13 with (fail)
  clear q0 q1 q2 q3 lB
  refine wp_region_need (fun w' => (w'.cell? ⟨W.heap.size, 1, none⟩ = some (.bool false) ∧ W.heap.size < w'.heap.size) ∧ w'.cell? ⟨W.heap.size, 2, none⟩ = some (.int .i64 ci) ∧ w'.cell? ⟨W.heap.size, 3, none⟩ = some (.int .i64 cx)) [0, 1, 2, 3, 4, 6, 7, 8, 9, 10, 11, 12] (by kernel_rfl) ?_
  have hS0 := hs.out _ _ _ hTd.out
  refine need_takeL (i := 0) (v := ?cv215) rfl rfl (by kernel_rfl) (by kernel_rfl) (by kernel_rfl) (fun _ _ _ h => h) (Or.inl ⟨by rfl, ?ch215⟩) hS0 ?cr215
  case ch215 => (intro w' hSw; (try dsimp only at hSw); go_simp; first | done | with_reducible rfl)
  try simp only [Act.put, List.setIfInBounds_toArray, List.set_cons_zero, List.set_cons_succ]
  refine need_takeL (i := 1) (v := ?cv218) rfl rfl (by kernel_rfl) (by kernel_rfl) (by kernel_rfl) (fun _ _ _ h => h) (Or.inl ⟨by rfl, ?ch218⟩) hS0 ?cr218
  case ch218 => (intro w' hSw; (try dsimp only at hSw); go_simp; first | done | with_reducible rfl)
  try simp only [Act.put, List.setIfInBounds_toArray, List.set_cons_zero, List.set_cons_succ]
  refine need_takeL (i := 2) (v := ?cv221) rfl rfl (by kernel_rfl) (by kernel_rfl) (by kernel_rfl) (fun _ _ _ h => h) (Or.inl ⟨by rfl, ?ch221⟩) hS0 ?cr221
  case ch221 => (intro w' hSw; (try dsimp only at hSw); go_simp; first | done | with_reducible rfl)
  try simp only [Act.put, List.setIfInBounds_toArray, List.set_cons_zero, List.set_cons_succ]
  refine need_takeL (i := 3) (v := ?cv224) rfl rfl (by kernel_rfl) (by kernel_rfl) (by kernel_rfl) (fun _ _ _ h => h) (Or.inl ⟨by rfl, ?ch224⟩) hS0 ?cr224
  case ch224 => (intro w' hSw; (try dsimp only at hSw); go_simp; first | done | with_reducible rfl)
  try simp only [Act.put, List.setIfInBounds_toArray, List.set_cons_zero, List.set_cons_succ]
  refine need_takeL (i := 4) (v := ?cv227) rfl rfl (by kernel_rfl) (by kernel_rfl) (by kernel_rfl) (fun _ _ _ h => h) (Or.inl ⟨by rfl, ?ch227⟩) hS0 ?cr227
  case ch227 => (intro w' hSw; (try dsimp only at hSw); go_simp; first | done | with_reducible rfl)
  try simp only [Act.put, List.setIfInBounds_toArray, List.set_cons_zero, List.set_cons_succ]
  refine need_takeL (i := 6) (v := ?cv230) rfl rfl (by kernel_rfl) (by kernel_rfl) (by kernel_rfl) (fun _ _ _ h => h) (Or.inl ⟨by rfl, ?ch230⟩) hS0 ?cr230
  case ch230 => (intro w' hSw; (try dsimp only at hSw); go_simp; first | done | with_reducible rfl)
  try simp only [Act.put, List.setIfInBounds_toArray, List.set_cons_zero, List.set_cons_succ]
  refine need_takeL (i := 7) (v := ?cv233) rfl rfl (by kernel_rfl) (by kernel_rfl) (by kernel_rfl) (fun _ _ _ h => h) (Or.inl ⟨by rfl, ?ch233⟩) hS0 ?cr233
  case ch233 => (intro w' hSw; (try dsimp only at hSw); go_simp; first | done | with_reducible rfl)
  try simp only [Act.put, List.setIfInBounds_toArray, List.set_cons_zero, List.set_cons_succ]
  refine need_takeL (i := 8) (v := ?cv236) rfl rfl (by kernel_rfl) (by kernel_rfl) (by kernel_rfl) (fun _ _ _ h => h) (Or.inl ⟨by rfl, ?ch236⟩) hS0 ?cr236
  case ch236 => (intro w' hSw; (try dsimp only at hSw); go_simp; first | done | with_reducible rfl)
  try simp only [Act.put, List.setIfInBounds_toArray, List.set_cons_zero, List.set_cons_succ]
  refine need_takeL (i := 9) (v := ?cv239) rfl rfl (by kernel_rfl) (by kernel_rfl) (by kernel_rfl) (fun _ _ _ h => h) (Or.inl ⟨by rfl, ?ch239⟩) hS0 ?cr239
  case ch239 => (intro w' hSw; (try dsimp only at hSw); go_simp; first | done | with_reducible rfl)
  try simp only [Act.put, List.setIfInBounds_toArray, List.set_cons_zero, List.set_cons_succ]
  refine need_takeL (i := 10) (v := ?cv242) rfl rfl (by kernel_rfl) (by kernel_rfl) (by kernel_rfl) (fun _ _ _ h => h) (Or.inl ⟨by rfl, ?ch242⟩) hS0 ?cr242
  case ch242 => (intro w' hSw; (try dsimp only at hSw); go_simp; first | done | with_reducible rfl)
  try simp only [Act.put, List.setIfInBounds_toArray, List.set_cons_zero, List.set_cons_succ]
  refine need_takeL (i := 11) (v := ?cv245) rfl rfl (by kernel_rfl) (by kernel_rfl) (by kernel_rfl) (fun _ _ _ h => h) (Or.inl ⟨by rfl, ?ch245⟩) hS0 ?cr245
  case ch245 => (intro w' hSw; (try dsimp only at hSw); go_simp; first | done | with_reducible rfl)
  try simp only [Act.put, List.setIfInBounds_toArray, List.set_cons_zero, List.set_cons_succ]
  refine need_takeL (i := 12) (v := ?cv248) rfl rfl (by kernel_rfl) (by kernel_rfl) (by kernel_rfl) (fun _ _ _ h => h) (Or.inl ⟨by rfl, ?ch248⟩) hS0 ?cr248
  case ch248 => (intro w' hSw; (try dsimp only at hSw); go_simp; first | done | with_reducible rfl)
  try simp only [Act.put, List.setIfInBounds_toArray, List.set_cons_zero, List.set_cons_succ]
  refine need_turnL (i := 5) rfl (by kernel_rfl) (by rfl) (fun K' hK' => ?_)
  go_simp
  refine (k1.out _ hTd.out).mono ?_
  rintro e w2 ⟨rfl, hT2⟩
  refine hK' _ _ (fun _ => hs.out _ _ _ hT2) ?_
  clear hK' K'
  try simp only [Act.put, List.setIfInBounds_toArray, List.set_cons_zero, List.set_cons_succ]
  refine need_turnL (i := 13) rfl (by kernel_rfl) (by rfl) (fun K' hK' => ?_)
  go_simp
  refine (k2.out _ hT2).mono ?_
  rintro e w3 ⟨rfl, hT3⟩
  refine hK' _ _ (fun _ => hs.out _ _ _ hT3) ?_
  clear hK' K'
  try simp only [Act.put, List.setIfInBounds_toArray, List.set_cons_zero, List.set_cons_succ]
  refine need_turnL (i := 14) rfl (by kernel_rfl) (by rfl) (fun K' hK' => ?_)
  go_simp
  refine hK' _ _ (fun _ => hs.out _ _ _ hT3) ?_
  clear hK' K'
  try simp only [Act.put, List.setIfInBounds_toArray, List.set_cons_zero, List.set_cons_succ]
  refine need_turnL (i := 15) rfl (by kernel_rfl) (by rfl) (fun K' hK' => ?_)
  go_simp
  refine hK' _ _ (fun _ => hs.out _ _ _ hT3) ?_
  clear hK' K'
  try simp only [Act.put, List.setIfInBounds_toArray, List.set_cons_zero, List.set_cons_succ]
  refine need_done (by kernel_rfl) ?_ _
  have hT4 := hT3.rest
  rw [hD2.out, hP2.out] at hT4
  replace hT4 := Lib.hid hT4
  clear hS0 k1 k2 hTd hT2 hT3 hs hD2 hP2
  go_wp2
  go_ret
  exact ⟨⟨_, rfl, hfin.out⟩, hT4.out⟩
set_option maxRecDepth 100000 in
set_option maxHeartbeats 2000000 in
theorem udoes_set_true (L : IsAsr R) (h : Held w W (star (deskA g (N2 g pl pk) (st :: past)) (star (docA pd (st2 :: past2)) R))) (c : Ucall) (hs : c.Second = true) (h0 : c.Kind = 1) (hl : past.length < 10000) (hl2 : past2.length < 10000) (_x1 : (selU true st).length ≤ 10000) (y1 : st2.1.length ≤ 10000) (y2 : st2.2.length ≤ 10000) :
    Calls Try.prog 10 #[.pointer (some ⟨g, 0, none⟩), .pointer (some ⟨pl, 0, none⟩), .pointer (some ⟨pk, 0, none⟩), .pointer (some ⟨pd, 0, none⟩), ucallV c] W fun e w' => DoesU (st :: past) (st2 :: past2) e ∧ Held w w' (star (deskA g (N2 g pl pk) (histU (st :: past) c)) (star (docA pd (histU (st2 :: past2) c)) R)) := by
  have hT0 := h.box ((isAsr_desk (isAsr_N2 g pl pk) g _).star ((isAsr_doc _ _).star L)) c.cells 33
  obtain ⟨la, lb, ra, rb, hd, hT1⟩ := hT0.pull3.openDoc
  have hnow := Lib.hid (pastNow_h ((isAsr_box _ _).star ((isAsr_desk (isAsr_N2 g pl pk) g _).star L)) hT1 (by rw [hd.lenA]; omega) (by rw [hd.lenB]; omega))
  obtain ⟨q0, q1, q2, q3, lB⟩ := ubox hT0.boxAt.1
  have hlenA : ra.len = st2.1.length := by rw [Rw.reads_len hT1.pastReads.1, hd.ra]
  have hlenB : rb.len = st2.2.length := by rw [Rw.reads_len hT1.pastReads.2, hd.rb]
  rw [ucallV_eq]
  replace hnow := Lib.hid (show Calls Try.prog 12 #[.pointer (some ⟨pd, 0, none⟩)] (W.alloc (.cells c.cells.toArray 33)) fun e w2 => e = .returned (.tuple #[.slice ra.ao st2.1.length ra.cap, .slice rb.ao st2.2.length rb.cap]) ∧ Held w w2 (star (boxA W.heap.size c.cells) (star (deskA g (N2 g pl pk) (st :: past)) (star (docA pd (st2 :: past2)) R))) from
    hnow.out.mono (fun _ _ ⟨a, b⟩ => ⟨by rw [a]; unfold Rw.val; rw [hlenA, hlenB], (b.shutDoc hd).push3⟩))
  generalize ra.ao = a1 at *
  generalize rb.ao = a2 at *
  generalize ra.cap = d1 at *
  generalize rb.cap = d2 at *
  clear hT0 hT1 hd hlenA hlenB h
  obtain ⟨kind, sec, ci, cx⟩ := c
  dsimp only at *
  subst hs
  subst h0
  go_enter Try.func10, Try.ntmps10
  go_upto_region 1 with (fail)
  change Code.wp _ _ _ _ (W.alloc (.cells (Ucall.mk 1 true ci cx).cells.toArray 33))
  generalize W.alloc (.cells (Ucall.mk 1 true ci cx).cells.toArray 33) = W0 at *
  generalize hcs : (Ucall.mk 1 true ci cx).cells = cs at *
  go_wp2_with fail
  refine hnow.out.mono ?_
  rintro e w1 ⟨rfl, hT⟩
  clear hnow q0 q1 q2 q3 lB
  obtain ⟨q0, q1, q2, q3, lB⟩ := ubox (c := ⟨1, true, ci, cx⟩) (by rw [hcs]; exact hT.boxAt.1)
  dsimp only at q0 q1 q2 q3
  have hh : ∀ (s : StU) (p : List StU), histU (s :: p) ⟨1, true, ci, cx⟩ = (if hasU (selU true s) ci then setU true s ci.toNat cx :: s :: p else s :: p) := fun s p => by unfold histU; rfl
  obtain ⟨D2, hD2⟩ : ∃ D, D = histU (st :: past) ⟨1, true, ci, cx⟩ := ⟨_, rfl⟩
  obtain ⟨P2, hP2⟩ : ∃ D, D = histU (st2 :: past2) ⟨1, true, ci, cx⟩ := ⟨_, rfl⟩
  have k1 := Lib.hid (fun W1 (hT : Held w W1 (star (boxA W.heap.size cs) (star (deskA g (N2 g pl pk) (st :: past)) (star (docA pd (st2 :: past2)) R)))) => (show Calls Try.prog 20 #[.pointer (some ⟨pk, 0, none⟩), .int .i64 ci, .int .i64 cx] W1 fun e w2 => e = .returned (.bool (hasU (selU true st) ci)) ∧ Held w w2 (star (boxA W.heap.size cs) (star (deskA g (N2 g pl pk) D2) (star (docA pd (st2 :: past2)) R))) from by
    rw [hD2, hh]
    cases hu : hasU (selU true st) ci with
    | true => exact (desk2_set ((isAsr_box _ _).star ((isAsr_doc _ _).star L)) hT.pull true ci cx hu (by omega)).mono (fun _ _ ⟨a, b⟩ => ⟨a, b.pull⟩)
    | false => exact (desk2_set_out ((isAsr_box _ _).star ((isAsr_doc _ _).star L)) hT.pull true ci cx hu).mono (fun _ _ ⟨a, b⟩ => ⟨a, b.pull⟩)))
  have k2 := Lib.hid (fun W1 (hT : Held w W1 (star (boxA W.heap.size cs) (star (deskA g (N2 g pl pk) D2) (star (docA pd (st2 :: past2)) R)))) => (show Calls Try.prog 23 #[.pointer (some ⟨pd, 0, none⟩), .bool true, .int .i64 ci, .int .i64 cx] W1 fun e w2 => e = .returned (.bool (hasU (selU true st2) ci)) ∧ Held w w2 (star (boxA W.heap.size cs) (star (deskA g (N2 g pl pk) D2) (star (docA pd P2) R))) from by
    rw [hP2, hh]
    cases hu : hasU (selU true st2) ci with
    | true => exact (docSet_h ((isAsr_box _ _).star ((isAsr_desk (isAsr_N2 g pl pk) g _).star L)) hT.pull3 hl2 y1 y2 true ci cx hu).mono (fun _ _ ⟨a, b⟩ => ⟨a, b.push3⟩)
    | false => exact (docSet_out ((isAsr_box _ _).star ((isAsr_desk (isAsr_N2 g pl pk) g _).star L)) hT.pull3 hl2 true ci cx hu).mono (fun _ _ ⟨a, b⟩ => ⟨a, b.push3⟩)))
  have hs := Lib.hid (fun W1 (D P : Asr) (h : Held w W1 (star (boxA W.heap.size cs) (star D P))) => show (W1.cell? ⟨W.heap.size, 1, none⟩ = some (.bool true) ∧ W.heap.size < W1.heap.size) ∧ W1.cell? ⟨W.heap.size, 2, none⟩ = some (.int .i64 ci) ∧ W1.cell? ⟨W.heap.size, 3, none⟩ = some (.int .i64 cx) from by
    obtain ⟨-, q1, q2, q3, lB⟩ := ubox (c := ⟨1, true, ci, cx⟩) (by rw [hcs]; exact h.boxAt.1)
    exact ⟨⟨q1, lB⟩, q2, q3⟩)
  have hTd := hT.later ((isAsr_box _ _).star ((isAsr_desk (isAsr_N2 g pl pk) g _).star ((isAsr_doc _ _).star L))) (Below.refl _ _).drew
  replace hTd := Lib.hid hTd
  have hfin : st :: past = st2 :: past2 → (hasU (selU true st) ci == hasU (selU true st2) ci) = true := fun e => by
    injection e with e _
    rw [← e]
    exact beq_self_eq_true _
  clear hh
  replace hD2 := Lib.hid hD2
  replace hP2 := Lib.hid hP2
  obtain ⟨u1, hu1⟩ : ∃ u, u = hasU (selU true st) ci := ⟨_, rfl⟩
  obtain ⟨u2, hu2⟩ : ∃ u, u = hasU (selU true st2) ci := ⟨_, rfl⟩
  rw [← hu1] at k1 hfin
  rw [← hu2] at k2 hfin
  clear hu1 hu2
  have hgo : Held w w1.drew (star (boxA W.heap.size cs) (star (deskA g (N2 g pl pk) D2) (star (docA pd P2) R))) → True := fun _ => trivial
  clear hgo hT
  replace hfin := Lib.hid hfin
  go_upto_region 13 with (fail)
  clear q0 q1 q2 q3 lB
  refine wp_region_need (fun w' => (w'.cell? ⟨W.heap.size, 1, none⟩ = some (.bool true) ∧ W.heap.size < w'.heap.size) ∧ w'.cell? ⟨W.heap.size, 2, none⟩ = some (.int .i64 ci) ∧ w'.cell? ⟨W.heap.size, 3, none⟩ = some (.int .i64 cx)) [0, 1, 2, 3, 4, 6, 7, 8, 9, 10, 11, 12] (by kernel_rfl) ?_
  have hS0 := hs.out _ _ _ hTd.out
  refine need_takeL (i := 0) (v := ?cv353) rfl rfl (by kernel_rfl) (by kernel_rfl) (by kernel_rfl) (fun _ _ _ h => h) (Or.inl ⟨by rfl, ?ch353⟩) hS0 ?cr353
  case ch353 => (intro w' hSw; (try dsimp only at hSw); go_simp; first | done | with_reducible rfl)
  try simp only [Act.put, List.setIfInBounds_toArray, List.set_cons_zero, List.set_cons_succ]
  refine need_takeL (i := 1) (v := ?cv356) rfl rfl (by kernel_rfl) (by kernel_rfl) (by kernel_rfl) (fun _ _ _ h => h) (Or.inl ⟨by rfl, ?ch356⟩) hS0 ?cr356
  case ch356 => (intro w' hSw; (try dsimp only at hSw); go_simp; first | done | with_reducible rfl)
  try simp only [Act.put, List.setIfInBounds_toArray, List.set_cons_zero, List.set_cons_succ]
  refine need_takeL (i := 2) (v := ?cv359) rfl rfl (by kernel_rfl) (by kernel_rfl) (by kernel_rfl) (fun _ _ _ h => h) (Or.inl ⟨by rfl, ?ch359⟩) hS0 ?cr359
  case ch359 => (intro w' hSw; (try dsimp only at hSw); go_simp; first | done | with_reducible rfl)
  try simp only [Act.put, List.setIfInBounds_toArray, List.set_cons_zero, List.set_cons_succ]
  refine need_takeL (i := 3) (v := ?cv362) rfl rfl (by kernel_rfl) (by kernel_rfl) (by kernel_rfl) (fun _ _ _ h => h) (Or.inl ⟨by rfl, ?ch362⟩) hS0 ?cr362
  case ch362 => (intro w' hSw; (try dsimp only at hSw); go_simp; first | done | with_reducible rfl)
  try simp only [Act.put, List.setIfInBounds_toArray, List.set_cons_zero, List.set_cons_succ]
  refine need_takeL (i := 4) (v := ?cv365) rfl rfl (by kernel_rfl) (by kernel_rfl) (by kernel_rfl) (fun _ _ _ h => h) (Or.inl ⟨by rfl, ?ch365⟩) hS0 ?cr365
  case ch365 => (intro w' hSw; (try dsimp only at hSw); go_simp; first | done | with_reducible rfl)
  try simp only [Act.put, List.setIfInBounds_toArray, List.set_cons_zero, List.set_cons_succ]
  refine need_takeL (i := 6) (v := ?cv368) rfl rfl (by kernel_rfl) (by kernel_rfl) (by kernel_rfl) (fun _ _ _ h => h) (Or.inl ⟨by rfl, ?ch368⟩) hS0 ?cr368
  case ch368 => (intro w' hSw; (try dsimp only at hSw); go_simp; first | done | with_reducible rfl)
  try simp only [Act.put, List.setIfInBounds_toArray, List.set_cons_zero, List.set_cons_succ]
  refine need_takeL (i := 7) (v := ?cv371) rfl rfl (by kernel_rfl) (by kernel_rfl) (by kernel_rfl) (fun _ _ _ h => h) (Or.inl ⟨by rfl, ?ch371⟩) hS0 ?cr371
  case ch371 => (intro w' hSw; (try dsimp only at hSw); go_simp; first | done | with_reducible rfl)
  try simp only [Act.put, List.setIfInBounds_toArray, List.set_cons_zero, List.set_cons_succ]
  refine need_takeL (i := 8) (v := ?cv374) rfl rfl (by kernel_rfl) (by kernel_rfl) (by kernel_rfl) (fun _ _ _ h => h) (Or.inl ⟨by rfl, ?ch374⟩) hS0 ?cr374
  case ch374 => (intro w' hSw; (try dsimp only at hSw); go_simp; first | done | with_reducible rfl)
  try simp only [Act.put, List.setIfInBounds_toArray, List.set_cons_zero, List.set_cons_succ]
  refine need_takeL (i := 9) (v := ?cv377) rfl rfl (by kernel_rfl) (by kernel_rfl) (by kernel_rfl) (fun _ _ _ h => h) (Or.inl ⟨by rfl, ?ch377⟩) hS0 ?cr377
  case ch377 => (intro w' hSw; (try dsimp only at hSw); go_simp; first | done | with_reducible rfl)
  try simp only [Act.put, List.setIfInBounds_toArray, List.set_cons_zero, List.set_cons_succ]
  refine need_takeL (i := 10) (v := ?cv380) rfl rfl (by kernel_rfl) (by kernel_rfl) (by kernel_rfl) (fun _ _ _ h => h) (Or.inl ⟨by rfl, ?ch380⟩) hS0 ?cr380
  case ch380 => (intro w' hSw; (try dsimp only at hSw); go_simp; first | done | with_reducible rfl)
  try simp only [Act.put, List.setIfInBounds_toArray, List.set_cons_zero, List.set_cons_succ]
  refine need_takeL (i := 11) (v := ?cv383) rfl rfl (by kernel_rfl) (by kernel_rfl) (by kernel_rfl) (fun _ _ _ h => h) (Or.inl ⟨by rfl, ?ch383⟩) hS0 ?cr383
  case ch383 => (intro w' hSw; (try dsimp only at hSw); go_simp; first | done | with_reducible rfl)
  try simp only [Act.put, List.setIfInBounds_toArray, List.set_cons_zero, List.set_cons_succ]
  refine need_takeL (i := 12) (v := ?cv386) rfl rfl (by kernel_rfl) (by kernel_rfl) (by kernel_rfl) (fun _ _ _ h => h) (Or.inl ⟨by rfl, ?ch386⟩) hS0 ?cr386
  case ch386 => (intro w' hSw; (try dsimp only at hSw); go_simp; first | done | with_reducible rfl)
  try simp only [Act.put, List.setIfInBounds_toArray, List.set_cons_zero, List.set_cons_succ]
  refine need_turnL (i := 5) rfl (by kernel_rfl) (by rfl) (fun K' hK' => ?_)
  go_simp
  refine (k1.out _ hTd.out).mono ?_
  rintro e w2 ⟨rfl, hT2⟩
  refine hK' _ _ (fun _ => hs.out _ _ _ hT2) ?_
  clear hK' K'
  try simp only [Act.put, List.setIfInBounds_toArray, List.set_cons_zero, List.set_cons_succ]
  refine need_turnL (i := 13) rfl (by kernel_rfl) (by rfl) (fun K' hK' => ?_)
  go_simp
  refine (k2.out _ hT2).mono ?_
  rintro e w3 ⟨rfl, hT3⟩
  refine hK' _ _ (fun _ => hs.out _ _ _ hT3) ?_
  clear hK' K'
  try simp only [Act.put, List.setIfInBounds_toArray, List.set_cons_zero, List.set_cons_succ]
  refine need_turnL (i := 14) rfl (by kernel_rfl) (by rfl) (fun K' hK' => ?_)
  go_simp
  refine hK' _ _ (fun _ => hs.out _ _ _ hT3) ?_
  clear hK' K'
  try simp only [Act.put, List.setIfInBounds_toArray, List.set_cons_zero, List.set_cons_succ]
  refine need_turnL (i := 15) rfl (by kernel_rfl) (by rfl) (fun K' hK' => ?_)
  go_simp
  refine hK' _ _ (fun _ => hs.out _ _ _ hT3) ?_
  clear hK' K'
  try simp only [Act.put, List.setIfInBounds_toArray, List.set_cons_zero, List.set_cons_succ]
  refine need_done (by kernel_rfl) ?_ _
  have hT4 := hT3.rest
  rw [hD2.out, hP2.out] at hT4
  replace hT4 := Lib.hid hT4
  clear hS0 k1 k2 hTd hT2 hT3 hs hD2 hP2
  go_wp2
  go_ret
  exact ⟨⟨_, rfl, hfin.out⟩, hT4.out⟩
set_option maxRecDepth 100000 in
set_option maxHeartbeats 2000000 in
theorem udoes_back_false (L : IsAsr R) (h : Held w W (star (deskA g (N2 g pl pk) (st :: past)) (star (docA pd (st2 :: past2)) R))) (c : Ucall) (hs : c.Second = false) (h0 : c.Kind = 2) (hl : past.length < 10000) (hl2 : past2.length < 10000) (_x1 : (selU false st).length ≤ 10000) (_y1 : st2.1.length ≤ 10000) (_y2 : st2.2.length ≤ 10000) :
    Calls Try.prog 10 #[.pointer (some ⟨g, 0, none⟩), .pointer (some ⟨pl, 0, none⟩), .pointer (some ⟨pk, 0, none⟩), .pointer (some ⟨pd, 0, none⟩), ucallV c] W fun e w' => DoesU (st :: past) (st2 :: past2) e ∧ Held w w' (star (deskA g (N2 g pl pk) (histU (st :: past) c)) (star (docA pd (histU (st2 :: past2) c)) R)) := by
  have hh : ∀ (s : StU) (p : List StU), histU (s :: p) c = ((s :: p).drop (p.length - c.I.toNat)) := fun s p => by unfold histU; rw [h0]; rfl
  rw [hh, hh]
  clear hh
  have hT0 := h.box ((isAsr_desk (isAsr_N2 g pl pk) g _).star ((isAsr_doc _ _).star L)) c.cells 33
  obtain ⟨la, lb, ra, rb, hd, hT1⟩ := hT0.pull3.openDoc
  have hnow := Lib.hid (pastNow_h ((isAsr_box _ _).star ((isAsr_desk (isAsr_N2 g pl pk) g _).star L)) hT1 (by rw [hd.lenA]; omega) (by rw [hd.lenB]; omega))
  obtain ⟨q0, q1, q2, q3, lB⟩ := ubox hT0.boxAt.1
  have hlenA : ra.len = st2.1.length := by rw [Rw.reads_len hT1.pastReads.1, hd.ra]
  have hlenB : rb.len = st2.2.length := by rw [Rw.reads_len hT1.pastReads.2, hd.rb]
  rw [ucallV_eq]
  replace hnow := Lib.hid (show Calls Try.prog 12 #[.pointer (some ⟨pd, 0, none⟩)] (W.alloc (.cells c.cells.toArray 33)) fun e w2 => e = .returned (.tuple #[.slice ra.ao st2.1.length ra.cap, .slice rb.ao st2.2.length rb.cap]) ∧ Held w w2 (star (boxA W.heap.size c.cells) (star (deskA g (N2 g pl pk) (st :: past)) (star (docA pd (st2 :: past2)) R))) from
    hnow.out.mono (fun _ _ ⟨a, b⟩ => ⟨by rw [a]; unfold Rw.val; rw [hlenA, hlenB], (b.shutDoc hd).push3⟩))
  generalize ra.ao = a1 at *
  generalize rb.ao = a2 at *
  generalize ra.cap = d1 at *
  generalize rb.cap = d2 at *
  clear hT0 hT1 hd hlenA hlenB h
  obtain ⟨kind, sec, ci, cx⟩ := c
  dsimp only at *
  subst hs
  subst h0
  go_enter Try.func10, Try.ntmps10
  go_upto_region 1 with (fail)
  change Code.wp _ _ _ _ (W.alloc (.cells (Ucall.mk 2 false ci cx).cells.toArray 33))
  generalize W.alloc (.cells (Ucall.mk 2 false ci cx).cells.toArray 33) = W0 at *
  generalize hcs : (Ucall.mk 2 false ci cx).cells = cs at *
  go_wp2_with fail
  refine hnow.out.mono ?_
  rintro e w1 ⟨rfl, hT⟩
  clear hnow q0 q1 q2 q3 lB
  obtain ⟨q0, q1, q2, q3, lB⟩ := ubox (c := ⟨2, false, ci, cx⟩) (by rw [hcs]; exact hT.boxAt.1)
  dsimp only at q0 q1 q2 q3
  have k1 := Lib.hid ((desk_back (isAsr_N2 g pl pk) ((isAsr_box _ _).star ((isAsr_doc _ _).star L)) (by omega) ci hT.pull).mono (R' := fun e w2 => e = .returned (.tuple #[]) ∧ Held w w2 (star (boxA W.heap.size cs) (star (deskA g (N2 g pl pk) ((st :: past).drop (past.length - ci.toNat))) (star (docA pd (st2 :: past2)) R)))) (fun _ _ ⟨a, b⟩ => ⟨a, b.pull⟩))
  clear hT
  go_wp2_with fail
  refine k1.out.mono ?_
  rintro e w2 ⟨rfl, hT2⟩
  clear k1 q0 q1 q2 q3 lB
  obtain ⟨q0, q1, q2, q3, lB⟩ := ubox (c := ⟨2, false, ci, cx⟩) (by rw [hcs]; exact hT2.boxAt.1)
  dsimp only at q0 q1 q2 q3
  have k2 := Lib.hid ((docBack_h ((isAsr_box _ _).star ((isAsr_desk (isAsr_N2 g pl pk) g _).star L)) hT2.pull3 hl2 ci).mono (R' := fun e w2 => e = .returned (.tuple #[]) ∧ Held w w2 (star (boxA W.heap.size cs) (star (deskA g (N2 g pl pk) ((st :: past).drop (past.length - ci.toNat))) (star (docA pd ((st2 :: past2).drop (past2.length - ci.toNat))) R)))) (fun _ _ ⟨a, b⟩ => ⟨a, b.push3⟩))
  clear hT2
  go_wp2_with fail
  refine k2.out.mono ?_
  rintro e w3 ⟨rfl, hT3⟩
  replace hT3 := Lib.hid hT3.rest
  clear k2 q0 q1 q2 q3 lB
  go_wp2
  go_ret
  exact ⟨⟨_, rfl, fun _ => rfl⟩, hT3.out⟩
set_option maxRecDepth 100000 in
set_option maxHeartbeats 2000000 in
theorem udoes_back_true (L : IsAsr R) (h : Held w W (star (deskA g (N2 g pl pk) (st :: past)) (star (docA pd (st2 :: past2)) R))) (c : Ucall) (hs : c.Second = true) (h0 : c.Kind = 2) (hl : past.length < 10000) (hl2 : past2.length < 10000) (_x1 : (selU true st).length ≤ 10000) (_y1 : st2.1.length ≤ 10000) (_y2 : st2.2.length ≤ 10000) :
    Calls Try.prog 10 #[.pointer (some ⟨g, 0, none⟩), .pointer (some ⟨pl, 0, none⟩), .pointer (some ⟨pk, 0, none⟩), .pointer (some ⟨pd, 0, none⟩), ucallV c] W fun e w' => DoesU (st :: past) (st2 :: past2) e ∧ Held w w' (star (deskA g (N2 g pl pk) (histU (st :: past) c)) (star (docA pd (histU (st2 :: past2) c)) R)) := by
  have hh : ∀ (s : StU) (p : List StU), histU (s :: p) c = ((s :: p).drop (p.length - c.I.toNat)) := fun s p => by unfold histU; rw [h0]; rfl
  rw [hh, hh]
  clear hh
  have hT0 := h.box ((isAsr_desk (isAsr_N2 g pl pk) g _).star ((isAsr_doc _ _).star L)) c.cells 33
  obtain ⟨la, lb, ra, rb, hd, hT1⟩ := hT0.pull3.openDoc
  have hnow := Lib.hid (pastNow_h ((isAsr_box _ _).star ((isAsr_desk (isAsr_N2 g pl pk) g _).star L)) hT1 (by rw [hd.lenA]; omega) (by rw [hd.lenB]; omega))
  obtain ⟨q0, q1, q2, q3, lB⟩ := ubox hT0.boxAt.1
  have hlenA : ra.len = st2.1.length := by rw [Rw.reads_len hT1.pastReads.1, hd.ra]
  have hlenB : rb.len = st2.2.length := by rw [Rw.reads_len hT1.pastReads.2, hd.rb]
  rw [ucallV_eq]
  replace hnow := Lib.hid (show Calls Try.prog 12 #[.pointer (some ⟨pd, 0, none⟩)] (W.alloc (.cells c.cells.toArray 33)) fun e w2 => e = .returned (.tuple #[.slice ra.ao st2.1.length ra.cap, .slice rb.ao st2.2.length rb.cap]) ∧ Held w w2 (star (boxA W.heap.size c.cells) (star (deskA g (N2 g pl pk) (st :: past)) (star (docA pd (st2 :: past2)) R))) from
    hnow.out.mono (fun _ _ ⟨a, b⟩ => ⟨by rw [a]; unfold Rw.val; rw [hlenA, hlenB], (b.shutDoc hd).push3⟩))
  generalize ra.ao = a1 at *
  generalize rb.ao = a2 at *
  generalize ra.cap = d1 at *
  generalize rb.cap = d2 at *
  clear hT0 hT1 hd hlenA hlenB h
  obtain ⟨kind, sec, ci, cx⟩ := c
  dsimp only at *
  subst hs
  subst h0
  go_enter Try.func10, Try.ntmps10
  go_upto_region 1 with (fail)
  change Code.wp _ _ _ _ (W.alloc (.cells (Ucall.mk 2 true ci cx).cells.toArray 33))
  generalize W.alloc (.cells (Ucall.mk 2 true ci cx).cells.toArray 33) = W0 at *
  generalize hcs : (Ucall.mk 2 true ci cx).cells = cs at *
  go_wp2_with fail
  refine hnow.out.mono ?_
  rintro e w1 ⟨rfl, hT⟩
  clear hnow q0 q1 q2 q3 lB
  obtain ⟨q0, q1, q2, q3, lB⟩ := ubox (c := ⟨2, true, ci, cx⟩) (by rw [hcs]; exact hT.boxAt.1)
  dsimp only at q0 q1 q2 q3
  have k1 := Lib.hid ((desk_back (isAsr_N2 g pl pk) ((isAsr_box _ _).star ((isAsr_doc _ _).star L)) (by omega) ci hT.pull).mono (R' := fun e w2 => e = .returned (.tuple #[]) ∧ Held w w2 (star (boxA W.heap.size cs) (star (deskA g (N2 g pl pk) ((st :: past).drop (past.length - ci.toNat))) (star (docA pd (st2 :: past2)) R)))) (fun _ _ ⟨a, b⟩ => ⟨a, b.pull⟩))
  clear hT
  go_wp2_with fail
  refine k1.out.mono ?_
  rintro e w2 ⟨rfl, hT2⟩
  clear k1 q0 q1 q2 q3 lB
  obtain ⟨q0, q1, q2, q3, lB⟩ := ubox (c := ⟨2, true, ci, cx⟩) (by rw [hcs]; exact hT2.boxAt.1)
  dsimp only at q0 q1 q2 q3
  have k2 := Lib.hid ((docBack_h ((isAsr_box _ _).star ((isAsr_desk (isAsr_N2 g pl pk) g _).star L)) hT2.pull3 hl2 ci).mono (R' := fun e w2 => e = .returned (.tuple #[]) ∧ Held w w2 (star (boxA W.heap.size cs) (star (deskA g (N2 g pl pk) ((st :: past).drop (past.length - ci.toNat))) (star (docA pd ((st2 :: past2).drop (past2.length - ci.toNat))) R)))) (fun _ _ ⟨a, b⟩ => ⟨a, b.push3⟩))
  clear hT2
  go_wp2_with fail
  refine k2.out.mono ?_
  rintro e w3 ⟨rfl, hT3⟩
  replace hT3 := Lib.hid hT3.rest
  clear k2 q0 q1 q2 q3 lB
  go_wp2
  go_ret
  exact ⟨⟨_, rfl, fun _ => rfl⟩, hT3.out⟩
set_option maxRecDepth 100000 in
set_option maxHeartbeats 2000000 in
theorem udoes_clear_false (L : IsAsr R) (h : Held w W (star (deskA g (N2 g pl pk) (st :: past)) (star (docA pd (st2 :: past2)) R))) (c : Ucall) (hs : c.Second = false) (h0 : c.Kind = 3) (_hl : past.length < 10000) (hl2 : past2.length < 10000) (_x1 : (selU false st).length ≤ 10000) (_y1 : st2.1.length ≤ 10000) (_y2 : st2.2.length ≤ 10000) :
    Calls Try.prog 10 #[.pointer (some ⟨g, 0, none⟩), .pointer (some ⟨pl, 0, none⟩), .pointer (some ⟨pk, 0, none⟩), .pointer (some ⟨pd, 0, none⟩), ucallV c] W fun e w' => DoesU (st :: past) (st2 :: past2) e ∧ Held w w' (star (deskA g (N2 g pl pk) (histU (st :: past) c)) (star (docA pd (histU (st2 :: past2) c)) R)) := by
  have hh : ∀ (s : StU) (p : List StU), histU (s :: p) c = [s] := fun s p => by unfold histU; rw [h0]; rfl
  rw [hh, hh]
  clear hh
  have hT0 := h.box ((isAsr_desk (isAsr_N2 g pl pk) g _).star ((isAsr_doc _ _).star L)) c.cells 33
  obtain ⟨la, lb, ra, rb, hd, hT1⟩ := hT0.pull3.openDoc
  have hnow := Lib.hid (pastNow_h ((isAsr_box _ _).star ((isAsr_desk (isAsr_N2 g pl pk) g _).star L)) hT1 (by rw [hd.lenA]; omega) (by rw [hd.lenB]; omega))
  obtain ⟨q0, q1, q2, q3, lB⟩ := ubox hT0.boxAt.1
  have hlenA : ra.len = st2.1.length := by rw [Rw.reads_len hT1.pastReads.1, hd.ra]
  have hlenB : rb.len = st2.2.length := by rw [Rw.reads_len hT1.pastReads.2, hd.rb]
  rw [ucallV_eq]
  replace hnow := Lib.hid (show Calls Try.prog 12 #[.pointer (some ⟨pd, 0, none⟩)] (W.alloc (.cells c.cells.toArray 33)) fun e w2 => e = .returned (.tuple #[.slice ra.ao st2.1.length ra.cap, .slice rb.ao st2.2.length rb.cap]) ∧ Held w w2 (star (boxA W.heap.size c.cells) (star (deskA g (N2 g pl pk) (st :: past)) (star (docA pd (st2 :: past2)) R))) from
    hnow.out.mono (fun _ _ ⟨a, b⟩ => ⟨by rw [a]; unfold Rw.val; rw [hlenA, hlenB], (b.shutDoc hd).push3⟩))
  generalize ra.ao = a1 at *
  generalize rb.ao = a2 at *
  generalize ra.cap = d1 at *
  generalize rb.cap = d2 at *
  clear hT0 hT1 hd hlenA hlenB h
  obtain ⟨kind, sec, ci, cx⟩ := c
  dsimp only at *
  subst hs
  subst h0
  go_enter Try.func10, Try.ntmps10
  go_upto_region 1 with (fail)
  change Code.wp _ _ _ _ (W.alloc (.cells (Ucall.mk 3 false ci cx).cells.toArray 33))
  generalize W.alloc (.cells (Ucall.mk 3 false ci cx).cells.toArray 33) = W0 at *
  generalize hcs : (Ucall.mk 3 false ci cx).cells = cs at *
  go_wp2_with fail
  refine hnow.out.mono ?_
  rintro e w1 ⟨rfl, hT⟩
  clear hnow q0 q1 q2 q3 lB
  obtain ⟨q0, q1, q2, q3, lB⟩ := ubox (c := ⟨3, false, ci, cx⟩) (by rw [hcs]; exact hT.boxAt.1)
  dsimp only at q0 q1 q2 q3
  have k1 := Lib.hid ((desk_clear (isAsr_N2 g pl pk) ((isAsr_box _ _).star ((isAsr_doc _ _).star L)) hT.pull).mono (R' := fun e w2 => e = .returned (.tuple #[]) ∧ Held w w2 (star (boxA W.heap.size cs) (star (deskA g (N2 g pl pk) [st]) (star (docA pd (st2 :: past2)) R)))) (fun _ _ ⟨a, b⟩ => ⟨a, b.pull⟩))
  clear hT
  go_wp2_with fail
  refine k1.out.mono ?_
  rintro e w2 ⟨rfl, hT2⟩
  clear k1 q0 q1 q2 q3 lB
  obtain ⟨q0, q1, q2, q3, lB⟩ := ubox (c := ⟨3, false, ci, cx⟩) (by rw [hcs]; exact hT2.boxAt.1)
  dsimp only at q0 q1 q2 q3
  have k2 := Lib.hid ((docClear_h ((isAsr_box _ _).star ((isAsr_desk (isAsr_N2 g pl pk) g _).star L)) hT2.pull3 hl2).mono (R' := fun e w2 => e = .returned (.tuple #[]) ∧ Held w w2 (star (boxA W.heap.size cs) (star (deskA g (N2 g pl pk) [st]) (star (docA pd [st2]) R)))) (fun _ _ ⟨a, b⟩ => ⟨a, b.push3⟩))
  clear hT2
  go_wp2_with fail
  refine k2.out.mono ?_
  rintro e w3 ⟨rfl, hT3⟩
  replace hT3 := Lib.hid hT3.rest
  clear k2 q0 q1 q2 q3 lB
  go_wp2
  go_ret
  exact ⟨⟨_, rfl, fun _ => rfl⟩, hT3.out⟩
set_option maxRecDepth 100000 in
set_option maxHeartbeats 2000000 in
theorem udoes_clear_true (L : IsAsr R) (h : Held w W (star (deskA g (N2 g pl pk) (st :: past)) (star (docA pd (st2 :: past2)) R))) (c : Ucall) (hs : c.Second = true) (h0 : c.Kind = 3) (_hl : past.length < 10000) (hl2 : past2.length < 10000) (_x1 : (selU true st).length ≤ 10000) (_y1 : st2.1.length ≤ 10000) (_y2 : st2.2.length ≤ 10000) :
    Calls Try.prog 10 #[.pointer (some ⟨g, 0, none⟩), .pointer (some ⟨pl, 0, none⟩), .pointer (some ⟨pk, 0, none⟩), .pointer (some ⟨pd, 0, none⟩), ucallV c] W fun e w' => DoesU (st :: past) (st2 :: past2) e ∧ Held w w' (star (deskA g (N2 g pl pk) (histU (st :: past) c)) (star (docA pd (histU (st2 :: past2) c)) R)) := by
  have hh : ∀ (s : StU) (p : List StU), histU (s :: p) c = [s] := fun s p => by unfold histU; rw [h0]; rfl
  rw [hh, hh]
  clear hh
  have hT0 := h.box ((isAsr_desk (isAsr_N2 g pl pk) g _).star ((isAsr_doc _ _).star L)) c.cells 33
  obtain ⟨la, lb, ra, rb, hd, hT1⟩ := hT0.pull3.openDoc
  have hnow := Lib.hid (pastNow_h ((isAsr_box _ _).star ((isAsr_desk (isAsr_N2 g pl pk) g _).star L)) hT1 (by rw [hd.lenA]; omega) (by rw [hd.lenB]; omega))
  obtain ⟨q0, q1, q2, q3, lB⟩ := ubox hT0.boxAt.1
  have hlenA : ra.len = st2.1.length := by rw [Rw.reads_len hT1.pastReads.1, hd.ra]
  have hlenB : rb.len = st2.2.length := by rw [Rw.reads_len hT1.pastReads.2, hd.rb]
  rw [ucallV_eq]
  replace hnow := Lib.hid (show Calls Try.prog 12 #[.pointer (some ⟨pd, 0, none⟩)] (W.alloc (.cells c.cells.toArray 33)) fun e w2 => e = .returned (.tuple #[.slice ra.ao st2.1.length ra.cap, .slice rb.ao st2.2.length rb.cap]) ∧ Held w w2 (star (boxA W.heap.size c.cells) (star (deskA g (N2 g pl pk) (st :: past)) (star (docA pd (st2 :: past2)) R))) from
    hnow.out.mono (fun _ _ ⟨a, b⟩ => ⟨by rw [a]; unfold Rw.val; rw [hlenA, hlenB], (b.shutDoc hd).push3⟩))
  generalize ra.ao = a1 at *
  generalize rb.ao = a2 at *
  generalize ra.cap = d1 at *
  generalize rb.cap = d2 at *
  clear hT0 hT1 hd hlenA hlenB h
  obtain ⟨kind, sec, ci, cx⟩ := c
  dsimp only at *
  subst hs
  subst h0
  go_enter Try.func10, Try.ntmps10
  go_upto_region 1 with (fail)
  change Code.wp _ _ _ _ (W.alloc (.cells (Ucall.mk 3 true ci cx).cells.toArray 33))
  generalize W.alloc (.cells (Ucall.mk 3 true ci cx).cells.toArray 33) = W0 at *
  generalize hcs : (Ucall.mk 3 true ci cx).cells = cs at *
  go_wp2_with fail
  refine hnow.out.mono ?_
  rintro e w1 ⟨rfl, hT⟩
  clear hnow q0 q1 q2 q3 lB
  obtain ⟨q0, q1, q2, q3, lB⟩ := ubox (c := ⟨3, true, ci, cx⟩) (by rw [hcs]; exact hT.boxAt.1)
  dsimp only at q0 q1 q2 q3
  have k1 := Lib.hid ((desk_clear (isAsr_N2 g pl pk) ((isAsr_box _ _).star ((isAsr_doc _ _).star L)) hT.pull).mono (R' := fun e w2 => e = .returned (.tuple #[]) ∧ Held w w2 (star (boxA W.heap.size cs) (star (deskA g (N2 g pl pk) [st]) (star (docA pd (st2 :: past2)) R)))) (fun _ _ ⟨a, b⟩ => ⟨a, b.pull⟩))
  clear hT
  go_wp2_with fail
  refine k1.out.mono ?_
  rintro e w2 ⟨rfl, hT2⟩
  clear k1 q0 q1 q2 q3 lB
  obtain ⟨q0, q1, q2, q3, lB⟩ := ubox (c := ⟨3, true, ci, cx⟩) (by rw [hcs]; exact hT2.boxAt.1)
  dsimp only at q0 q1 q2 q3
  have k2 := Lib.hid ((docClear_h ((isAsr_box _ _).star ((isAsr_desk (isAsr_N2 g pl pk) g _).star L)) hT2.pull3 hl2).mono (R' := fun e w2 => e = .returned (.tuple #[]) ∧ Held w w2 (star (boxA W.heap.size cs) (star (deskA g (N2 g pl pk) [st]) (star (docA pd [st2]) R)))) (fun _ _ ⟨a, b⟩ => ⟨a, b.push3⟩))
  clear hT2
  go_wp2_with fail
  refine k2.out.mono ?_
  rintro e w3 ⟨rfl, hT3⟩
  replace hT3 := Lib.hid hT3.rest
  clear k2 q0 q1 q2 q3 lB
  go_wp2
  go_ret
  exact ⟨⟨_, rfl, fun _ => rfl⟩, hT3.out⟩
set_option maxRecDepth 100000 in
set_option maxHeartbeats 2000000 in
theorem udoes_none_false (L : IsAsr R) (h : Held w W (star (deskA g (N2 g pl pk) (st :: past)) (star (docA pd (st2 :: past2)) R))) (c : Ucall) (hs : c.Second = false) (h0 : ¬ c.Kind = 0) (h1 : ¬ c.Kind = 1) (h2 : ¬ c.Kind = 2) (h3 : ¬ c.Kind = 3) (_hl : past.length < 10000) (hl2 : past2.length < 10000) (_x1 : (selU false st).length ≤ 10000) (_y1 : st2.1.length ≤ 10000) (_y2 : st2.2.length ≤ 10000) :
    Calls Try.prog 10 #[.pointer (some ⟨g, 0, none⟩), .pointer (some ⟨pl, 0, none⟩), .pointer (some ⟨pk, 0, none⟩), .pointer (some ⟨pd, 0, none⟩), ucallV c] W fun e w' => DoesU (st :: past) (st2 :: past2) e ∧ Held w w' (star (deskA g (N2 g pl pk) (histU (st :: past) c)) (star (docA pd (histU (st2 :: past2) c)) R)) := by
  have hh : ∀ (s : StU) (p : List StU), histU (s :: p) c = s :: p := fun s p => by unfold histU; dsimp only; rw [if_neg h0, if_neg h1, if_neg h2, if_neg h3]
  rw [hh, hh]
  clear hh
  have hT0 := h.box ((isAsr_desk (isAsr_N2 g pl pk) g _).star ((isAsr_doc _ _).star L)) c.cells 33
  obtain ⟨la, lb, ra, rb, hd, hT1⟩ := hT0.pull3.openDoc
  have hnow := Lib.hid (pastNow_h ((isAsr_box _ _).star ((isAsr_desk (isAsr_N2 g pl pk) g _).star L)) hT1 (by rw [hd.lenA]; omega) (by rw [hd.lenB]; omega))
  obtain ⟨q0, q1, q2, q3, lB⟩ := ubox hT0.boxAt.1
  have hlenA : ra.len = st2.1.length := by rw [Rw.reads_len hT1.pastReads.1, hd.ra]
  have hlenB : rb.len = st2.2.length := by rw [Rw.reads_len hT1.pastReads.2, hd.rb]
  rw [ucallV_eq]
  replace hnow := Lib.hid (show Calls Try.prog 12 #[.pointer (some ⟨pd, 0, none⟩)] (W.alloc (.cells c.cells.toArray 33)) fun e w2 => e = .returned (.tuple #[.slice ra.ao st2.1.length ra.cap, .slice rb.ao st2.2.length rb.cap]) ∧ Held w w2 (star (boxA W.heap.size c.cells) (star (deskA g (N2 g pl pk) (st :: past)) (star (docA pd (st2 :: past2)) R))) from
    hnow.out.mono (fun _ _ ⟨a, b⟩ => ⟨by rw [a]; unfold Rw.val; rw [hlenA, hlenB], (b.shutDoc hd).push3⟩))
  generalize ra.ao = a1 at *
  generalize rb.ao = a2 at *
  generalize ra.cap = d1 at *
  generalize rb.cap = d2 at *
  clear hT0 hT1 hd hlenA hlenB h
  obtain ⟨kind, sec, ci, cx⟩ := c
  dsimp only at *
  subst hs
  have n0 : (kind == 0) = false := beq_eq_false_iff_ne.2 h0
  have n1 : (kind == 1) = false := beq_eq_false_iff_ne.2 h1
  have n2 : (kind == 2) = false := beq_eq_false_iff_ne.2 h2
  have n3 : (kind == 3) = false := beq_eq_false_iff_ne.2 h3
  clear h0 h1 h2 h3
  go_enter Try.func10, Try.ntmps10
  go_upto_region 1 with (fail)
  change Code.wp _ _ _ _ (W.alloc (.cells (Ucall.mk kind false ci cx).cells.toArray 33))
  generalize W.alloc (.cells (Ucall.mk kind false ci cx).cells.toArray 33) = W0 at *
  generalize hcs : (Ucall.mk kind false ci cx).cells = cs at *
  go_wp2_with fail
  refine hnow.out.mono ?_
  rintro e w1 ⟨rfl, hT⟩
  clear hnow q0 q1 q2 q3 lB
  obtain ⟨q0, q1, q2, q3, lB⟩ := ubox (c := ⟨kind, false, ci, cx⟩) (by rw [hcs]; exact hT.boxAt.1)
  dsimp only at q0 q1 q2 q3
  replace hT := Lib.hid hT.rest
  go_wp2
  go_ret
  exact ⟨⟨_, rfl, fun _ => rfl⟩, hT.out⟩
set_option maxRecDepth 100000 in
set_option maxHeartbeats 2000000 in
theorem udoes_none_true (L : IsAsr R) (h : Held w W (star (deskA g (N2 g pl pk) (st :: past)) (star (docA pd (st2 :: past2)) R))) (c : Ucall) (hs : c.Second = true) (h0 : ¬ c.Kind = 0) (h1 : ¬ c.Kind = 1) (h2 : ¬ c.Kind = 2) (h3 : ¬ c.Kind = 3) (_hl : past.length < 10000) (hl2 : past2.length < 10000) (_x1 : (selU true st).length ≤ 10000) (_y1 : st2.1.length ≤ 10000) (_y2 : st2.2.length ≤ 10000) :
    Calls Try.prog 10 #[.pointer (some ⟨g, 0, none⟩), .pointer (some ⟨pl, 0, none⟩), .pointer (some ⟨pk, 0, none⟩), .pointer (some ⟨pd, 0, none⟩), ucallV c] W fun e w' => DoesU (st :: past) (st2 :: past2) e ∧ Held w w' (star (deskA g (N2 g pl pk) (histU (st :: past) c)) (star (docA pd (histU (st2 :: past2) c)) R)) := by
  have hh : ∀ (s : StU) (p : List StU), histU (s :: p) c = s :: p := fun s p => by unfold histU; dsimp only; rw [if_neg h0, if_neg h1, if_neg h2, if_neg h3]
  rw [hh, hh]
  clear hh
  have hT0 := h.box ((isAsr_desk (isAsr_N2 g pl pk) g _).star ((isAsr_doc _ _).star L)) c.cells 33
  obtain ⟨la, lb, ra, rb, hd, hT1⟩ := hT0.pull3.openDoc
  have hnow := Lib.hid (pastNow_h ((isAsr_box _ _).star ((isAsr_desk (isAsr_N2 g pl pk) g _).star L)) hT1 (by rw [hd.lenA]; omega) (by rw [hd.lenB]; omega))
  obtain ⟨q0, q1, q2, q3, lB⟩ := ubox hT0.boxAt.1
  have hlenA : ra.len = st2.1.length := by rw [Rw.reads_len hT1.pastReads.1, hd.ra]
  have hlenB : rb.len = st2.2.length := by rw [Rw.reads_len hT1.pastReads.2, hd.rb]
  rw [ucallV_eq]
  replace hnow := Lib.hid (show Calls Try.prog 12 #[.pointer (some ⟨pd, 0, none⟩)] (W.alloc (.cells c.cells.toArray 33)) fun e w2 => e = .returned (.tuple #[.slice ra.ao st2.1.length ra.cap, .slice rb.ao st2.2.length rb.cap]) ∧ Held w w2 (star (boxA W.heap.size c.cells) (star (deskA g (N2 g pl pk) (st :: past)) (star (docA pd (st2 :: past2)) R))) from
    hnow.out.mono (fun _ _ ⟨a, b⟩ => ⟨by rw [a]; unfold Rw.val; rw [hlenA, hlenB], (b.shutDoc hd).push3⟩))
  generalize ra.ao = a1 at *
  generalize rb.ao = a2 at *
  generalize ra.cap = d1 at *
  generalize rb.cap = d2 at *
  clear hT0 hT1 hd hlenA hlenB h
  obtain ⟨kind, sec, ci, cx⟩ := c
  dsimp only at *
  subst hs
  have n0 : (kind == 0) = false := beq_eq_false_iff_ne.2 h0
  have n1 : (kind == 1) = false := beq_eq_false_iff_ne.2 h1
  have n2 : (kind == 2) = false := beq_eq_false_iff_ne.2 h2
  have n3 : (kind == 3) = false := beq_eq_false_iff_ne.2 h3
  clear h0 h1 h2 h3
  go_enter Try.func10, Try.ntmps10
  go_upto_region 1 with (fail)
  change Code.wp _ _ _ _ (W.alloc (.cells (Ucall.mk kind true ci cx).cells.toArray 33))
  generalize W.alloc (.cells (Ucall.mk kind true ci cx).cells.toArray 33) = W0 at *
  generalize hcs : (Ucall.mk kind true ci cx).cells = cs at *
  go_wp2_with fail
  refine hnow.out.mono ?_
  rintro e w1 ⟨rfl, hT⟩
  clear hnow q0 q1 q2 q3 lB
  obtain ⟨q0, q1, q2, q3, lB⟩ := ubox (c := ⟨kind, true, ci, cx⟩) (by rw [hcs]; exact hT.boxAt.1)
  dsimp only at q0 q1 q2 q3
  replace hT := Lib.hid hT.rest
  go_wp2
  go_ret
  exact ⟨⟨_, rfl, fun _ => rfl⟩, hT.out⟩
theorem udoes_any (L : IsAsr R) (h : Held w W (star (deskA g (N2 g pl pk) (st :: past)) (star (docA pd (st2 :: past2)) R))) (c : Ucall) (hl : past.length < 10000) (hl2 : past2.length < 10000) (x1 : st.1.length ≤ 10000) (x2 : st.2.length ≤ 10000) (y1 : st2.1.length ≤ 10000) (y2 : st2.2.length ≤ 10000) :
    Calls Try.prog 10 #[.pointer (some ⟨g, 0, none⟩), .pointer (some ⟨pl, 0, none⟩), .pointer (some ⟨pk, 0, none⟩), .pointer (some ⟨pd, 0, none⟩), ucallV c] W fun e w' => DoesU (st :: past) (st2 :: past2) e ∧ Held w w' (star (deskA g (N2 g pl pk) (histU (st :: past) c)) (star (docA pd (histU (st2 :: past2) c)) R)) := by
  cases hs : c.Second with
  | false =>
    by_cases h0 : c.Kind = 0
    · exact udoes_add_false L h c hs h0 hl hl2 x1 y1 y2
    by_cases h1 : c.Kind = 1
    · exact udoes_set_false L h c hs h1 hl hl2 x1 y1 y2
    by_cases h2 : c.Kind = 2
    · exact udoes_back_false L h c hs h2 hl hl2 x1 y1 y2
    by_cases h3 : c.Kind = 3
    · exact udoes_clear_false L h c hs h3 hl hl2 x1 y1 y2
    · exact udoes_none_false L h c hs h0 h1 h2 h3 hl hl2 x1 y1 y2
  | true =>
    by_cases h0 : c.Kind = 0
    · exact udoes_add_true L h c hs h0 hl hl2 x2 y1 y2
    by_cases h1 : c.Kind = 1
    · exact udoes_set_true L h c hs h1 hl hl2 x2 y1 y2
    by_cases h2 : c.Kind = 2
    · exact udoes_back_true L h c hs h2 hl hl2 x2 y1 y2
    by_cases h3 : c.Kind = 3
    · exact udoes_clear_true L h c hs h3 hl hl2 x2 y1 y2
    · exact udoes_none_true L h c hs h0 h1 h2 h3 hl hl2 x2 y1 y2
end
end Go.Proofs.Ytkahohgbcnchiaa
