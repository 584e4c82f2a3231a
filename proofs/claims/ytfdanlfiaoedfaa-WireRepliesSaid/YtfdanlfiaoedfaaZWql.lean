/- Stage 22, landed: a request is put. No condition but sizes. -/
import Derived.Test.YtfdanlfiaoedfaaZWqj
namespace Go.Proofs.Ytfdanlfiaoedfaa
open Go.RowKit Go.Sort Wm Cr

section
variable {w W : World} {R : Asr} {p : Nat} {bs : ByteArray}
set_option maxRecDepth 100000 in
set_option maxHeartbeats 4000000 in
theorem wRequest1_h (L : IsAsr R) (h : Held w W (star (objA WrIs p bs) R)) (q : Req) (s : Reqs) (hat : ReqAt w q s) (hq : q.Wf) (hg : goodQ q = true) (hs : bs.size ≤ 1000) (ho : q.Op = 1) :
    Calls Try.prog 26 #[.pointer (some ⟨p, 0, none⟩), reqV q s] W fun e w2 => e = .returned (.tuple #[]) ∧ Held w w2 (star (objA WrIs p (bs ++ reqB q)) R) := by
  have h1 := (h.box ((isAsr_wr _ _).star L) (q.cells s) 31).pull
  have LB : IsAsr (star (boxA W.heap.size (q.cells s)) R) := (isAsr_box _ _).star L
  have hlast : bs ++ reqB q = bs ++ intB 1 1 ++ bodyQ q := by unfold reqB; rw [ho, ByteArray.append_assoc]
  rw [hlast]
  clear hlast
  have z1s : (intB 1 1).size = 1 := by rw [intB_size]; rfl
  have k0 := Lib.hid (fun wx (hX : Held w wx (star (objA WrIs p bs) (star (boxA W.heap.size (q.cells s)) R))) => wInt_h LB hX 1 1 (by omega) (by omega))
  rw [goodQ_1 ho, Bool.and_eq_true] at hg
  have hnl := of_decide_eq_true hg.1
  rw [bodyQ_1 ho]
  have k1 := Lib.hid (fun wx (hX : Held w wx (star (objA WrIs p (bs ++ intB 1 1)) (star (boxA W.heap.size (q.cells s)) R))) => putAllAcct_h (cap := s.Accountsc) LB hX hat.Accounts hq.Accounts (all_mem hg.2) (by omega) (by rw [ByteArray.size_append]; omega))
  have hcs := Lib.hid (fun x wx (hX : Held w wx (star (objA WrIs p x) (star (boxA W.heap.size (q.cells s)) R))) => (hX.pull.boxAt.1).req)
  clear h hat hg hq hs z1s
  obtain ⟨op, acs, ts, now, ids, ⟨ac, fr, tt, db, cr, la, li⟩⟩ := q
  obtain ⟨sA, sAc, sT, sTc, sI, sIc⟩ := s
  unfold reqV
  dsimp only at *
  subst ho
  generalize bs ++ intB 1 1 = bs1 at *
  obtain ⟨w1, hw1⟩ : ∃ w1, w1 = W.alloc (.cells (Req.cells ⟨1, acs, ts, now, ids, ⟨ac, fr, tt, db, cr, la, li⟩⟩ ⟨sA, sAc, sT, sTc, sI, sIc⟩).toArray 31) := ⟨_, rfl⟩
  rw [← hw1] at h1
  unfold Req.cells at hw1
  replace h1 := Lib.hid h1
  replace hw1 := Lib.hid hw1
  go_enter Try.func26, Try.ntmps26
  go_wp2_with fail
  rw [← hw1.out]
  clear hw1
  have hd := h1.out.later ((isAsr_wr _ _).star LB) (Below.refl _ _).drew
  have kc := Lib.hid (k0.out _ hd)
  obtain ⟨z0, z1, z2, z3, z4, z5, z6, z7, z8, z9, z10, z11, z12, zl⟩ := hcs.out _ _ hd
  have hS := And.intro z0 zl
  try dsimp only at hS
  clear z0 z1 z2 z3 z4 z5 z6 z7 z8 z9 z10 z11 z12 zl hd h1 k0
  generalize hv : w1.drew = v1 at *
  refine wp_region_need (fun _ => True) [0, 1, 2, 3] (by kernel_rfl) ?_
  rw [hv]
  clear hv
  refine need_takeL (i := 0) (v := ?cv49) rfl rfl (by kernel_rfl) (by kernel_rfl) (by kernel_rfl) (fun _ _ _ h => h) (Or.inl ⟨by rfl, ?ch49⟩) trivial ?cr49
  case ch49 => (intro w' hSw; (try dsimp only at hSw); go_simp; first | done | with_reducible rfl)
  try simp only [Act.put, List.setIfInBounds_toArray, List.set_cons_zero, List.set_cons_succ]
  refine need_takeL (i := 1) (v := ?cv52) rfl rfl (by kernel_rfl) (by kernel_rfl) (by kernel_rfl) (fun _ _ _ h => h) (Or.inl ⟨by rfl, ?ch52⟩) trivial ?cr52
  case ch52 => (intro w' hSw; (try dsimp only at hSw); go_simp; first | done | with_reducible rfl)
  try simp only [Act.put, List.setIfInBounds_toArray, List.set_cons_zero, List.set_cons_succ]
  refine need_takeL (i := 2) (v := ?cv55) rfl rfl (by kernel_rfl) (by kernel_rfl) (by kernel_rfl) (fun _ _ _ h => h) (Or.inl ⟨by rfl, ?ch55⟩) trivial ?cr55
  case ch55 => (intro w' hSw; (try dsimp only at hSw); go_simp; first | done | with_reducible rfl)
  try simp only [Act.put, List.setIfInBounds_toArray, List.set_cons_zero, List.set_cons_succ]
  refine need_takeL (i := 3) (v := ?cv58) rfl rfl (by kernel_rfl) (by kernel_rfl) (by kernel_rfl) (fun _ _ _ h => h) (Or.inl ⟨by rfl, ?ch58⟩) trivial ?cr58
  case ch58 => (intro w' hSw; (try dsimp only at hSw); go_simp; first | done | with_reducible rfl)
  try simp only [Act.put, List.setIfInBounds_toArray, List.set_cons_zero, List.set_cons_succ]
  refine need_from (S2 := fun w' => w'.cell? ⟨W.heap.size, 0, none⟩ = some (.int .i64 1) ∧ W.heap.size < w'.heap.size) (need2 := [4]) (fun _ => trivial) _ _ _ _ ?_
  refine need_takeL (i := 4) (v := ?cv62) rfl rfl (by kernel_rfl) (by kernel_rfl) (by kernel_rfl) (fun _ _ _ h => h) (Or.inl ⟨by rfl, ?ch62⟩) hS ?cr62
  case ch62 => (intro w' hSw; (try dsimp only at hSw); go_simp; first | done | with_reducible rfl)
  try simp only [Act.put, List.setIfInBounds_toArray, List.set_cons_zero, List.set_cons_succ]
  refine need_turnL (i := 5) rfl (by kernel_rfl) (by rfl) (fun K' hK' => ?_)
  go_simp
  refine kc.out.mono ?_
  rintro e w2 ⟨rfl, h2⟩
  replace h2 := Lib.hid h2
  refine hK' _ _ (spared (by kernel_rfl)) ?_
  clear hK' K' hS kc
  try simp only [Act.put, List.setIfInBounds_toArray, List.set_cons_zero, List.set_cons_succ]
  refine need_done (by kernel_rfl) ?_ _
  obtain ⟨z0, z1, z2, z3, z4, z5, z6, z7, z8, z9, z10, z11, z12, zl⟩ := hcs.out _ _ h2.out
  try dsimp only at z0 z1 z2 z3 z4 z5 z6 z7 z8 z9 z10 z11 z12 zl
  go_wp2_with fail
  refine (k1.out _ h2.out).mono ?_
  rintro e w3 ⟨rfl, h3⟩
  replace h3 := Lib.hid h3
  clear h2 k1 z0 z1 z2 z3 z4 z5 z6 z7 z8 z9 z10 z11 z12 zl
  go_wp2
  go_end0
  exact ⟨rfl, h3.out.pull.rest⟩
set_option maxRecDepth 100000 in
set_option maxHeartbeats 4000000 in
theorem wRequest2_h (L : IsAsr R) (h : Held w W (star (objA WrIs p bs) R)) (q : Req) (s : Reqs) (hat : ReqAt w q s) (hq : q.Wf) (hg : goodQ q = true) (hs : bs.size ≤ 1000) (ho : q.Op = 2) :
    Calls Try.prog 26 #[.pointer (some ⟨p, 0, none⟩), reqV q s] W fun e w2 => e = .returned (.tuple #[]) ∧ Held w w2 (star (objA WrIs p (bs ++ reqB q)) R) := by
  have h1 := (h.box ((isAsr_wr _ _).star L) (q.cells s) 31).pull
  have LB : IsAsr (star (boxA W.heap.size (q.cells s)) R) := (isAsr_box _ _).star L
  have hlast : bs ++ reqB q = bs ++ intB 1 2 ++ bodyQ q := by unfold reqB; rw [ho, ByteArray.append_assoc]
  rw [hlast]
  clear hlast
  have z1s : (intB 1 2).size = 1 := by rw [intB_size]; rfl
  have k0 := Lib.hid (fun wx (hX : Held w wx (star (objA WrIs p bs) (star (boxA W.heap.size (q.cells s)) R))) => wInt_h LB hX 1 2 (by omega) (by omega))
  rw [goodQ_2 ho, Bool.and_eq_true] at hg
  have hnl := of_decide_eq_true hg.1
  rw [bodyQ_2 ho]
  have k1 := Lib.hid (fun wx (hX : Held w wx (star (objA WrIs p (bs ++ intB 1 2)) (star (boxA W.heap.size (q.cells s)) R))) => putAllTran_h (cap := s.Transfersc) LB hX hat.Transfers hq.Transfers (all_mem hg.2) (by omega) (by rw [ByteArray.size_append]; omega))
  have hcs := Lib.hid (fun x wx (hX : Held w wx (star (objA WrIs p x) (star (boxA W.heap.size (q.cells s)) R))) => (hX.pull.boxAt.1).req)
  clear h hat hg hq hs z1s
  obtain ⟨op, acs, ts, now, ids, ⟨ac, fr, tt, db, cr, la, li⟩⟩ := q
  obtain ⟨sA, sAc, sT, sTc, sI, sIc⟩ := s
  unfold reqV
  dsimp only at *
  subst ho
  generalize bs ++ intB 1 2 = bs1 at *
  obtain ⟨w1, hw1⟩ : ∃ w1, w1 = W.alloc (.cells (Req.cells ⟨2, acs, ts, now, ids, ⟨ac, fr, tt, db, cr, la, li⟩⟩ ⟨sA, sAc, sT, sTc, sI, sIc⟩).toArray 31) := ⟨_, rfl⟩
  rw [← hw1] at h1
  unfold Req.cells at hw1
  replace h1 := Lib.hid h1
  replace hw1 := Lib.hid hw1
  go_enter Try.func26, Try.ntmps26
  go_wp2_with fail
  rw [← hw1.out]
  clear hw1
  have hd := h1.out.later ((isAsr_wr _ _).star LB) (Below.refl _ _).drew
  have kc := Lib.hid (k0.out _ hd)
  obtain ⟨z0, z1, z2, z3, z4, z5, z6, z7, z8, z9, z10, z11, z12, zl⟩ := hcs.out _ _ hd
  have hS := And.intro z0 zl
  try dsimp only at hS
  clear z0 z1 z2 z3 z4 z5 z6 z7 z8 z9 z10 z11 z12 zl hd h1 k0
  generalize hv : w1.drew = v1 at *
  refine wp_region_need (fun _ => True) [0, 1, 2, 3] (by kernel_rfl) ?_
  rw [hv]
  clear hv
  refine need_takeL (i := 0) (v := ?cv126) rfl rfl (by kernel_rfl) (by kernel_rfl) (by kernel_rfl) (fun _ _ _ h => h) (Or.inl ⟨by rfl, ?ch126⟩) trivial ?cr126
  case ch126 => (intro w' hSw; (try dsimp only at hSw); go_simp; first | done | with_reducible rfl)
  try simp only [Act.put, List.setIfInBounds_toArray, List.set_cons_zero, List.set_cons_succ]
  refine need_takeL (i := 1) (v := ?cv129) rfl rfl (by kernel_rfl) (by kernel_rfl) (by kernel_rfl) (fun _ _ _ h => h) (Or.inl ⟨by rfl, ?ch129⟩) trivial ?cr129
  case ch129 => (intro w' hSw; (try dsimp only at hSw); go_simp; first | done | with_reducible rfl)
  try simp only [Act.put, List.setIfInBounds_toArray, List.set_cons_zero, List.set_cons_succ]
  refine need_takeL (i := 2) (v := ?cv132) rfl rfl (by kernel_rfl) (by kernel_rfl) (by kernel_rfl) (fun _ _ _ h => h) (Or.inl ⟨by rfl, ?ch132⟩) trivial ?cr132
  case ch132 => (intro w' hSw; (try dsimp only at hSw); go_simp; first | done | with_reducible rfl)
  try simp only [Act.put, List.setIfInBounds_toArray, List.set_cons_zero, List.set_cons_succ]
  refine need_takeL (i := 3) (v := ?cv135) rfl rfl (by kernel_rfl) (by kernel_rfl) (by kernel_rfl) (fun _ _ _ h => h) (Or.inl ⟨by rfl, ?ch135⟩) trivial ?cr135
  case ch135 => (intro w' hSw; (try dsimp only at hSw); go_simp; first | done | with_reducible rfl)
  try simp only [Act.put, List.setIfInBounds_toArray, List.set_cons_zero, List.set_cons_succ]
  refine need_from (S2 := fun w' => w'.cell? ⟨W.heap.size, 0, none⟩ = some (.int .i64 2) ∧ W.heap.size < w'.heap.size) (need2 := [4]) (fun _ => trivial) _ _ _ _ ?_
  refine need_takeL (i := 4) (v := ?cv139) rfl rfl (by kernel_rfl) (by kernel_rfl) (by kernel_rfl) (fun _ _ _ h => h) (Or.inl ⟨by rfl, ?ch139⟩) hS ?cr139
  case ch139 => (intro w' hSw; (try dsimp only at hSw); go_simp; first | done | with_reducible rfl)
  try simp only [Act.put, List.setIfInBounds_toArray, List.set_cons_zero, List.set_cons_succ]
  refine need_turnL (i := 5) rfl (by kernel_rfl) (by rfl) (fun K' hK' => ?_)
  go_simp
  refine kc.out.mono ?_
  rintro e w2 ⟨rfl, h2⟩
  replace h2 := Lib.hid h2
  refine hK' _ _ (spared (by kernel_rfl)) ?_
  clear hK' K' hS kc
  try simp only [Act.put, List.setIfInBounds_toArray, List.set_cons_zero, List.set_cons_succ]
  refine need_done (by kernel_rfl) ?_ _
  obtain ⟨z0, z1, z2, z3, z4, z5, z6, z7, z8, z9, z10, z11, z12, zl⟩ := hcs.out _ _ h2.out
  try dsimp only at z0 z1 z2 z3 z4 z5 z6 z7 z8 z9 z10 z11 z12 zl
  go_wp2_with fail
  refine (k1.out _ h2.out).mono ?_
  rintro e w3 ⟨rfl, h3⟩
  replace h3 := Lib.hid h3
  clear h2 k1 z0 z1 z2 z3 z4 z5 z6 z7 z8 z9 z10 z11 z12 zl
  go_wp2
  go_end0
  exact ⟨rfl, h3.out.pull.rest⟩
set_option maxRecDepth 100000 in
set_option maxHeartbeats 4000000 in
theorem wRequest3_h (L : IsAsr R) (h : Held w W (star (objA WrIs p bs) R)) (q : Req) (s : Reqs) (_hat : ReqAt w q s) (hq : q.Wf) (_hg : goodQ q = true) (hs : bs.size ≤ 1000) (ho : q.Op = 3) :
    Calls Try.prog 26 #[.pointer (some ⟨p, 0, none⟩), reqV q s] W fun e w2 => e = .returned (.tuple #[]) ∧ Held w w2 (star (objA WrIs p (bs ++ reqB q)) R) := by
  have h1 := (h.box ((isAsr_wr _ _).star L) (q.cells s) 31).pull
  have LB : IsAsr (star (boxA W.heap.size (q.cells s)) R) := (isAsr_box _ _).star L
  have hlast : bs ++ reqB q = bs ++ intB 1 3 ++ bodyQ q := by unfold reqB; rw [ho, ByteArray.append_assoc]
  rw [hlast]
  clear hlast
  have z1s : (intB 1 3).size = 1 := by rw [intB_size]; rfl
  have k0 := Lib.hid (fun wx (hX : Held w wx (star (objA WrIs p bs) (star (boxA W.heap.size (q.cells s)) R))) => wInt_h LB hX 1 3 (by omega) (by omega))
  rw [bodyQ_3 ho]
  have k1 := Lib.hid (fun wx (hX : Held w wx (star (objA WrIs p (bs ++ intB 1 3)) (star (boxA W.heap.size (q.cells s)) R))) => wInt_h LB hX 8 q.Now (by rw [ByteArray.size_append]; omega) hq.Now)
  have hcs := Lib.hid (fun x wx (hX : Held w wx (star (objA WrIs p x) (star (boxA W.heap.size (q.cells s)) R))) => (hX.pull.boxAt.1).req)
  clear h _hat _hg hq hs z1s
  obtain ⟨op, acs, ts, now, ids, ⟨ac, fr, tt, db, cr, la, li⟩⟩ := q
  obtain ⟨sA, sAc, sT, sTc, sI, sIc⟩ := s
  unfold reqV
  dsimp only at *
  subst ho
  generalize bs ++ intB 1 3 = bs1 at *
  obtain ⟨w1, hw1⟩ : ∃ w1, w1 = W.alloc (.cells (Req.cells ⟨3, acs, ts, now, ids, ⟨ac, fr, tt, db, cr, la, li⟩⟩ ⟨sA, sAc, sT, sTc, sI, sIc⟩).toArray 31) := ⟨_, rfl⟩
  rw [← hw1] at h1
  unfold Req.cells at hw1
  replace h1 := Lib.hid h1
  replace hw1 := Lib.hid hw1
  go_enter Try.func26, Try.ntmps26
  go_wp2_with fail
  rw [← hw1.out]
  clear hw1
  have hd := h1.out.later ((isAsr_wr _ _).star LB) (Below.refl _ _).drew
  have kc := Lib.hid (k0.out _ hd)
  obtain ⟨z0, z1, z2, z3, z4, z5, z6, z7, z8, z9, z10, z11, z12, zl⟩ := hcs.out _ _ hd
  have hS := And.intro z0 zl
  try dsimp only at hS
  clear z0 z1 z2 z3 z4 z5 z6 z7 z8 z9 z10 z11 z12 zl hd h1 k0
  generalize hv : w1.drew = v1 at *
  refine wp_region_need (fun _ => True) [0, 1, 2, 3] (by kernel_rfl) ?_
  rw [hv]
  clear hv
  refine need_takeL (i := 0) (v := ?cv201) rfl rfl (by kernel_rfl) (by kernel_rfl) (by kernel_rfl) (fun _ _ _ h => h) (Or.inl ⟨by rfl, ?ch201⟩) trivial ?cr201
  case ch201 => (intro w' hSw; (try dsimp only at hSw); go_simp; first | done | with_reducible rfl)
  try simp only [Act.put, List.setIfInBounds_toArray, List.set_cons_zero, List.set_cons_succ]
  refine need_takeL (i := 1) (v := ?cv204) rfl rfl (by kernel_rfl) (by kernel_rfl) (by kernel_rfl) (fun _ _ _ h => h) (Or.inl ⟨by rfl, ?ch204⟩) trivial ?cr204
  case ch204 => (intro w' hSw; (try dsimp only at hSw); go_simp; first | done | with_reducible rfl)
  try simp only [Act.put, List.setIfInBounds_toArray, List.set_cons_zero, List.set_cons_succ]
  refine need_takeL (i := 2) (v := ?cv207) rfl rfl (by kernel_rfl) (by kernel_rfl) (by kernel_rfl) (fun _ _ _ h => h) (Or.inl ⟨by rfl, ?ch207⟩) trivial ?cr207
  case ch207 => (intro w' hSw; (try dsimp only at hSw); go_simp; first | done | with_reducible rfl)
  try simp only [Act.put, List.setIfInBounds_toArray, List.set_cons_zero, List.set_cons_succ]
  refine need_takeL (i := 3) (v := ?cv210) rfl rfl (by kernel_rfl) (by kernel_rfl) (by kernel_rfl) (fun _ _ _ h => h) (Or.inl ⟨by rfl, ?ch210⟩) trivial ?cr210
  case ch210 => (intro w' hSw; (try dsimp only at hSw); go_simp; first | done | with_reducible rfl)
  try simp only [Act.put, List.setIfInBounds_toArray, List.set_cons_zero, List.set_cons_succ]
  refine need_from (S2 := fun w' => w'.cell? ⟨W.heap.size, 0, none⟩ = some (.int .i64 3) ∧ W.heap.size < w'.heap.size) (need2 := [4]) (fun _ => trivial) _ _ _ _ ?_
  refine need_takeL (i := 4) (v := ?cv214) rfl rfl (by kernel_rfl) (by kernel_rfl) (by kernel_rfl) (fun _ _ _ h => h) (Or.inl ⟨by rfl, ?ch214⟩) hS ?cr214
  case ch214 => (intro w' hSw; (try dsimp only at hSw); go_simp; first | done | with_reducible rfl)
  try simp only [Act.put, List.setIfInBounds_toArray, List.set_cons_zero, List.set_cons_succ]
  refine need_turnL (i := 5) rfl (by kernel_rfl) (by rfl) (fun K' hK' => ?_)
  go_simp
  refine kc.out.mono ?_
  rintro e w2 ⟨rfl, h2⟩
  replace h2 := Lib.hid h2
  refine hK' _ _ (spared (by kernel_rfl)) ?_
  clear hK' K' hS kc
  try simp only [Act.put, List.setIfInBounds_toArray, List.set_cons_zero, List.set_cons_succ]
  refine need_done (by kernel_rfl) ?_ _
  obtain ⟨z0, z1, z2, z3, z4, z5, z6, z7, z8, z9, z10, z11, z12, zl⟩ := hcs.out _ _ h2.out
  try dsimp only at z0 z1 z2 z3 z4 z5 z6 z7 z8 z9 z10 z11 z12 zl
  go_wp2_with fail
  clear z0 z1 z2 z3 z4 z5 z6 z7 z8 z9 z10 z11 z12 zl
  have hd := h2.out.later ((isAsr_wr _ _).star LB) (Below.refl _ _).drew
  have kc := Lib.hid (k1.out _ hd)
  obtain ⟨z0, z1, z2, z3, z4, z5, z6, z7, z8, z9, z10, z11, z12, zl⟩ := hcs.out _ _ hd
  have hS := And.intro z3 zl
  try dsimp only at hS
  clear z0 z1 z2 z3 z4 z5 z6 z7 z8 z9 z10 z11 z12 zl hd h2 k1
  generalize hv : w2.drew = v2 at *
  refine wp_region_need (fun _ => True) [0, 1, 2, 3] (by kernel_rfl) ?_
  rw [hv]
  clear hv
  refine need_takeL (i := 0) (v := ?cv240) rfl rfl (by kernel_rfl) (by kernel_rfl) (by kernel_rfl) (fun _ _ _ h => h) (Or.inl ⟨by rfl, ?ch240⟩) trivial ?cr240
  case ch240 => (intro w' hSw; (try dsimp only at hSw); go_simp; first | done | with_reducible rfl)
  try simp only [Act.put, List.setIfInBounds_toArray, List.set_cons_zero, List.set_cons_succ]
  refine need_takeL (i := 1) (v := ?cv243) rfl rfl (by kernel_rfl) (by kernel_rfl) (by kernel_rfl) (fun _ _ _ h => h) (Or.inl ⟨by rfl, ?ch243⟩) trivial ?cr243
  case ch243 => (intro w' hSw; (try dsimp only at hSw); go_simp; first | done | with_reducible rfl)
  try simp only [Act.put, List.setIfInBounds_toArray, List.set_cons_zero, List.set_cons_succ]
  refine need_takeL (i := 2) (v := ?cv246) rfl rfl (by kernel_rfl) (by kernel_rfl) (by kernel_rfl) (fun _ _ _ h => h) (Or.inl ⟨by rfl, ?ch246⟩) trivial ?cr246
  case ch246 => (intro w' hSw; (try dsimp only at hSw); go_simp; first | done | with_reducible rfl)
  try simp only [Act.put, List.setIfInBounds_toArray, List.set_cons_zero, List.set_cons_succ]
  refine need_takeL (i := 3) (v := ?cv249) rfl rfl (by kernel_rfl) (by kernel_rfl) (by kernel_rfl) (fun _ _ _ h => h) (Or.inl ⟨by rfl, ?ch249⟩) trivial ?cr249
  case ch249 => (intro w' hSw; (try dsimp only at hSw); go_simp; first | done | with_reducible rfl)
  try simp only [Act.put, List.setIfInBounds_toArray, List.set_cons_zero, List.set_cons_succ]
  refine need_from (S2 := fun w' => w'.cell? ⟨W.heap.size, 3, none⟩ = some (.int .i64 now) ∧ W.heap.size < w'.heap.size) (need2 := [4]) (fun _ => trivial) _ _ _ _ ?_
  refine need_takeL (i := 4) (v := ?cv253) rfl rfl (by kernel_rfl) (by kernel_rfl) (by kernel_rfl) (fun _ _ _ h => h) (Or.inl ⟨by rfl, ?ch253⟩) hS ?cr253
  case ch253 => (intro w' hSw; (try dsimp only at hSw); go_simp; first | done | with_reducible rfl)
  try simp only [Act.put, List.setIfInBounds_toArray, List.set_cons_zero, List.set_cons_succ]
  refine need_turnL (i := 5) rfl (by kernel_rfl) (by rfl) (fun K' hK' => ?_)
  go_simp
  refine kc.out.mono ?_
  rintro e w3 ⟨rfl, h3⟩
  replace h3 := Lib.hid h3
  refine hK' _ _ (spared (by kernel_rfl)) ?_
  clear hK' K' hS kc
  try simp only [Act.put, List.setIfInBounds_toArray, List.set_cons_zero, List.set_cons_succ]
  refine need_done (by kernel_rfl) ?_ _
  go_wp2
  go_end0
  exact ⟨rfl, h3.out.pull.rest⟩
set_option maxRecDepth 100000 in
set_option maxHeartbeats 4000000 in
theorem wRequest4_h (L : IsAsr R) (h : Held w W (star (objA WrIs p bs) R)) (q : Req) (s : Reqs) (hat : ReqAt w q s) (hq : q.Wf) (hg : goodQ q = true) (hs : bs.size ≤ 1000) (ho : q.Op = 4) :
    Calls Try.prog 26 #[.pointer (some ⟨p, 0, none⟩), reqV q s] W fun e w2 => e = .returned (.tuple #[]) ∧ Held w w2 (star (objA WrIs p (bs ++ reqB q)) R) := by
  have h1 := (h.box ((isAsr_wr _ _).star L) (q.cells s) 31).pull
  have LB : IsAsr (star (boxA W.heap.size (q.cells s)) R) := (isAsr_box _ _).star L
  have hlast : bs ++ reqB q = bs ++ intB 1 4 ++ bodyQ q := by unfold reqB; rw [ho, ByteArray.append_assoc]
  rw [hlast]
  clear hlast
  have z1s : (intB 1 4).size = 1 := by rw [intB_size]; rfl
  have k0 := Lib.hid (fun wx (hX : Held w wx (star (objA WrIs p bs) (star (boxA W.heap.size (q.cells s)) R))) => wInt_h LB hX 1 4 (by omega) (by omega))
  rw [goodQ_4 ho] at hg
  have hnl := of_decide_eq_true hg
  rw [bodyQ_x (by omega) (by omega) (by omega) (by omega)]
  have k1 := Lib.hid (fun wx (hX : Held w wx (star (objA WrIs p (bs ++ intB 1 4)) (star (boxA W.heap.size (q.cells s)) R))) => putAllIdn_h (cap := s.Idsc) LB hX hat.Ids hq.Ids (by omega) (by rw [ByteArray.size_append]; omega))
  have hcs := Lib.hid (fun x wx (hX : Held w wx (star (objA WrIs p x) (star (boxA W.heap.size (q.cells s)) R))) => (hX.pull.boxAt.1).req)
  clear h hat hg hq hs z1s
  obtain ⟨op, acs, ts, now, ids, ⟨ac, fr, tt, db, cr, la, li⟩⟩ := q
  obtain ⟨sA, sAc, sT, sTc, sI, sIc⟩ := s
  unfold reqV
  dsimp only at *
  subst ho
  generalize bs ++ intB 1 4 = bs1 at *
  obtain ⟨w1, hw1⟩ : ∃ w1, w1 = W.alloc (.cells (Req.cells ⟨4, acs, ts, now, ids, ⟨ac, fr, tt, db, cr, la, li⟩⟩ ⟨sA, sAc, sT, sTc, sI, sIc⟩).toArray 31) := ⟨_, rfl⟩
  rw [← hw1] at h1
  unfold Req.cells at hw1
  replace h1 := Lib.hid h1
  replace hw1 := Lib.hid hw1
  go_enter Try.func26, Try.ntmps26
  go_wp2_with fail
  rw [← hw1.out]
  clear hw1
  have hd := h1.out.later ((isAsr_wr _ _).star LB) (Below.refl _ _).drew
  have kc := Lib.hid (k0.out _ hd)
  obtain ⟨z0, z1, z2, z3, z4, z5, z6, z7, z8, z9, z10, z11, z12, zl⟩ := hcs.out _ _ hd
  have hS := And.intro z0 zl
  try dsimp only at hS
  clear z0 z1 z2 z3 z4 z5 z6 z7 z8 z9 z10 z11 z12 zl hd h1 k0
  generalize hv : w1.drew = v1 at *
  refine wp_region_need (fun _ => True) [0, 1, 2, 3] (by kernel_rfl) ?_
  rw [hv]
  clear hv
  refine need_takeL (i := 0) (v := ?cv310) rfl rfl (by kernel_rfl) (by kernel_rfl) (by kernel_rfl) (fun _ _ _ h => h) (Or.inl ⟨by rfl, ?ch310⟩) trivial ?cr310
  case ch310 => (intro w' hSw; (try dsimp only at hSw); go_simp; first | done | with_reducible rfl)
  try simp only [Act.put, List.setIfInBounds_toArray, List.set_cons_zero, List.set_cons_succ]
  refine need_takeL (i := 1) (v := ?cv313) rfl rfl (by kernel_rfl) (by kernel_rfl) (by kernel_rfl) (fun _ _ _ h => h) (Or.inl ⟨by rfl, ?ch313⟩) trivial ?cr313
  case ch313 => (intro w' hSw; (try dsimp only at hSw); go_simp; first | done | with_reducible rfl)
  try simp only [Act.put, List.setIfInBounds_toArray, List.set_cons_zero, List.set_cons_succ]
  refine need_takeL (i := 2) (v := ?cv316) rfl rfl (by kernel_rfl) (by kernel_rfl) (by kernel_rfl) (fun _ _ _ h => h) (Or.inl ⟨by rfl, ?ch316⟩) trivial ?cr316
  case ch316 => (intro w' hSw; (try dsimp only at hSw); go_simp; first | done | with_reducible rfl)
  try simp only [Act.put, List.setIfInBounds_toArray, List.set_cons_zero, List.set_cons_succ]
  refine need_takeL (i := 3) (v := ?cv319) rfl rfl (by kernel_rfl) (by kernel_rfl) (by kernel_rfl) (fun _ _ _ h => h) (Or.inl ⟨by rfl, ?ch319⟩) trivial ?cr319
  case ch319 => (intro w' hSw; (try dsimp only at hSw); go_simp; first | done | with_reducible rfl)
  try simp only [Act.put, List.setIfInBounds_toArray, List.set_cons_zero, List.set_cons_succ]
  refine need_from (S2 := fun w' => w'.cell? ⟨W.heap.size, 0, none⟩ = some (.int .i64 4) ∧ W.heap.size < w'.heap.size) (need2 := [4]) (fun _ => trivial) _ _ _ _ ?_
  refine need_takeL (i := 4) (v := ?cv323) rfl rfl (by kernel_rfl) (by kernel_rfl) (by kernel_rfl) (fun _ _ _ h => h) (Or.inl ⟨by rfl, ?ch323⟩) hS ?cr323
  case ch323 => (intro w' hSw; (try dsimp only at hSw); go_simp; first | done | with_reducible rfl)
  try simp only [Act.put, List.setIfInBounds_toArray, List.set_cons_zero, List.set_cons_succ]
  refine need_turnL (i := 5) rfl (by kernel_rfl) (by rfl) (fun K' hK' => ?_)
  go_simp
  refine kc.out.mono ?_
  rintro e w2 ⟨rfl, h2⟩
  replace h2 := Lib.hid h2
  refine hK' _ _ (spared (by kernel_rfl)) ?_
  clear hK' K' hS kc
  try simp only [Act.put, List.setIfInBounds_toArray, List.set_cons_zero, List.set_cons_succ]
  refine need_done (by kernel_rfl) ?_ _
  obtain ⟨z0, z1, z2, z3, z4, z5, z6, z7, z8, z9, z10, z11, z12, zl⟩ := hcs.out _ _ h2.out
  try dsimp only at z0 z1 z2 z3 z4 z5 z6 z7 z8 z9 z10 z11 z12 zl
  go_wp2_with fail
  refine (k1.out _ h2.out).mono ?_
  rintro e w3 ⟨rfl, h3⟩
  replace h3 := Lib.hid h3
  clear h2 k1 z0 z1 z2 z3 z4 z5 z6 z7 z8 z9 z10 z11 z12 zl
  go_wp2
  go_end0
  exact ⟨rfl, h3.out.pull.rest⟩
set_option maxRecDepth 100000 in
set_option maxHeartbeats 4000000 in
theorem wRequest5_h (L : IsAsr R) (h : Held w W (star (objA WrIs p bs) R)) (q : Req) (s : Reqs) (hat : ReqAt w q s) (hq : q.Wf) (hg : goodQ q = true) (hs : bs.size ≤ 1000) (ho : q.Op = 5) :
    Calls Try.prog 26 #[.pointer (some ⟨p, 0, none⟩), reqV q s] W fun e w2 => e = .returned (.tuple #[]) ∧ Held w w2 (star (objA WrIs p (bs ++ reqB q)) R) := by
  have h1 := (h.box ((isAsr_wr _ _).star L) (q.cells s) 31).pull
  have LB : IsAsr (star (boxA W.heap.size (q.cells s)) R) := (isAsr_box _ _).star L
  have hlast : bs ++ reqB q = bs ++ intB 1 5 ++ bodyQ q := by unfold reqB; rw [ho, ByteArray.append_assoc]
  rw [hlast]
  clear hlast
  have z1s : (intB 1 5).size = 1 := by rw [intB_size]; rfl
  have k0 := Lib.hid (fun wx (hX : Held w wx (star (objA WrIs p bs) (star (boxA W.heap.size (q.cells s)) R))) => wInt_h LB hX 1 5 (by omega) (by omega))
  rw [goodQ_5 ho] at hg
  have hnl := of_decide_eq_true hg
  rw [bodyQ_x (by omega) (by omega) (by omega) (by omega)]
  have k1 := Lib.hid (fun wx (hX : Held w wx (star (objA WrIs p (bs ++ intB 1 5)) (star (boxA W.heap.size (q.cells s)) R))) => putAllIdn_h (cap := s.Idsc) LB hX hat.Ids hq.Ids (by omega) (by rw [ByteArray.size_append]; omega))
  have hcs := Lib.hid (fun x wx (hX : Held w wx (star (objA WrIs p x) (star (boxA W.heap.size (q.cells s)) R))) => (hX.pull.boxAt.1).req)
  clear h hat hg hq hs z1s
  obtain ⟨op, acs, ts, now, ids, ⟨ac, fr, tt, db, cr, la, li⟩⟩ := q
  obtain ⟨sA, sAc, sT, sTc, sI, sIc⟩ := s
  unfold reqV
  dsimp only at *
  subst ho
  generalize bs ++ intB 1 5 = bs1 at *
  obtain ⟨w1, hw1⟩ : ∃ w1, w1 = W.alloc (.cells (Req.cells ⟨5, acs, ts, now, ids, ⟨ac, fr, tt, db, cr, la, li⟩⟩ ⟨sA, sAc, sT, sTc, sI, sIc⟩).toArray 31) := ⟨_, rfl⟩
  rw [← hw1] at h1
  unfold Req.cells at hw1
  replace h1 := Lib.hid h1
  replace hw1 := Lib.hid hw1
  go_enter Try.func26, Try.ntmps26
  go_wp2_with fail
  rw [← hw1.out]
  clear hw1
  have hd := h1.out.later ((isAsr_wr _ _).star LB) (Below.refl _ _).drew
  have kc := Lib.hid (k0.out _ hd)
  obtain ⟨z0, z1, z2, z3, z4, z5, z6, z7, z8, z9, z10, z11, z12, zl⟩ := hcs.out _ _ hd
  have hS := And.intro z0 zl
  try dsimp only at hS
  clear z0 z1 z2 z3 z4 z5 z6 z7 z8 z9 z10 z11 z12 zl hd h1 k0
  generalize hv : w1.drew = v1 at *
  refine wp_region_need (fun _ => True) [0, 1, 2, 3] (by kernel_rfl) ?_
  rw [hv]
  clear hv
  refine need_takeL (i := 0) (v := ?cv387) rfl rfl (by kernel_rfl) (by kernel_rfl) (by kernel_rfl) (fun _ _ _ h => h) (Or.inl ⟨by rfl, ?ch387⟩) trivial ?cr387
  case ch387 => (intro w' hSw; (try dsimp only at hSw); go_simp; first | done | with_reducible rfl)
  try simp only [Act.put, List.setIfInBounds_toArray, List.set_cons_zero, List.set_cons_succ]
  refine need_takeL (i := 1) (v := ?cv390) rfl rfl (by kernel_rfl) (by kernel_rfl) (by kernel_rfl) (fun _ _ _ h => h) (Or.inl ⟨by rfl, ?ch390⟩) trivial ?cr390
  case ch390 => (intro w' hSw; (try dsimp only at hSw); go_simp; first | done | with_reducible rfl)
  try simp only [Act.put, List.setIfInBounds_toArray, List.set_cons_zero, List.set_cons_succ]
  refine need_takeL (i := 2) (v := ?cv393) rfl rfl (by kernel_rfl) (by kernel_rfl) (by kernel_rfl) (fun _ _ _ h => h) (Or.inl ⟨by rfl, ?ch393⟩) trivial ?cr393
  case ch393 => (intro w' hSw; (try dsimp only at hSw); go_simp; first | done | with_reducible rfl)
  try simp only [Act.put, List.setIfInBounds_toArray, List.set_cons_zero, List.set_cons_succ]
  refine need_takeL (i := 3) (v := ?cv396) rfl rfl (by kernel_rfl) (by kernel_rfl) (by kernel_rfl) (fun _ _ _ h => h) (Or.inl ⟨by rfl, ?ch396⟩) trivial ?cr396
  case ch396 => (intro w' hSw; (try dsimp only at hSw); go_simp; first | done | with_reducible rfl)
  try simp only [Act.put, List.setIfInBounds_toArray, List.set_cons_zero, List.set_cons_succ]
  refine need_from (S2 := fun w' => w'.cell? ⟨W.heap.size, 0, none⟩ = some (.int .i64 5) ∧ W.heap.size < w'.heap.size) (need2 := [4]) (fun _ => trivial) _ _ _ _ ?_
  refine need_takeL (i := 4) (v := ?cv400) rfl rfl (by kernel_rfl) (by kernel_rfl) (by kernel_rfl) (fun _ _ _ h => h) (Or.inl ⟨by rfl, ?ch400⟩) hS ?cr400
  case ch400 => (intro w' hSw; (try dsimp only at hSw); go_simp; first | done | with_reducible rfl)
  try simp only [Act.put, List.setIfInBounds_toArray, List.set_cons_zero, List.set_cons_succ]
  refine need_turnL (i := 5) rfl (by kernel_rfl) (by rfl) (fun K' hK' => ?_)
  go_simp
  refine kc.out.mono ?_
  rintro e w2 ⟨rfl, h2⟩
  replace h2 := Lib.hid h2
  refine hK' _ _ (spared (by kernel_rfl)) ?_
  clear hK' K' hS kc
  try simp only [Act.put, List.setIfInBounds_toArray, List.set_cons_zero, List.set_cons_succ]
  refine need_done (by kernel_rfl) ?_ _
  obtain ⟨z0, z1, z2, z3, z4, z5, z6, z7, z8, z9, z10, z11, z12, zl⟩ := hcs.out _ _ h2.out
  try dsimp only at z0 z1 z2 z3 z4 z5 z6 z7 z8 z9 z10 z11 z12 zl
  go_wp2_with fail
  refine (k1.out _ h2.out).mono ?_
  rintro e w3 ⟨rfl, h3⟩
  replace h3 := Lib.hid h3
  clear h2 k1 z0 z1 z2 z3 z4 z5 z6 z7 z8 z9 z10 z11 z12 zl
  go_wp2
  go_end0
  exact ⟨rfl, h3.out.pull.rest⟩
set_option maxRecDepth 100000 in
set_option maxHeartbeats 4000000 in
theorem wRequest6_h (L : IsAsr R) (h : Held w W (star (objA WrIs p bs) R)) (q : Req) (s : Reqs) (_hat : ReqAt w q s) (hq : q.Wf) (_hg : goodQ q = true) (hs : bs.size ≤ 1000) (ho : q.Op = 6) :
    Calls Try.prog 26 #[.pointer (some ⟨p, 0, none⟩), reqV q s] W fun e w2 => e = .returned (.tuple #[]) ∧ Held w w2 (star (objA WrIs p (bs ++ reqB q)) R) := by
  have h1 := (h.box ((isAsr_wr _ _).star L) (q.cells s) 31).pull
  have LB : IsAsr (star (boxA W.heap.size (q.cells s)) R) := (isAsr_box _ _).star L
  have hlast : bs ++ reqB q = bs ++ intB 1 6 ++ bodyQ q := by unfold reqB; rw [ho, ByteArray.append_assoc]
  rw [hlast]
  clear hlast
  have z1s : (intB 1 6).size = 1 := by rw [intB_size]; rfl
  have k0 := Lib.hid (fun wx (hX : Held w wx (star (objA WrIs p bs) (star (boxA W.heap.size (q.cells s)) R))) => wInt_h LB hX 1 6 (by omega) (by omega))
  rw [bodyQ_6 ho]
  have k1 := Lib.hid (fun wx (hX : Held w wx (star (objA WrIs p (bs ++ intB 1 6)) (star (boxA W.heap.size (q.cells s)) R))) => wFilter_h LB hX q.Filter hq.Filter (by rw [ByteArray.size_append]; omega))
  have hcs := Lib.hid (fun x wx (hX : Held w wx (star (objA WrIs p x) (star (boxA W.heap.size (q.cells s)) R))) => (hX.pull.boxAt.1).req)
  clear h _hat _hg hq hs z1s
  obtain ⟨op, acs, ts, now, ids, ⟨ac, fr, tt, db, cr, la, li⟩⟩ := q
  obtain ⟨sA, sAc, sT, sTc, sI, sIc⟩ := s
  unfold reqV
  dsimp only at *
  subst ho
  generalize bs ++ intB 1 6 = bs1 at *
  obtain ⟨w1, hw1⟩ : ∃ w1, w1 = W.alloc (.cells (Req.cells ⟨6, acs, ts, now, ids, ⟨ac, fr, tt, db, cr, la, li⟩⟩ ⟨sA, sAc, sT, sTc, sI, sIc⟩).toArray 31) := ⟨_, rfl⟩
  rw [← hw1] at h1
  unfold Req.cells at hw1
  replace h1 := Lib.hid h1
  replace hw1 := Lib.hid hw1
  go_enter Try.func26, Try.ntmps26
  go_wp2_with fail
  rw [← hw1.out]
  clear hw1
  have hd := h1.out.later ((isAsr_wr _ _).star LB) (Below.refl _ _).drew
  have kc := Lib.hid (k0.out _ hd)
  obtain ⟨z0, z1, z2, z3, z4, z5, z6, z7, z8, z9, z10, z11, z12, zl⟩ := hcs.out _ _ hd
  have hS := And.intro z0 zl
  try dsimp only at hS
  clear z0 z1 z2 z3 z4 z5 z6 z7 z8 z9 z10 z11 z12 zl hd h1 k0
  generalize hv : w1.drew = v1 at *
  refine wp_region_need (fun _ => True) [0, 1, 2, 3] (by kernel_rfl) ?_
  rw [hv]
  clear hv
  refine need_takeL (i := 0) (v := ?cv462) rfl rfl (by kernel_rfl) (by kernel_rfl) (by kernel_rfl) (fun _ _ _ h => h) (Or.inl ⟨by rfl, ?ch462⟩) trivial ?cr462
  case ch462 => (intro w' hSw; (try dsimp only at hSw); go_simp; first | done | with_reducible rfl)
  try simp only [Act.put, List.setIfInBounds_toArray, List.set_cons_zero, List.set_cons_succ]
  refine need_takeL (i := 1) (v := ?cv465) rfl rfl (by kernel_rfl) (by kernel_rfl) (by kernel_rfl) (fun _ _ _ h => h) (Or.inl ⟨by rfl, ?ch465⟩) trivial ?cr465
  case ch465 => (intro w' hSw; (try dsimp only at hSw); go_simp; first | done | with_reducible rfl)
  try simp only [Act.put, List.setIfInBounds_toArray, List.set_cons_zero, List.set_cons_succ]
  refine need_takeL (i := 2) (v := ?cv468) rfl rfl (by kernel_rfl) (by kernel_rfl) (by kernel_rfl) (fun _ _ _ h => h) (Or.inl ⟨by rfl, ?ch468⟩) trivial ?cr468
  case ch468 => (intro w' hSw; (try dsimp only at hSw); go_simp; first | done | with_reducible rfl)
  try simp only [Act.put, List.setIfInBounds_toArray, List.set_cons_zero, List.set_cons_succ]
  refine need_takeL (i := 3) (v := ?cv471) rfl rfl (by kernel_rfl) (by kernel_rfl) (by kernel_rfl) (fun _ _ _ h => h) (Or.inl ⟨by rfl, ?ch471⟩) trivial ?cr471
  case ch471 => (intro w' hSw; (try dsimp only at hSw); go_simp; first | done | with_reducible rfl)
  try simp only [Act.put, List.setIfInBounds_toArray, List.set_cons_zero, List.set_cons_succ]
  refine need_from (S2 := fun w' => w'.cell? ⟨W.heap.size, 0, none⟩ = some (.int .i64 6) ∧ W.heap.size < w'.heap.size) (need2 := [4]) (fun _ => trivial) _ _ _ _ ?_
  refine need_takeL (i := 4) (v := ?cv475) rfl rfl (by kernel_rfl) (by kernel_rfl) (by kernel_rfl) (fun _ _ _ h => h) (Or.inl ⟨by rfl, ?ch475⟩) hS ?cr475
  case ch475 => (intro w' hSw; (try dsimp only at hSw); go_simp; first | done | with_reducible rfl)
  try simp only [Act.put, List.setIfInBounds_toArray, List.set_cons_zero, List.set_cons_succ]
  refine need_turnL (i := 5) rfl (by kernel_rfl) (by rfl) (fun K' hK' => ?_)
  go_simp
  refine kc.out.mono ?_
  rintro e w2 ⟨rfl, h2⟩
  replace h2 := Lib.hid h2
  refine hK' _ _ (spared (by kernel_rfl)) ?_
  clear hK' K' hS kc
  try simp only [Act.put, List.setIfInBounds_toArray, List.set_cons_zero, List.set_cons_succ]
  refine need_done (by kernel_rfl) ?_ _
  obtain ⟨z0, z1, z2, z3, z4, z5, z6, z7, z8, z9, z10, z11, z12, zl⟩ := hcs.out _ _ h2.out
  try dsimp only at z0 z1 z2 z3 z4 z5 z6 z7 z8 z9 z10 z11 z12 zl
  go_wp2_with fail
  refine (k1.out _ h2.out).mono ?_
  rintro e w3 ⟨rfl, h3⟩
  replace h3 := Lib.hid h3
  clear h2 k1 z0 z1 z2 z3 z4 z5 z6 z7 z8 z9 z10 z11 z12 zl
  go_wp2
  go_end0
  exact ⟨rfl, h3.out.pull.rest⟩
theorem wRequest_h (L : IsAsr R) (h : Held w W (star (objA WrIs p bs) R)) (q : Req) (s : Reqs) (hat : ReqAt w q s) (hq : q.Wf) (hg : goodQ q = true) (hs : bs.size ≤ 1000) :
    Calls Try.prog 26 #[.pointer (some ⟨p, 0, none⟩), reqV q s] W fun e w2 => e = .returned (.tuple #[]) ∧ Held w w2 (star (objA WrIs p (bs ++ reqB q)) R) := by
  rcases goodQ_ops hg with ho | ho | ho | ho | ho | ho
  · exact wRequest1_h L h q s hat hq hg hs ho
  · exact wRequest2_h L h q s hat hq hg hs ho
  · exact wRequest3_h L h q s hat hq hg hs ho
  · exact wRequest4_h L h q s hat hq hg hs ho
  · exact wRequest5_h L h q s hat hq hg hs ho
  · exact wRequest6_h L h q s hat hq hg hs ho
theorem wrIs_newT (W : World) (t : TypeId) : WrIs (fun k => k = W.heap.size) (W.alloc (.cells #[.slice none 0 0] t)) W.heap.size ByteArray.empty :=
  ⟨.slice none 0 0, ⟨by simp [go_sem], by simp [go_sem], by simp, World.ownsRow_nil _ _ _ _, by simp [Value.ownBlock]⟩, fun k hk => by
    rcases hk with e | e
    · exact e
    · simp [Value.ownBlock] at e, fun k hk => by rw [hk]; simp⟩
theorem reqB_size (q : Req) (hg : goodQ q = true) : (reqB q).size ≤ 1000 := by
  unfold reqB
  rw [ByteArray.size_append, intB_size, show sizeK 1 = 1 from rfl]
  rcases goodQ_ops hg with ho | ho | ho | ho | ho | ho
  · rw [goodQ_1 ho, Bool.and_eq_true] at hg
    have := of_decide_eq_true hg.1
    rw [bodyQ_1 ho]; unfold listB; rw [ByteArray.size_append, intB_size, catB_size accB_size, show sizeK 1 = 1 from rfl]; omega
  · rw [goodQ_2 ho, Bool.and_eq_true] at hg
    have := of_decide_eq_true hg.1
    rw [bodyQ_2 ho]; unfold listB; rw [ByteArray.size_append, intB_size, catB_size traB_size, show sizeK 1 = 1 from rfl]; omega
  · rw [bodyQ_3 ho, intB_size, show sizeK 8 = 8 from rfl]; omega
  · rw [goodQ_4 ho] at hg
    have := of_decide_eq_true hg
    rw [bodyQ_x (by omega) (by omega) (by omega) (by omega)]; unfold listB; rw [ByteArray.size_append, intB_size, catB_size idB_size, show sizeK 1 = 1 from rfl]; omega
  · rw [goodQ_5 ho] at hg
    have := of_decide_eq_true hg
    rw [bodyQ_x (by omega) (by omega) (by omega) (by omega)]; unfold listB; rw [ByteArray.size_append, intB_size, catB_size idB_size, show sizeK 1 = 1 from rfl]; omega
  · rw [bodyQ_6 ho]; unfold fltB
    simp only [ByteArray.size_append, numB_size, intB_size, yesB_size, show sizeK 8 = 8 from rfl, show sizeK 1 = 1 from rfl]
    omega
end
set_option maxRecDepth 100000 in
set_option maxHeartbeats 4000000 in
/-- A request's bytes. -/
theorem wireBytes_any (q : Req) (s : Reqs) (W : World) (hat : ReqAt W q s) (hq : q.Wf) :
    Calls Try.prog 12 #[reqV q s] W fun e w2 => e = .returned (if goodQ q = true then .tuple #[.string (reqB q), .int .i64 0] else .tuple #[.string ByteArray.empty, .int .i64 1]) ∧ Below W.heap.size W w2 := by
  have hz := Lib.hid (fun (cs : Array Value) (t : TypeId) => (Below.refl W.heap.size W).alloc (Nat.le_refl _) (.cells cs t))
  have hbx := BoxAt.new W (q.cells s) 31
  have hcs := Lib.hid (fun wx b (h : BoxAt wx b (q.cells s)) => h.req)
  have hg := Lib.hid (fun W2 (hb : Below W.heap.size W W2) => wireGood_any q s W2 (hat.later hb))
  have kr := Lib.hid (fun (W2 : World) (hb : Below W.heap.size W W2) (hgood : goodQ q = true) (W3 : World) (bs : ByteArray) (p : Nat) (hs : bs.size ≤ 1000) (h : Held W2 W3 (star (objA WrIs p bs) nilA)) => wRequest_h isAsr_nil h q s (hat.later hb) hq hgood hs)
  have hsz := Lib.hid (fun hgood => reqB_size q hgood)
  generalize goodQ q = gq at *
  generalize reqB q = B at *
  clear hat hq
  obtain ⟨op, acs, ts, now, ids, ⟨ac, fr, tt, db, cr, la, li⟩⟩ := q
  obtain ⟨sA, sAc, sT, sTc, sI, sIc⟩ := s
  unfold reqV at *
  dsimp only at *
  replace hbx := Lib.hid hbx
  go_enter Try.func12, Try.ntmps12
  go_wp2_with fail
  refine (hg.out _ (hz.out _ _)).mono ?_
  rintro e w2 ⟨rfl, hb2⟩
  obtain ⟨z0, z1, z2, z3, z4, z5, z6, z7, z8, z9, z10, z11, z12, zl⟩ := hcs.out _ _ (hbx.out.later hb2)
  have hbe := (hz.out _ _).trans (hb2.mono (hz.out _ _).size)
  try dsimp only at z0 z1 z2 z3 z4 z5 z6 z7 z8 z9 z10 z11 z12 zl
  clear hb2 hg
  cases gq with
  | false =>
    have hbe := Lib.hid hbe
    go_wp2
    refine bodyPost_ret (v := .tuple #[.string ByteArray.empty, .int .i64 1]) ?_ rfl ⟨rfl, hbe.out⟩
    simp [results, Try.results12, go_sem]
    rfl
  | true =>
    have h1 := (Held.start w2).obj (O := WrIs) (m := ByteArray.empty) (cs := [.slice none 0 0]) (t := 67) isAsr_nil (wrIs_newT w2 _)
    replace h1 := Lib.hid h1
    replace hbe := Lib.hid hbe
    have k1 := Lib.hid (kr.out w2 hbe.out rfl _ _ _ (by decide) h1.out)
    clear h1 kr hcs hbx
    go_wp2_with fail
    refine k1.out.mono ?_
    rintro e w3 ⟨rfl, h3⟩
    clear k1 z0 z1 z2 z3 z4 z5 z6 z7 z8 z9 z10 z11 z12 zl
    have hB : B.size ≤ 1000 := by first | exact hsz.out rfl | exact hsz.out trivial
    have k2 := (h3.ask (isAsr_wr _ _) isAsr_nil (S := fun e _ => e = .returned (.string (ByteArray.empty ++ B))) (fun F hF => landedWr.str F w3 w2.heap.size _ hF (by rw [ByteArray.empty_append]; omega)))
    rw [ByteArray.empty_append] at k2
    replace k2 := Lib.hid k2
    clear h3 hsz hB
    go_wp2_with fail
    refine k2.out.mono ?_
    rintro e w4 ⟨rfl, h4⟩
    have hfin := Lib.hid (hbe.out.trans (h4.below.mono hbe.out.size))
    clear h4 k2
    go_wp2
    refine bodyPost_ret (v := .tuple #[.string B, .int .i64 0]) ?_ rfl ⟨rfl, hfin.out⟩
    simp [results, Try.results12, go_sem]
end Go.Proofs.Ytfdanlfiaoedfaa
