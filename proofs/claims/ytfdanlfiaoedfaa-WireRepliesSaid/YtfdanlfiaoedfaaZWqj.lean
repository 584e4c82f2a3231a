/- Stage 22, landed: a filter and a request are put; a request's bytes. No condition but sizes. -/
import Derived.Test.YtfdanlfiaoedfaaZWqh
namespace Go.Proofs.Ytfdanlfiaoedfaa
open Go.RowKit Go.Sort Wm Cr

theorem range2 {W : World} {b : Nat} {x y : Value} (h0 : W.cell? ⟨b, 0, none⟩ = some x) (h1 : W.cell? ⟨b, 1, none⟩ = some y) : W.rangeAt b 0 [x, y] := fun j v hj => by
  match j, hj with
  | 0, hj => injection hj with hj; rw [← hj]; exact h0
  | 1, hj => injection hj with hj; rw [← hj]; exact h1
theorem BoxAt.flt {W : World} {b : Nat} {f : Flt} (h : BoxAt W b f.cells) : W.cell? ⟨b, 0, none⟩ = some (.int .u64 ((hiN f.Account : Nat) : Int)) ∧ W.cell? ⟨b, 1, none⟩ = some (.int .u64 ((loN f.Account : Nat) : Int)) ∧ W.cell? ⟨b, 2, none⟩ = some (.int .i64 f.From) ∧ W.cell? ⟨b, 3, none⟩ = some (.int .i64 f.To) ∧ W.cell? ⟨b, 4, none⟩ = some (.bool f.Debits) ∧ W.cell? ⟨b, 5, none⟩ = some (.bool f.Credits) ∧ W.cell? ⟨b, 6, none⟩ = some (.bool f.Latest) ∧ W.cell? ⟨b, 7, none⟩ = some (.int .i64 f.Limit) ∧ b < W.heap.size :=
  ⟨h.spot 0 _ rfl, h.spot 1 _ rfl, h.spot 2 _ rfl, h.spot 3 _ rfl, h.spot 4 _ rfl, h.spot 5 _ rfl, h.spot 6 _ rfl, h.spot 7 _ rfl, h.lt⟩
section
variable {w W : World} {R : Asr} {p : Nat} {bs : ByteArray}
set_option maxRecDepth 100000 in
set_option maxHeartbeats 4000000 in
theorem wFilter_h (L : IsAsr R) (h : Held w W (star (objA WrIs p bs) R)) (f : Flt) (hw : f.Wf) (hs : bs.size ≤ 3000) :
    Calls Try.prog 58 #[.pointer (some ⟨p, 0, none⟩), .agg f.cells.toArray] W fun e w2 => e = .returned (.tuple #[]) ∧ Held w w2 (star (objA WrIs p (bs ++ fltB f)) R) := by
  have h1 := (h.box ((isAsr_wr _ _).star L) f.cells 29).pull
  have LB : IsAsr (star (boxA W.heap.size f.cells) R) := (isAsr_box _ _).star L
  have hlast := Lib.hid (show bs ++ numB f.Account ++ intB 8 f.From ++ intB 8 f.To ++ yesB f.Debits ++ yesB f.Credits ++ yesB f.Latest ++ intB 1 f.Limit = bs ++ fltB f by unfold fltB; simp only [ByteArray.append_assoc])
  have z16 := numB_size f.Account
  have z8a : (intB 8 f.From).size = 8 := by rw [intB_size]; rfl
  have z8b : (intB 8 f.To).size = 8 := by rw [intB_size]; rfl
  have y1 := yesB_size f.Debits
  have y2 := yesB_size f.Credits
  have y3 := yesB_size f.Latest
  have k0 := Lib.hid (fun wx (hX : Held w wx (star (objA WrIs p (bs)) (star (boxA W.heap.size f.cells) R))) => wNum_h LB hX f.Account (by omega) hw.Account)
  have k1 := Lib.hid (fun wx (hX : Held w wx (star (objA WrIs p (bs ++ numB f.Account)) (star (boxA W.heap.size f.cells) R))) => wInt_h LB hX 8 f.From (by simp only [ByteArray.size_append]; omega) hw.From)
  have k2 := Lib.hid (fun wx (hX : Held w wx (star (objA WrIs p (bs ++ numB f.Account ++ intB 8 f.From)) (star (boxA W.heap.size f.cells) R))) => wInt_h LB hX 8 f.To (by simp only [ByteArray.size_append]; omega) hw.To)
  have k3 := Lib.hid (fun wx (hX : Held w wx (star (objA WrIs p (bs ++ numB f.Account ++ intB 8 f.From ++ intB 8 f.To)) (star (boxA W.heap.size f.cells) R))) => wFlag_h LB hX f.Debits (by simp only [ByteArray.size_append]; omega))
  have k4 := Lib.hid (fun wx (hX : Held w wx (star (objA WrIs p (bs ++ numB f.Account ++ intB 8 f.From ++ intB 8 f.To ++ yesB f.Debits)) (star (boxA W.heap.size f.cells) R))) => wFlag_h LB hX f.Credits (by simp only [ByteArray.size_append]; omega))
  have k5 := Lib.hid (fun wx (hX : Held w wx (star (objA WrIs p (bs ++ numB f.Account ++ intB 8 f.From ++ intB 8 f.To ++ yesB f.Debits ++ yesB f.Credits)) (star (boxA W.heap.size f.cells) R))) => wFlag_h LB hX f.Latest (by simp only [ByteArray.size_append]; omega))
  have k6 := Lib.hid (fun wx (hX : Held w wx (star (objA WrIs p (bs ++ numB f.Account ++ intB 8 f.From ++ intB 8 f.To ++ yesB f.Debits ++ yesB f.Credits ++ yesB f.Latest)) (star (boxA W.heap.size f.cells) R))) => wInt_h LB hX 1 f.Limit (by simp only [ByteArray.size_append]; omega) hw.Limit)
  rw [hlast.out] at k6
  have hcs := Lib.hid (fun x wx (hX : Held w wx (star (objA WrIs p x) (star (boxA W.heap.size f.cells) R))) => (hX.pull.boxAt.1).flt)
  obtain ⟨ac, fr, tt, db, cr, la, li⟩ := f
  dsimp only at *
  clear z16 z8a z8b y1 y2 y3 hw hs h hlast
  generalize bs ++ numB ac ++ intB 8 fr ++ intB 8 tt ++ yesB db ++ yesB cr ++ yesB la = x5 at *
  generalize bs ++ numB ac ++ intB 8 fr ++ intB 8 tt ++ yesB db ++ yesB cr = x4 at *
  generalize bs ++ numB ac ++ intB 8 fr ++ intB 8 tt ++ yesB db = x3 at *
  generalize bs ++ numB ac ++ intB 8 fr ++ intB 8 tt = x2 at *
  generalize bs ++ numB ac ++ intB 8 fr = x1 at *
  generalize bs ++ numB ac = x0 at *
  obtain ⟨w1, hw1⟩ : ∃ w1, w1 = W.alloc (.cells (Flt.cells ⟨ac, fr, tt, db, cr, la, li⟩).toArray 29) := ⟨_, rfl⟩
  rw [← hw1] at h1
  unfold Flt.cells at hw1
  replace h1 := Lib.hid h1
  replace hw1 := Lib.hid hw1
  unfold numV at k0
  go_enter Try.func58, Try.ntmps58
  go_wp2_with fail
  dsimp only [Flt.cells]
  rw [← hw1.out]
  clear hw1
  have hd := h1.out.later ((isAsr_wr _ _).star LB) (Below.refl _ _).drew
  have kc := Lib.hid (k0.out _ hd)
  obtain ⟨z0, z1, z2, z3, z4, z5, z6, z7, zl⟩ := hcs.out _ _ hd
  have hS := range2 z0 z1
  clear z0 z1 z2 z3 z4 z5 z6 z7 zl hd h1 k0
  generalize hv : w1.drew = v1 at *
  refine wp_region_need (fun _ => True) [0, 1, 2, 3] (by kernel_rfl) ?_
  rw [hv]
  clear hv
  refine need_takeL (i := 0) (v := ?cv64) rfl rfl (by kernel_rfl) (by kernel_rfl) (by kernel_rfl) (fun _ _ _ h => h) (Or.inl ⟨by rfl, ?ch64⟩) trivial ?cr64
  case ch64 => (intro w' hSw; (try dsimp only at hSw); go_simp; first | done | with_reducible rfl)
  try simp only [Act.put, List.setIfInBounds_toArray, List.set_cons_zero, List.set_cons_succ]
  refine need_takeL (i := 1) (v := ?cv67) rfl rfl (by kernel_rfl) (by kernel_rfl) (by kernel_rfl) (fun _ _ _ h => h) (Or.inl ⟨by rfl, ?ch67⟩) trivial ?cr67
  case ch67 => (intro w' hSw; (try dsimp only at hSw); go_simp; first | done | with_reducible rfl)
  try simp only [Act.put, List.setIfInBounds_toArray, List.set_cons_zero, List.set_cons_succ]
  refine need_takeL (i := 2) (v := ?cv70) rfl rfl (by kernel_rfl) (by kernel_rfl) (by kernel_rfl) (fun _ _ _ h => h) (Or.inl ⟨by rfl, ?ch70⟩) trivial ?cr70
  case ch70 => (intro w' hSw; (try dsimp only at hSw); go_simp; first | done | with_reducible rfl)
  try simp only [Act.put, List.setIfInBounds_toArray, List.set_cons_zero, List.set_cons_succ]
  refine need_takeL (i := 3) (v := ?cv73) rfl rfl (by kernel_rfl) (by kernel_rfl) (by kernel_rfl) (fun _ _ _ h => h) (Or.inl ⟨by rfl, ?ch73⟩) trivial ?cr73
  case ch73 => (intro w' hSw; (try dsimp only at hSw); go_simp; first | done | with_reducible rfl)
  try simp only [Act.put, List.setIfInBounds_toArray, List.set_cons_zero, List.set_cons_succ]
  refine need_from (S2 := fun w' => w'.rangeAt W.heap.size 0 [.int .u64 ((hiN ac : Nat) : Int), .int .u64 ((loN ac : Nat) : Int)]) (need2 := [4]) (fun _ => trivial) _ _ _ _ ?_
  refine need_takeL (i := 4) rfl rfl (by kernel_rfl) (by kernel_rfl) (by kernel_rfl) (fun _ _ _ h => h) (yields_loads rfl (W.heap.size) (0) rfl ([.int .u64 ((hiN ac : Nat) : Int), .int .u64 ((loN ac : Nat) : Int)]) _ (fun w' hSw => hSw) Try.underlying27 rfl (by kernel_rfl)) hS ?_
  try simp only [Act.put, List.setIfInBounds_toArray, List.set_cons_zero, List.set_cons_succ]
  refine need_turnL (i := 5) rfl (by kernel_rfl) (by rfl) (fun K' hK' => ?_)
  go_simp
  refine kc.out.mono ?_
  rintro e w2 ⟨rfl, h2⟩
  replace h2 := Lib.hid h2
  refine hK' _ _ (spared (by kernel_rfl)) ?_
  clear hK' K' hS kc
  try simp only [Act.put, List.setIfInBounds_toArray, List.set_cons_zero, List.set_cons_succ]
  refine need_done (by kernel_rfl) ?_ _
  go_wp2_with fail
  have hd := h2.out.later ((isAsr_wr _ _).star LB) (Below.refl _ _).drew
  have kc := Lib.hid (k1.out _ hd)
  obtain ⟨z0, z1, z2, z3, z4, z5, z6, z7, zl⟩ := hcs.out _ _ hd
  have hS := And.intro z2 zl
  clear z0 z1 z2 z3 z4 z5 z6 z7 zl hd h2 k1
  generalize hv : w2.drew = v2 at *
  refine wp_region_need (fun _ => True) [0, 1, 2, 3] (by kernel_rfl) ?_
  rw [hv]
  clear hv
  refine need_takeL (i := 0) (v := ?cv98) rfl rfl (by kernel_rfl) (by kernel_rfl) (by kernel_rfl) (fun _ _ _ h => h) (Or.inl ⟨by rfl, ?ch98⟩) trivial ?cr98
  case ch98 => (intro w' hSw; (try dsimp only at hSw); go_simp; first | done | with_reducible rfl)
  try simp only [Act.put, List.setIfInBounds_toArray, List.set_cons_zero, List.set_cons_succ]
  refine need_takeL (i := 1) (v := ?cv101) rfl rfl (by kernel_rfl) (by kernel_rfl) (by kernel_rfl) (fun _ _ _ h => h) (Or.inl ⟨by rfl, ?ch101⟩) trivial ?cr101
  case ch101 => (intro w' hSw; (try dsimp only at hSw); go_simp; first | done | with_reducible rfl)
  try simp only [Act.put, List.setIfInBounds_toArray, List.set_cons_zero, List.set_cons_succ]
  refine need_takeL (i := 2) (v := ?cv104) rfl rfl (by kernel_rfl) (by kernel_rfl) (by kernel_rfl) (fun _ _ _ h => h) (Or.inl ⟨by rfl, ?ch104⟩) trivial ?cr104
  case ch104 => (intro w' hSw; (try dsimp only at hSw); go_simp; first | done | with_reducible rfl)
  try simp only [Act.put, List.setIfInBounds_toArray, List.set_cons_zero, List.set_cons_succ]
  refine need_takeL (i := 3) (v := ?cv107) rfl rfl (by kernel_rfl) (by kernel_rfl) (by kernel_rfl) (fun _ _ _ h => h) (Or.inl ⟨by rfl, ?ch107⟩) trivial ?cr107
  case ch107 => (intro w' hSw; (try dsimp only at hSw); go_simp; first | done | with_reducible rfl)
  try simp only [Act.put, List.setIfInBounds_toArray, List.set_cons_zero, List.set_cons_succ]
  refine need_from (S2 := fun w' => w'.cell? ⟨W.heap.size, 2, none⟩ = some (.int .i64 fr) ∧ W.heap.size < w'.heap.size) (need2 := [4]) (fun _ => trivial) _ _ _ _ ?_
  refine need_takeL (i := 4) (v := ?cv111) rfl rfl (by kernel_rfl) (by kernel_rfl) (by kernel_rfl) (fun _ _ _ h => h) (Or.inl ⟨by rfl, ?ch111⟩) hS ?cr111
  case ch111 => (intro w' hSw; (try dsimp only at hSw); go_simp; first | done | with_reducible rfl)
  try simp only [Act.put, List.setIfInBounds_toArray, List.set_cons_zero, List.set_cons_succ]
  refine need_turnL (i := 5) rfl (by kernel_rfl) (by rfl) (fun K' hK' => ?_)
  go_simp
  refine kc.out.mono ?_
  rintro e w3 ⟨rfl, h3⟩
  replace h3 := Lib.hid h3
  refine hK' _ _ (spared (by kernel_rfl)) ?_
  clear hK' K' hS kc
  try simp only [Act.put, List.setIfInBounds_toArray, List.set_cons_zero, List.set_cons_succ]
  refine need_done (by kernel_rfl) ?_ _
  go_wp2_with fail
  have hd := h3.out.later ((isAsr_wr _ _).star LB) (Below.refl _ _).drew
  have kc := Lib.hid (k2.out _ hd)
  obtain ⟨z0, z1, z2, z3, z4, z5, z6, z7, zl⟩ := hcs.out _ _ hd
  have hS := And.intro z3 zl
  clear z0 z1 z2 z3 z4 z5 z6 z7 zl hd h3 k2
  generalize hv : w3.drew = v3 at *
  refine wp_region_need (fun _ => True) [0, 1, 2, 3] (by kernel_rfl) ?_
  rw [hv]
  clear hv
  refine need_takeL (i := 0) (v := ?cv133) rfl rfl (by kernel_rfl) (by kernel_rfl) (by kernel_rfl) (fun _ _ _ h => h) (Or.inl ⟨by rfl, ?ch133⟩) trivial ?cr133
  case ch133 => (intro w' hSw; (try dsimp only at hSw); go_simp; first | done | with_reducible rfl)
  try simp only [Act.put, List.setIfInBounds_toArray, List.set_cons_zero, List.set_cons_succ]
  refine need_takeL (i := 1) (v := ?cv136) rfl rfl (by kernel_rfl) (by kernel_rfl) (by kernel_rfl) (fun _ _ _ h => h) (Or.inl ⟨by rfl, ?ch136⟩) trivial ?cr136
  case ch136 => (intro w' hSw; (try dsimp only at hSw); go_simp; first | done | with_reducible rfl)
  try simp only [Act.put, List.setIfInBounds_toArray, List.set_cons_zero, List.set_cons_succ]
  refine need_takeL (i := 2) (v := ?cv139) rfl rfl (by kernel_rfl) (by kernel_rfl) (by kernel_rfl) (fun _ _ _ h => h) (Or.inl ⟨by rfl, ?ch139⟩) trivial ?cr139
  case ch139 => (intro w' hSw; (try dsimp only at hSw); go_simp; first | done | with_reducible rfl)
  try simp only [Act.put, List.setIfInBounds_toArray, List.set_cons_zero, List.set_cons_succ]
  refine need_takeL (i := 3) (v := ?cv142) rfl rfl (by kernel_rfl) (by kernel_rfl) (by kernel_rfl) (fun _ _ _ h => h) (Or.inl ⟨by rfl, ?ch142⟩) trivial ?cr142
  case ch142 => (intro w' hSw; (try dsimp only at hSw); go_simp; first | done | with_reducible rfl)
  try simp only [Act.put, List.setIfInBounds_toArray, List.set_cons_zero, List.set_cons_succ]
  refine need_from (S2 := fun w' => w'.cell? ⟨W.heap.size, 3, none⟩ = some (.int .i64 tt) ∧ W.heap.size < w'.heap.size) (need2 := [4]) (fun _ => trivial) _ _ _ _ ?_
  refine need_takeL (i := 4) (v := ?cv146) rfl rfl (by kernel_rfl) (by kernel_rfl) (by kernel_rfl) (fun _ _ _ h => h) (Or.inl ⟨by rfl, ?ch146⟩) hS ?cr146
  case ch146 => (intro w' hSw; (try dsimp only at hSw); go_simp; first | done | with_reducible rfl)
  try simp only [Act.put, List.setIfInBounds_toArray, List.set_cons_zero, List.set_cons_succ]
  refine need_turnL (i := 5) rfl (by kernel_rfl) (by rfl) (fun K' hK' => ?_)
  go_simp
  refine kc.out.mono ?_
  rintro e w4 ⟨rfl, h4⟩
  replace h4 := Lib.hid h4
  refine hK' _ _ (spared (by kernel_rfl)) ?_
  clear hK' K' hS kc
  try simp only [Act.put, List.setIfInBounds_toArray, List.set_cons_zero, List.set_cons_succ]
  refine need_done (by kernel_rfl) ?_ _
  go_wp2_with fail
  have hd := h4.out.later ((isAsr_wr _ _).star LB) (Below.refl _ _).drew
  have kc := Lib.hid (k3.out _ hd)
  obtain ⟨z0, z1, z2, z3, z4, z5, z6, z7, zl⟩ := hcs.out _ _ hd
  have hS := And.intro z4 zl
  clear z0 z1 z2 z3 z4 z5 z6 z7 zl hd h4 k3
  generalize hv : w4.drew = v4 at *
  refine wp_region_need (fun _ => True) [0, 1, 2, 3] (by kernel_rfl) ?_
  rw [hv]
  clear hv
  refine need_takeL (i := 0) (v := ?cv168) rfl rfl (by kernel_rfl) (by kernel_rfl) (by kernel_rfl) (fun _ _ _ h => h) (Or.inl ⟨by rfl, ?ch168⟩) trivial ?cr168
  case ch168 => (intro w' hSw; (try dsimp only at hSw); go_simp; first | done | with_reducible rfl)
  try simp only [Act.put, List.setIfInBounds_toArray, List.set_cons_zero, List.set_cons_succ]
  refine need_takeL (i := 1) (v := ?cv171) rfl rfl (by kernel_rfl) (by kernel_rfl) (by kernel_rfl) (fun _ _ _ h => h) (Or.inl ⟨by rfl, ?ch171⟩) trivial ?cr171
  case ch171 => (intro w' hSw; (try dsimp only at hSw); go_simp; first | done | with_reducible rfl)
  try simp only [Act.put, List.setIfInBounds_toArray, List.set_cons_zero, List.set_cons_succ]
  refine need_takeL (i := 2) (v := ?cv174) rfl rfl (by kernel_rfl) (by kernel_rfl) (by kernel_rfl) (fun _ _ _ h => h) (Or.inl ⟨by rfl, ?ch174⟩) trivial ?cr174
  case ch174 => (intro w' hSw; (try dsimp only at hSw); go_simp; first | done | with_reducible rfl)
  try simp only [Act.put, List.setIfInBounds_toArray, List.set_cons_zero, List.set_cons_succ]
  refine need_takeL (i := 3) (v := ?cv177) rfl rfl (by kernel_rfl) (by kernel_rfl) (by kernel_rfl) (fun _ _ _ h => h) (Or.inl ⟨by rfl, ?ch177⟩) trivial ?cr177
  case ch177 => (intro w' hSw; (try dsimp only at hSw); go_simp; first | done | with_reducible rfl)
  try simp only [Act.put, List.setIfInBounds_toArray, List.set_cons_zero, List.set_cons_succ]
  refine need_from (S2 := fun w' => w'.cell? ⟨W.heap.size, 4, none⟩ = some (.bool db) ∧ W.heap.size < w'.heap.size) (need2 := [4]) (fun _ => trivial) _ _ _ _ ?_
  refine need_takeL (i := 4) (v := ?cv181) rfl rfl (by kernel_rfl) (by kernel_rfl) (by kernel_rfl) (fun _ _ _ h => h) (Or.inl ⟨by rfl, ?ch181⟩) hS ?cr181
  case ch181 => (intro w' hSw; (try dsimp only at hSw); go_simp; first | done | with_reducible rfl)
  try simp only [Act.put, List.setIfInBounds_toArray, List.set_cons_zero, List.set_cons_succ]
  refine need_turnL (i := 5) rfl (by kernel_rfl) (by rfl) (fun K' hK' => ?_)
  go_simp
  refine kc.out.mono ?_
  rintro e w5 ⟨rfl, h5⟩
  replace h5 := Lib.hid h5
  refine hK' _ _ (spared (by kernel_rfl)) ?_
  clear hK' K' hS kc
  try simp only [Act.put, List.setIfInBounds_toArray, List.set_cons_zero, List.set_cons_succ]
  refine need_done (by kernel_rfl) ?_ _
  go_wp2_with fail
  have hd := h5.out.later ((isAsr_wr _ _).star LB) (Below.refl _ _).drew
  have kc := Lib.hid (k4.out _ hd)
  obtain ⟨z0, z1, z2, z3, z4, z5, z6, z7, zl⟩ := hcs.out _ _ hd
  have hS := And.intro z5 zl
  clear z0 z1 z2 z3 z4 z5 z6 z7 zl hd h5 k4
  generalize hv : w5.drew = v5 at *
  refine wp_region_need (fun _ => True) [0, 1, 2, 3] (by kernel_rfl) ?_
  rw [hv]
  clear hv
  refine need_takeL (i := 0) (v := ?cv203) rfl rfl (by kernel_rfl) (by kernel_rfl) (by kernel_rfl) (fun _ _ _ h => h) (Or.inl ⟨by rfl, ?ch203⟩) trivial ?cr203
  case ch203 => (intro w' hSw; (try dsimp only at hSw); go_simp; first | done | with_reducible rfl)
  try simp only [Act.put, List.setIfInBounds_toArray, List.set_cons_zero, List.set_cons_succ]
  refine need_takeL (i := 1) (v := ?cv206) rfl rfl (by kernel_rfl) (by kernel_rfl) (by kernel_rfl) (fun _ _ _ h => h) (Or.inl ⟨by rfl, ?ch206⟩) trivial ?cr206
  case ch206 => (intro w' hSw; (try dsimp only at hSw); go_simp; first | done | with_reducible rfl)
  try simp only [Act.put, List.setIfInBounds_toArray, List.set_cons_zero, List.set_cons_succ]
  refine need_takeL (i := 2) (v := ?cv209) rfl rfl (by kernel_rfl) (by kernel_rfl) (by kernel_rfl) (fun _ _ _ h => h) (Or.inl ⟨by rfl, ?ch209⟩) trivial ?cr209
  case ch209 => (intro w' hSw; (try dsimp only at hSw); go_simp; first | done | with_reducible rfl)
  try simp only [Act.put, List.setIfInBounds_toArray, List.set_cons_zero, List.set_cons_succ]
  refine need_takeL (i := 3) (v := ?cv212) rfl rfl (by kernel_rfl) (by kernel_rfl) (by kernel_rfl) (fun _ _ _ h => h) (Or.inl ⟨by rfl, ?ch212⟩) trivial ?cr212
  case ch212 => (intro w' hSw; (try dsimp only at hSw); go_simp; first | done | with_reducible rfl)
  try simp only [Act.put, List.setIfInBounds_toArray, List.set_cons_zero, List.set_cons_succ]
  refine need_from (S2 := fun w' => w'.cell? ⟨W.heap.size, 5, none⟩ = some (.bool cr) ∧ W.heap.size < w'.heap.size) (need2 := [4]) (fun _ => trivial) _ _ _ _ ?_
  refine need_takeL (i := 4) (v := ?cv216) rfl rfl (by kernel_rfl) (by kernel_rfl) (by kernel_rfl) (fun _ _ _ h => h) (Or.inl ⟨by rfl, ?ch216⟩) hS ?cr216
  case ch216 => (intro w' hSw; (try dsimp only at hSw); go_simp; first | done | with_reducible rfl)
  try simp only [Act.put, List.setIfInBounds_toArray, List.set_cons_zero, List.set_cons_succ]
  refine need_turnL (i := 5) rfl (by kernel_rfl) (by rfl) (fun K' hK' => ?_)
  go_simp
  refine kc.out.mono ?_
  rintro e w6 ⟨rfl, h6⟩
  replace h6 := Lib.hid h6
  refine hK' _ _ (spared (by kernel_rfl)) ?_
  clear hK' K' hS kc
  try simp only [Act.put, List.setIfInBounds_toArray, List.set_cons_zero, List.set_cons_succ]
  refine need_done (by kernel_rfl) ?_ _
  go_wp2_with fail
  have hd := h6.out.later ((isAsr_wr _ _).star LB) (Below.refl _ _).drew
  have kc := Lib.hid (k5.out _ hd)
  obtain ⟨z0, z1, z2, z3, z4, z5, z6, z7, zl⟩ := hcs.out _ _ hd
  have hS := And.intro z6 zl
  clear z0 z1 z2 z3 z4 z5 z6 z7 zl hd h6 k5
  generalize hv : w6.drew = v6 at *
  refine wp_region_need (fun _ => True) [0, 1, 2, 3] (by kernel_rfl) ?_
  rw [hv]
  clear hv
  refine need_takeL (i := 0) (v := ?cv238) rfl rfl (by kernel_rfl) (by kernel_rfl) (by kernel_rfl) (fun _ _ _ h => h) (Or.inl ⟨by rfl, ?ch238⟩) trivial ?cr238
  case ch238 => (intro w' hSw; (try dsimp only at hSw); go_simp; first | done | with_reducible rfl)
  try simp only [Act.put, List.setIfInBounds_toArray, List.set_cons_zero, List.set_cons_succ]
  refine need_takeL (i := 1) (v := ?cv241) rfl rfl (by kernel_rfl) (by kernel_rfl) (by kernel_rfl) (fun _ _ _ h => h) (Or.inl ⟨by rfl, ?ch241⟩) trivial ?cr241
  case ch241 => (intro w' hSw; (try dsimp only at hSw); go_simp; first | done | with_reducible rfl)
  try simp only [Act.put, List.setIfInBounds_toArray, List.set_cons_zero, List.set_cons_succ]
  refine need_takeL (i := 2) (v := ?cv244) rfl rfl (by kernel_rfl) (by kernel_rfl) (by kernel_rfl) (fun _ _ _ h => h) (Or.inl ⟨by rfl, ?ch244⟩) trivial ?cr244
  case ch244 => (intro w' hSw; (try dsimp only at hSw); go_simp; first | done | with_reducible rfl)
  try simp only [Act.put, List.setIfInBounds_toArray, List.set_cons_zero, List.set_cons_succ]
  refine need_takeL (i := 3) (v := ?cv247) rfl rfl (by kernel_rfl) (by kernel_rfl) (by kernel_rfl) (fun _ _ _ h => h) (Or.inl ⟨by rfl, ?ch247⟩) trivial ?cr247
  case ch247 => (intro w' hSw; (try dsimp only at hSw); go_simp; first | done | with_reducible rfl)
  try simp only [Act.put, List.setIfInBounds_toArray, List.set_cons_zero, List.set_cons_succ]
  refine need_from (S2 := fun w' => w'.cell? ⟨W.heap.size, 6, none⟩ = some (.bool la) ∧ W.heap.size < w'.heap.size) (need2 := [4]) (fun _ => trivial) _ _ _ _ ?_
  refine need_takeL (i := 4) (v := ?cv251) rfl rfl (by kernel_rfl) (by kernel_rfl) (by kernel_rfl) (fun _ _ _ h => h) (Or.inl ⟨by rfl, ?ch251⟩) hS ?cr251
  case ch251 => (intro w' hSw; (try dsimp only at hSw); go_simp; first | done | with_reducible rfl)
  try simp only [Act.put, List.setIfInBounds_toArray, List.set_cons_zero, List.set_cons_succ]
  refine need_turnL (i := 5) rfl (by kernel_rfl) (by rfl) (fun K' hK' => ?_)
  go_simp
  refine kc.out.mono ?_
  rintro e w7 ⟨rfl, h7⟩
  replace h7 := Lib.hid h7
  refine hK' _ _ (spared (by kernel_rfl)) ?_
  clear hK' K' hS kc
  try simp only [Act.put, List.setIfInBounds_toArray, List.set_cons_zero, List.set_cons_succ]
  refine need_done (by kernel_rfl) ?_ _
  go_wp2_with fail
  have hd := h7.out.later ((isAsr_wr _ _).star LB) (Below.refl _ _).drew
  have kc := Lib.hid (k6.out _ hd)
  obtain ⟨z0, z1, z2, z3, z4, z5, z6, z7, zl⟩ := hcs.out _ _ hd
  have hS := And.intro z7 zl
  clear z0 z1 z2 z3 z4 z5 z6 z7 zl hd h7 k6
  generalize hv : w7.drew = v7 at *
  refine wp_region_need (fun _ => True) [0, 1, 2, 3] (by kernel_rfl) ?_
  rw [hv]
  clear hv
  refine need_takeL (i := 0) (v := ?cv273) rfl rfl (by kernel_rfl) (by kernel_rfl) (by kernel_rfl) (fun _ _ _ h => h) (Or.inl ⟨by rfl, ?ch273⟩) trivial ?cr273
  case ch273 => (intro w' hSw; (try dsimp only at hSw); go_simp; first | done | with_reducible rfl)
  try simp only [Act.put, List.setIfInBounds_toArray, List.set_cons_zero, List.set_cons_succ]
  refine need_takeL (i := 1) (v := ?cv276) rfl rfl (by kernel_rfl) (by kernel_rfl) (by kernel_rfl) (fun _ _ _ h => h) (Or.inl ⟨by rfl, ?ch276⟩) trivial ?cr276
  case ch276 => (intro w' hSw; (try dsimp only at hSw); go_simp; first | done | with_reducible rfl)
  try simp only [Act.put, List.setIfInBounds_toArray, List.set_cons_zero, List.set_cons_succ]
  refine need_takeL (i := 2) (v := ?cv279) rfl rfl (by kernel_rfl) (by kernel_rfl) (by kernel_rfl) (fun _ _ _ h => h) (Or.inl ⟨by rfl, ?ch279⟩) trivial ?cr279
  case ch279 => (intro w' hSw; (try dsimp only at hSw); go_simp; first | done | with_reducible rfl)
  try simp only [Act.put, List.setIfInBounds_toArray, List.set_cons_zero, List.set_cons_succ]
  refine need_takeL (i := 3) (v := ?cv282) rfl rfl (by kernel_rfl) (by kernel_rfl) (by kernel_rfl) (fun _ _ _ h => h) (Or.inl ⟨by rfl, ?ch282⟩) trivial ?cr282
  case ch282 => (intro w' hSw; (try dsimp only at hSw); go_simp; first | done | with_reducible rfl)
  try simp only [Act.put, List.setIfInBounds_toArray, List.set_cons_zero, List.set_cons_succ]
  refine need_from (S2 := fun w' => w'.cell? ⟨W.heap.size, 7, none⟩ = some (.int .i64 li) ∧ W.heap.size < w'.heap.size) (need2 := [4]) (fun _ => trivial) _ _ _ _ ?_
  refine need_takeL (i := 4) (v := ?cv286) rfl rfl (by kernel_rfl) (by kernel_rfl) (by kernel_rfl) (fun _ _ _ h => h) (Or.inl ⟨by rfl, ?ch286⟩) hS ?cr286
  case ch286 => (intro w' hSw; (try dsimp only at hSw); go_simp; first | done | with_reducible rfl)
  try simp only [Act.put, List.setIfInBounds_toArray, List.set_cons_zero, List.set_cons_succ]
  refine need_turnL (i := 5) rfl (by kernel_rfl) (by rfl) (fun K' hK' => ?_)
  go_simp
  refine kc.out.mono ?_
  rintro e w8 ⟨rfl, h8⟩
  replace h8 := Lib.hid h8
  refine hK' _ _ (spared (by kernel_rfl)) ?_
  clear hK' K' hS kc
  try simp only [Act.put, List.setIfInBounds_toArray, List.set_cons_zero, List.set_cons_succ]
  refine need_done (by kernel_rfl) ?_ _
  go_wp2
  go_end0
  exact ⟨rfl, h8.out.pull.rest⟩
end
end Go.Proofs.Ytfdanlfiaoedfaa
