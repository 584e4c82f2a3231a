/- Stage 22, landed: which replies have bytes; a reply's bytes. No condition but sizes. -/
import Derived.Test.YtfdanlfiaoedfaaZWra
namespace Go.Proofs.Ytfdanlfiaoedfaa
open Go.RowKit Go.Sort Wm Cr

theorem BoxAt.rep {W : World} {b : Nat} {q : Rep} {s : Reps} (h : BoxAt W b (q.cells s)) :
    W.cell? ⟨b, 0, none⟩ = some (.int .i64 q.Err) ∧ W.cell? ⟨b, 1, none⟩ = some (.slice s.Results q.Results.length s.Resultsc) ∧ W.cell? ⟨b, 2, none⟩ = some (.slice s.Accounts q.Accounts.length s.Accountsc) ∧ W.cell? ⟨b, 3, none⟩ = some (.slice s.Transfers q.Transfers.length s.Transfersc) ∧ b < W.heap.size :=
  ⟨h.spot 0 _ rfl, h.spot 1 _ rfl, h.spot 2 _ rfl, h.spot 3 _ rfl, h.lt⟩
set_option maxRecDepth 100000 in
set_option maxHeartbeats 4000000 in
theorem isReply_any (p : Rep) (s : Reps) (W : World) (hat : RepAt W p s) : Calls Try.prog 42 #[repV p s] W fun e W' => e = .returned (.bool (fitsP p)) ∧ Below W.heap.size W W' := by
  have hz := Lib.hid (fun (cs : Array Value) (t : TypeId) => (Below.refl W.heap.size W).alloc (Nat.le_refl _) (.cells cs t))
  have hbx := BoxAt.new W (p.cells s) 43
  have hcs := Lib.hid (fun wx (h : BoxAt wx W.heap.size (p.cells s)) => h.rep)
  have k0 := Lib.hid (fun W' => isCodeE_any p.Err W')
  have k1 := Lib.hid (fun W' => isAnswer_any p.Results.length W')
  have k2 := Lib.hid (fun W' => isAnswer_any p.Accounts.length W')
  have k3 := Lib.hid (fun W' => isAnswer_any p.Transfers.length W')
  have k4 := Lib.hid (fun W' (hb : Below W.heap.size W W') => allResu_any p.Results s.Results s.Resultsc W' (hat.Results.later hb) hat.Resultsl)
  have k5 := Lib.hid (fun W' (hb : Below W.heap.size W W') => allAcct_any p.Accounts s.Accounts s.Accountsc W' (hat.Accounts.later hb) hat.Accountsl)
  have k6 := Lib.hid (fun W' (hb : Below W.heap.size W W') => allTran_any p.Transfers s.Transfers s.Transfersc W' (hat.Transfers.later hb) hat.Transfersl)
  have hf := Lib.hid (show fitsP p = (codeB p.Err && (decide (p.Results.length ≤ 16) && (decide (p.Accounts.length ≤ 16) && (decide (p.Transfers.length ≤ 16) && (p.Results.all codeR && (p.Accounts.all goodA && p.Transfers.all goodT)))))) from rfl)
  rw [hf.out]
  clear hf hat
  obtain ⟨er, rs, acs, ts⟩ := p
  obtain ⟨sR, sRc, sA, sAc, sT, sTc⟩ := s
  unfold repV at *
  unfold Rep.cells at hbx hcs
  dsimp only at *
  generalize codeB er = b0 at *
  generalize decide (rs.length ≤ 16) = b1 at *
  generalize decide (acs.length ≤ 16) = b2 at *
  generalize decide (ts.length ≤ 16) = b3 at *
  generalize rs.all codeR = b4 at *
  generalize acs.all goodA = b5 at *
  generalize ts.all goodT = b6 at *
  replace hbx := Lib.hid hbx
  cases b0
  · go_enter Try.func42, Try.ntmps42
    go_wp2_with (first
      | (go_at_call 68; with_reducible refine (k0.out _).mono ?_; rintro e w0 ⟨rfl, rfl⟩)
      | (go_at_call 69; with_reducible refine (k1.out _).mono ?_; rintro e w0 ⟨rfl, rfl⟩)
      | (go_at_call 69; with_reducible refine (k2.out _).mono ?_; rintro e w0 ⟨rfl, rfl⟩)
      | (go_at_call 69; with_reducible refine (k3.out _).mono ?_; rintro e w0 ⟨rfl, rfl⟩)
      | (go_at_call 70; with_reducible refine (k4.out _ (hz.out _ _)).mono ?_; rintro e w0 ⟨rfl, rfl⟩)
      | (go_at_call 29; with_reducible refine (k5.out _ (hz.out _ _)).mono ?_; rintro e w5 ⟨rfl, hb5⟩; obtain ⟨-, -, -, z3, zl⟩ := hcs.out _ (hbx.out.later hb5); (try dsimp only at z3 zl); have hf5 := Lib.hid ((hz.out _ _).trans (hb5.mono (hz.out _ _).size)))
      | (go_at_call 31; with_reducible refine (k6.out _ hf5.out).mono ?_; rintro e w6 ⟨rfl, hb6⟩; have hf6 := Lib.hid (hf5.out.trans (hb6.mono hf5.out.size))))
    go_ret
    exact ⟨rfl, hz.out _ _⟩
  · skip
    cases b1
    · go_enter Try.func42, Try.ntmps42
      go_wp2_with (first
      | (go_at_call 68; with_reducible refine (k0.out _).mono ?_; rintro e w0 ⟨rfl, rfl⟩)
      | (go_at_call 69; with_reducible refine (k1.out _).mono ?_; rintro e w0 ⟨rfl, rfl⟩)
      | (go_at_call 69; with_reducible refine (k2.out _).mono ?_; rintro e w0 ⟨rfl, rfl⟩)
      | (go_at_call 69; with_reducible refine (k3.out _).mono ?_; rintro e w0 ⟨rfl, rfl⟩)
      | (go_at_call 70; with_reducible refine (k4.out _ (hz.out _ _)).mono ?_; rintro e w0 ⟨rfl, rfl⟩)
      | (go_at_call 29; with_reducible refine (k5.out _ (hz.out _ _)).mono ?_; rintro e w5 ⟨rfl, hb5⟩; obtain ⟨-, -, -, z3, zl⟩ := hcs.out _ (hbx.out.later hb5); (try dsimp only at z3 zl); have hf5 := Lib.hid ((hz.out _ _).trans (hb5.mono (hz.out _ _).size)))
      | (go_at_call 31; with_reducible refine (k6.out _ hf5.out).mono ?_; rintro e w6 ⟨rfl, hb6⟩; have hf6 := Lib.hid (hf5.out.trans (hb6.mono hf5.out.size))))
      go_ret
      exact ⟨rfl, hz.out _ _⟩
    · skip
      cases b2
      · go_enter Try.func42, Try.ntmps42
        go_wp2_with (first
      | (go_at_call 68; with_reducible refine (k0.out _).mono ?_; rintro e w0 ⟨rfl, rfl⟩)
      | (go_at_call 69; with_reducible refine (k1.out _).mono ?_; rintro e w0 ⟨rfl, rfl⟩)
      | (go_at_call 69; with_reducible refine (k2.out _).mono ?_; rintro e w0 ⟨rfl, rfl⟩)
      | (go_at_call 69; with_reducible refine (k3.out _).mono ?_; rintro e w0 ⟨rfl, rfl⟩)
      | (go_at_call 70; with_reducible refine (k4.out _ (hz.out _ _)).mono ?_; rintro e w0 ⟨rfl, rfl⟩)
      | (go_at_call 29; with_reducible refine (k5.out _ (hz.out _ _)).mono ?_; rintro e w5 ⟨rfl, hb5⟩; obtain ⟨-, -, -, z3, zl⟩ := hcs.out _ (hbx.out.later hb5); (try dsimp only at z3 zl); have hf5 := Lib.hid ((hz.out _ _).trans (hb5.mono (hz.out _ _).size)))
      | (go_at_call 31; with_reducible refine (k6.out _ hf5.out).mono ?_; rintro e w6 ⟨rfl, hb6⟩; have hf6 := Lib.hid (hf5.out.trans (hb6.mono hf5.out.size))))
        go_ret
        exact ⟨rfl, hz.out _ _⟩
      · skip
        cases b3
        · go_enter Try.func42, Try.ntmps42
          go_wp2_with (first
      | (go_at_call 68; with_reducible refine (k0.out _).mono ?_; rintro e w0 ⟨rfl, rfl⟩)
      | (go_at_call 69; with_reducible refine (k1.out _).mono ?_; rintro e w0 ⟨rfl, rfl⟩)
      | (go_at_call 69; with_reducible refine (k2.out _).mono ?_; rintro e w0 ⟨rfl, rfl⟩)
      | (go_at_call 69; with_reducible refine (k3.out _).mono ?_; rintro e w0 ⟨rfl, rfl⟩)
      | (go_at_call 70; with_reducible refine (k4.out _ (hz.out _ _)).mono ?_; rintro e w0 ⟨rfl, rfl⟩)
      | (go_at_call 29; with_reducible refine (k5.out _ (hz.out _ _)).mono ?_; rintro e w5 ⟨rfl, hb5⟩; obtain ⟨-, -, -, z3, zl⟩ := hcs.out _ (hbx.out.later hb5); (try dsimp only at z3 zl); have hf5 := Lib.hid ((hz.out _ _).trans (hb5.mono (hz.out _ _).size)))
      | (go_at_call 31; with_reducible refine (k6.out _ hf5.out).mono ?_; rintro e w6 ⟨rfl, hb6⟩; have hf6 := Lib.hid (hf5.out.trans (hb6.mono hf5.out.size))))
          go_ret
          exact ⟨rfl, hz.out _ _⟩
        · skip
          cases b4
          · go_enter Try.func42, Try.ntmps42
            go_wp2_with (first
      | (go_at_call 68; with_reducible refine (k0.out _).mono ?_; rintro e w0 ⟨rfl, rfl⟩)
      | (go_at_call 69; with_reducible refine (k1.out _).mono ?_; rintro e w0 ⟨rfl, rfl⟩)
      | (go_at_call 69; with_reducible refine (k2.out _).mono ?_; rintro e w0 ⟨rfl, rfl⟩)
      | (go_at_call 69; with_reducible refine (k3.out _).mono ?_; rintro e w0 ⟨rfl, rfl⟩)
      | (go_at_call 70; with_reducible refine (k4.out _ (hz.out _ _)).mono ?_; rintro e w0 ⟨rfl, rfl⟩)
      | (go_at_call 29; with_reducible refine (k5.out _ (hz.out _ _)).mono ?_; rintro e w5 ⟨rfl, hb5⟩; obtain ⟨-, -, -, z3, zl⟩ := hcs.out _ (hbx.out.later hb5); (try dsimp only at z3 zl); have hf5 := Lib.hid ((hz.out _ _).trans (hb5.mono (hz.out _ _).size)))
      | (go_at_call 31; with_reducible refine (k6.out _ hf5.out).mono ?_; rintro e w6 ⟨rfl, hb6⟩; have hf6 := Lib.hid (hf5.out.trans (hb6.mono hf5.out.size))))
            go_ret
            exact ⟨rfl, hz.out _ _⟩
          · skip
            cases b5
            · go_enter Try.func42, Try.ntmps42
              go_wp2_with (first
      | (go_at_call 68; with_reducible refine (k0.out _).mono ?_; rintro e w0 ⟨rfl, rfl⟩)
      | (go_at_call 69; with_reducible refine (k1.out _).mono ?_; rintro e w0 ⟨rfl, rfl⟩)
      | (go_at_call 69; with_reducible refine (k2.out _).mono ?_; rintro e w0 ⟨rfl, rfl⟩)
      | (go_at_call 69; with_reducible refine (k3.out _).mono ?_; rintro e w0 ⟨rfl, rfl⟩)
      | (go_at_call 70; with_reducible refine (k4.out _ (hz.out _ _)).mono ?_; rintro e w0 ⟨rfl, rfl⟩)
      | (go_at_call 29; with_reducible refine (k5.out _ (hz.out _ _)).mono ?_; rintro e w5 ⟨rfl, hb5⟩; obtain ⟨-, -, -, z3, zl⟩ := hcs.out _ (hbx.out.later hb5); (try dsimp only at z3 zl); have hf5 := Lib.hid ((hz.out _ _).trans (hb5.mono (hz.out _ _).size)))
      | (go_at_call 31; with_reducible refine (k6.out _ hf5.out).mono ?_; rintro e w6 ⟨rfl, hb6⟩; have hf6 := Lib.hid (hf5.out.trans (hb6.mono hf5.out.size))))
              go_ret
              exact ⟨rfl, hf5.out⟩
            · skip
              cases b6
              · go_enter Try.func42, Try.ntmps42
                go_wp2_with (first
      | (go_at_call 68; with_reducible refine (k0.out _).mono ?_; rintro e w0 ⟨rfl, rfl⟩)
      | (go_at_call 69; with_reducible refine (k1.out _).mono ?_; rintro e w0 ⟨rfl, rfl⟩)
      | (go_at_call 69; with_reducible refine (k2.out _).mono ?_; rintro e w0 ⟨rfl, rfl⟩)
      | (go_at_call 69; with_reducible refine (k3.out _).mono ?_; rintro e w0 ⟨rfl, rfl⟩)
      | (go_at_call 70; with_reducible refine (k4.out _ (hz.out _ _)).mono ?_; rintro e w0 ⟨rfl, rfl⟩)
      | (go_at_call 29; with_reducible refine (k5.out _ (hz.out _ _)).mono ?_; rintro e w5 ⟨rfl, hb5⟩; obtain ⟨-, -, -, z3, zl⟩ := hcs.out _ (hbx.out.later hb5); (try dsimp only at z3 zl); have hf5 := Lib.hid ((hz.out _ _).trans (hb5.mono (hz.out _ _).size)))
      | (go_at_call 31; with_reducible refine (k6.out _ hf5.out).mono ?_; rintro e w6 ⟨rfl, hb6⟩; have hf6 := Lib.hid (hf5.out.trans (hb6.mono hf5.out.size))))
                go_ret
                exact ⟨rfl, hf6.out⟩
              · go_enter Try.func42, Try.ntmps42
                go_wp2_with (first
      | (go_at_call 68; with_reducible refine (k0.out _).mono ?_; rintro e w0 ⟨rfl, rfl⟩)
      | (go_at_call 69; with_reducible refine (k1.out _).mono ?_; rintro e w0 ⟨rfl, rfl⟩)
      | (go_at_call 69; with_reducible refine (k2.out _).mono ?_; rintro e w0 ⟨rfl, rfl⟩)
      | (go_at_call 69; with_reducible refine (k3.out _).mono ?_; rintro e w0 ⟨rfl, rfl⟩)
      | (go_at_call 70; with_reducible refine (k4.out _ (hz.out _ _)).mono ?_; rintro e w0 ⟨rfl, rfl⟩)
      | (go_at_call 29; with_reducible refine (k5.out _ (hz.out _ _)).mono ?_; rintro e w5 ⟨rfl, hb5⟩; obtain ⟨-, -, -, z3, zl⟩ := hcs.out _ (hbx.out.later hb5); (try dsimp only at z3 zl); have hf5 := Lib.hid ((hz.out _ _).trans (hb5.mono (hz.out _ _).size)))
      | (go_at_call 31; with_reducible refine (k6.out _ hf5.out).mono ?_; rintro e w6 ⟨rfl, hb6⟩; have hf6 := Lib.hid (hf5.out.trans (hb6.mono hf5.out.size))))
                go_ret
                exact ⟨rfl, hf6.out⟩
section
variable {w W : World} {R : Asr} {p : Nat} {bs : ByteArray}
set_option maxRecDepth 100000 in
set_option maxHeartbeats 4000000 in
theorem wReply_h (L : IsAsr R) (h : Held w W (star (objA WrIs p bs) R)) (q : Rep) (s : Reps) (hat : RepAt w q s) (hq : q.Wf) (hg : fitsP q = true) (hs : bs.size ≤ 500) :
    Calls Try.prog 43 #[.pointer (some ⟨p, 0, none⟩), repV q s] W fun e w2 => e = .returned (.tuple #[]) ∧ Held w w2 (star (objA WrIs p (bs ++ partsB q)) R) := by
  have hF := (fitsP_iff q).1 hg
  have h1 := (h.box ((isAsr_wr _ _).star L) (q.cells s) 43).pull
  have LB : IsAsr (star (boxA W.heap.size (q.cells s)) R) := (isAsr_box _ _).star L
  have hlast : bs ++ partsB q = bs ++ intB 1 q.Err ++ listB resB q.Results ++ listB accB q.Accounts ++ listB traB q.Transfers := by unfold partsB; simp only [ByteArray.append_assoc]
  rw [hlast]
  clear hlast
  have z1s : (intB 1 q.Err).size = 1 := by rw [intB_size]; rfl
  have z2s : (listB resB q.Results).size ≤ 100 := by have := hF.r; unfold listB; rw [ByteArray.size_append, intB_size, catB_size resB_size, show sizeK 1 = 1 from rfl]; omega
  have z3s : (listB accB q.Accounts).size ≤ 1900 := by have := hF.a; unfold listB; rw [ByteArray.size_append, intB_size, catB_size accB_size, show sizeK 1 = 1 from rfl]; omega
  have he := hF.err
  have hr := hF.r
  have ha := hF.a
  have ht := hF.t
  have k0 := Lib.hid (fun wx (hX : Held w wx (star (objA WrIs p bs) (star (boxA W.heap.size (q.cells s)) R))) => wInt_h LB hX 1 q.Err (by omega) (by omega))
  have k1 := Lib.hid (fun wx (hX : Held w wx (star (objA WrIs p (bs ++ intB 1 q.Err)) (star (boxA W.heap.size (q.cells s)) R))) => putAllResu_h (cap := s.Resultsc) LB hX hat.Results hq.Results (by omega) (by rw [ByteArray.size_append]; omega))
  have k2 := Lib.hid (fun wx (hX : Held w wx (star (objA WrIs p (bs ++ intB 1 q.Err ++ listB resB q.Results)) (star (boxA W.heap.size (q.cells s)) R))) => putAllAcct_h (cap := s.Accountsc) LB hX hat.Accounts hq.Accounts hF.acs (by omega) (by rw [ByteArray.size_append, ByteArray.size_append]; omega))
  have k3 := Lib.hid (fun wx (hX : Held w wx (star (objA WrIs p (bs ++ intB 1 q.Err ++ listB resB q.Results ++ listB accB q.Accounts)) (star (boxA W.heap.size (q.cells s)) R))) => putAllTran_h (cap := s.Transfersc) LB hX hat.Transfers hq.Transfers hF.ts (by omega) (by rw [ByteArray.size_append, ByteArray.size_append, ByteArray.size_append]; omega))
  have hcs := Lib.hid (fun x wx (hX : Held w wx (star (objA WrIs p x) (star (boxA W.heap.size (q.cells s)) R))) => (hX.pull.boxAt.1).rep)
  clear h hat hg hq hs z1s z2s z3s hF he hr ha ht
  obtain ⟨er, rs, acs, ts⟩ := q
  obtain ⟨sR, sRc, sA, sAc, sT, sTc⟩ := s
  unfold repV
  dsimp only at *
  generalize bs ++ intB 1 er = bs1 at *
  generalize bs1 ++ listB resB rs = bs2 at *
  generalize bs2 ++ listB accB acs = bs3 at *
  obtain ⟨w1, hw1⟩ : ∃ w1, w1 = W.alloc (.cells (Rep.cells ⟨er, rs, acs, ts⟩ ⟨sR, sRc, sA, sAc, sT, sTc⟩).toArray 43) := ⟨_, rfl⟩
  rw [← hw1] at h1
  unfold Rep.cells at hw1
  replace h1 := Lib.hid h1
  replace hw1 := Lib.hid hw1
  go_enter Try.func43, Try.ntmps43
  go_wp2_with fail
  rw [← hw1.out]
  clear hw1
  have hd := h1.out.later ((isAsr_wr _ _).star LB) (Below.refl _ _).drew
  have kc := Lib.hid (k0.out _ hd)
  obtain ⟨z0, z1, z2, z3, zl⟩ := hcs.out _ _ hd
  have hS := And.intro z0 zl
  try dsimp only at hS
  clear z0 z1 z2 z3 zl hd h1 k0
  generalize hv : w1.drew = v1 at *
  refine wp_region_need (fun _ => True) [0, 1, 2, 3] (by kernel_rfl) ?_
  rw [hv]
  clear hv
  refine need_takeL (i := 0) (v := ?cv189) rfl rfl (by kernel_rfl) (by kernel_rfl) (by kernel_rfl) (fun _ _ _ h => h) (Or.inl ⟨by rfl, ?ch189⟩) trivial ?cr189
  case ch189 => (intro w' hSw; (try dsimp only at hSw); go_simp; first | done | with_reducible rfl)
  try simp only [Act.put, List.setIfInBounds_toArray, List.set_cons_zero, List.set_cons_succ]
  refine need_takeL (i := 1) (v := ?cv192) rfl rfl (by kernel_rfl) (by kernel_rfl) (by kernel_rfl) (fun _ _ _ h => h) (Or.inl ⟨by rfl, ?ch192⟩) trivial ?cr192
  case ch192 => (intro w' hSw; (try dsimp only at hSw); go_simp; first | done | with_reducible rfl)
  try simp only [Act.put, List.setIfInBounds_toArray, List.set_cons_zero, List.set_cons_succ]
  refine need_takeL (i := 2) (v := ?cv195) rfl rfl (by kernel_rfl) (by kernel_rfl) (by kernel_rfl) (fun _ _ _ h => h) (Or.inl ⟨by rfl, ?ch195⟩) trivial ?cr195
  case ch195 => (intro w' hSw; (try dsimp only at hSw); go_simp; first | done | with_reducible rfl)
  try simp only [Act.put, List.setIfInBounds_toArray, List.set_cons_zero, List.set_cons_succ]
  refine need_takeL (i := 3) (v := ?cv198) rfl rfl (by kernel_rfl) (by kernel_rfl) (by kernel_rfl) (fun _ _ _ h => h) (Or.inl ⟨by rfl, ?ch198⟩) trivial ?cr198
  case ch198 => (intro w' hSw; (try dsimp only at hSw); go_simp; first | done | with_reducible rfl)
  try simp only [Act.put, List.setIfInBounds_toArray, List.set_cons_zero, List.set_cons_succ]
  refine need_from (S2 := fun w' => w'.cell? ⟨W.heap.size, 0, none⟩ = some (.int .i64 er) ∧ W.heap.size < w'.heap.size) (need2 := [4]) (fun _ => trivial) _ _ _ _ ?_
  refine need_takeL (i := 4) (v := ?cv202) rfl rfl (by kernel_rfl) (by kernel_rfl) (by kernel_rfl) (fun _ _ _ h => h) (Or.inl ⟨by rfl, ?ch202⟩) hS ?cr202
  case ch202 => (intro w' hSw; (try dsimp only at hSw); go_simp; first | done | with_reducible rfl)
  try simp only [Act.put, List.setIfInBounds_toArray, List.set_cons_zero, List.set_cons_succ]
  refine need_turnL (i := 5) rfl (by kernel_rfl) (by rfl) (fun K' hK' => ?_)
  go_simp
  refine kc.out.mono ?_
  rintro e w2 ⟨rfl, h2⟩
  replace h2 := Lib.hid h2
  refine hK' _ _ (spared (by kernel_rfl)) ?_
  clear hK' K' hS kc
  try simp only [Act.put, List.setIfInBounds_toArray, List.set_cons_zero, List.set_cons_succ]
  refine need_done (by kernel_rfl) ?_ _
  obtain ⟨z0, z1, z2, z3, zl⟩ := hcs.out _ _ h2.out
  try dsimp only at z0 z1 z2 z3 zl
  go_wp2_with fail
  refine (k1.out _ h2.out).mono ?_
  rintro e w3 ⟨rfl, h3⟩
  replace h3 := Lib.hid h3
  clear h2 k1 z0 z1 z2 z3 zl
  obtain ⟨z0, z1, z2, z3, zl⟩ := hcs.out _ _ h3.out
  try dsimp only at z0 z1 z2 z3 zl
  go_wp2_with fail
  refine (k2.out _ h3.out).mono ?_
  rintro e w4 ⟨rfl, h4⟩
  replace h4 := Lib.hid h4
  clear h3 k2 z0 z1 z2 z3 zl
  obtain ⟨z0, z1, z2, z3, zl⟩ := hcs.out _ _ h4.out
  try dsimp only at z0 z1 z2 z3 zl
  go_wp2_with fail
  refine (k3.out _ h4.out).mono ?_
  rintro e w5 ⟨rfl, h5⟩
  replace h5 := Lib.hid h5
  clear h4 k3 z0 z1 z2 z3 zl
  go_wp2
  go_end0
  exact ⟨rfl, h5.out.pull.rest⟩
end
theorem partsB_size (q : Rep) (hg : fitsP q = true) : (partsB q).size ≤ 5000 := by
  have hF := (fitsP_iff q).1 hg
  have hr := hF.r
  have ha := hF.a
  have ht := hF.t
  unfold partsB listB
  simp only [ByteArray.size_append, intB_size, catB_size resB_size, catB_size accB_size, catB_size traB_size, show sizeK 1 = 1 from rfl]
  omega
/-- No rows. -/
def noReps : Reps := ⟨none, 0, none, 0, none, 0⟩
theorem longP_at (W : World) : RepAt W longP noReps := ⟨RowAt.nil, by decide, RowAt.nil, by decide, RowAt.nil, by decide⟩
set_option maxRecDepth 100000 in
set_option maxHeartbeats 4000000 in
/-- A reply's bytes: of one that has some. -/
theorem wireReply_yes (q : Rep) (s : Reps) (W : World) (hat : RepAt W q s) (hq : q.Wf) (hgood : fitsP q = true) :
    Calls Try.prog 16 #[repV q s] W fun e w2 => e = .returned (.string (partsB q)) ∧ Below W.heap.size W w2 := by
  have hz := Lib.hid (fun (cs : Array Value) (t : TypeId) => (Below.refl W.heap.size W).alloc (Nat.le_refl _) (.cells cs t))
  have hbx := BoxAt.new W (q.cells s) 43
  have hcs := Lib.hid (fun wx b (h : BoxAt wx b (q.cells s)) => h.rep)
  have hg := Lib.hid (fun W2 (hb : Below W.heap.size W W2) => isReply_any q s W2 (hat.later hb))
  rw [hgood] at hg
  have kr := Lib.hid (fun (W2 : World) (hb : Below W.heap.size W W2) (W3 : World) (bs : ByteArray) (p : Nat) (hs : bs.size ≤ 500) (h : Held W2 W3 (star (objA WrIs p bs) nilA)) => wReply_h isAsr_nil h q s (hat.later hb) hq hgood hs)
  have hsz := Lib.hid (partsB_size q hgood)
  generalize partsB q = B at *
  clear hat hq hgood
  obtain ⟨er, rs, acs, ts⟩ := q
  obtain ⟨sR, sRc, sA, sAc, sT, sTc⟩ := s
  unfold repV at *
  dsimp only at *
  replace hbx := Lib.hid hbx
  go_enter Try.func16, Try.ntmps16
  go_wp2_with fail
  refine (hg.out _ (hz.out _ _)).mono ?_
  rintro e w2 ⟨rfl, hb2⟩
  have hbx2 := hbx.out.later hb2
  have hbe := (hz.out _ _).trans (hb2.mono (hz.out _ _).size)
  clear hb2 hg
  obtain ⟨z0, z1, z2, z3, zl⟩ := hcs.out _ _ hbx2
  try dsimp only at z0 z1 z2 z3 zl
  have h1 := (Held.start w2).obj (O := WrIs) (m := ByteArray.empty) (cs := [.slice none 0 0]) (t := 67) isAsr_nil (wrIs_newT w2 _)
  replace h1 := Lib.hid h1
  replace hbe := Lib.hid hbe
  have k1 := Lib.hid (kr.out w2 hbe.out _ _ _ (by decide) h1.out)
  clear h1 kr hcs hbx hbx2
  go_wp2_with fail
  refine k1.out.mono ?_
  rintro e w4 ⟨rfl, h3⟩
  clear k1 z0 z1 z2 z3 zl
  have k2 := (h3.ask (isAsr_wr _ _) isAsr_nil (S := fun e _ => e = .returned (.string (ByteArray.empty ++ B))) (fun F hF => landedWr.str F w4 w2.heap.size _ hF (by rw [ByteArray.empty_append]; have := hsz.out; omega)))
  rw [ByteArray.empty_append] at k2
  replace k2 := Lib.hid k2
  clear h3 hsz
  go_wp2_with fail
  refine k2.out.mono ?_
  rintro e w5 ⟨rfl, h4⟩
  have hfin := Lib.hid (hbe.out.trans (h4.below.mono hbe.out.size))
  clear h4 k2
  go_wp2
  go_ret
  exact ⟨rfl, hfin.out⟩
end Go.Proofs.Ytfdanlfiaoedfaa
