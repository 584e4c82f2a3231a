/- Stage 13, landed: an item behind the last one; the last one taken. No condition but sizes. -/
import Derived.Test.YtgdlcfkgdaaooaaPqe
import Derived.Test.YtgdlcfkgdaaooaaStep
import Derived.Lib.AppendZeros
import Derived.Deep.DeepCutAuto
namespace Go.Proofs.Ytgdlcfkgdaaooaa
open Go.RowKit Wm

/-- Behind a call that turned a queue's row. -/
def PostQ (W : World) (p : Nat) (v : Value) (t : List Qit) (W' : World) : Prop := ∃ v', QuV W' p v' t ∧ Only (footQ p v) W W' ∧ ∀ k, k < W.heap.size → footQ p v' k → footQ p v k
theorem PostQ.trans {W W1 W2 : World} {p : Nat} {v : Value} {t : List Qit} {Q : World → Prop} (h : ∃ v1, Q W1 ∧ Only (footQ p v) W W1 ∧ (∀ k, k < W.heap.size → footQ p v1 k → footQ p v k) ∧ PostQ W1 p v1 t W2) : PostQ W p v t W2 := by
  obtain ⟨v1, _, h1, h2, v2, k1, k2, k3⟩ := h
  exact ⟨v2, k1, h1.trans k2 (fun j hj e => h2 j hj e), fun k hk e => h2 k hk (k3 k (Nat.lt_of_lt_of_le hk h1.size) e)⟩
theorem infoQ : InfoK Try.prog 34 4 32 := InfoK.mk' (by kernel_rfl)
theorem asQ (v : Value) (w : World) : (Instr.typeAssert (.iface 34 v) 20 34 false).run Try.prog w = .ok v w := by kernel_rfl
attribute [local go_sem] asQ
/-- A slice stored into a queue. -/
theorem QuV.stored {W W' : World} {p g c : Nat} {v : Value} {s t : List Qit} (h : QuV W p v s) (hO : Only (fun k => v.ownBlock = some k) W W') (ho : W'.ownsRow 0 34 4 (.slice (some ⟨g, 0, none⟩) t.length c) t.length (rowK Qit.cells t)) (hg : v.ownBlock = some g ∨ W.heap.size ≤ g) :
    PostQ W p v t (W'.setCell ⟨p, 0, none⟩ (.slice (some ⟨g, 0, none⟩) t.length c)) := by
  have hpg : g ≠ p := by
    rintro rfl
    rcases hg with e | e
    · exact h.ne e
    · exact Nat.lt_irrefl _ (Nat.lt_of_lt_of_le h.lp e)
  have hc : W'.cell? ⟨p, 0, none⟩ = some v := (hO.cell (p := ⟨p, 0, none⟩) h.lp (fun e => h.ne e)).trans h.c0
  have hf : W'.frozen? ⟨p, 0, none⟩ = false := (hO.frozen (p := ⟨p, 0, none⟩) h.lp (fun e => h.ne e)).trans h.fp
  refine ⟨.slice (some ⟨g, 0, none⟩) t.length c, ⟨?_, by simpa using hf, by simpa using Nat.lt_of_lt_of_le h.lp hO.size, ?_, fun e => hpg (by injection e)⟩,
    (hO.mono (fun j _ e => .inr e)).setCell (p := ⟨p, 0, none⟩) (fun _ => .inl rfl) _, fun k hk e => ?_⟩
  · rw [cell_putR hc, if_pos rfl]
  · exact ((Only.refl (fun k => k = p) W').setCell (p := ⟨p, 0, none⟩) (fun _ => rfl) _).row ho (fun k e1 e2 => hpg (by injection e1 with e1; exact e1.trans e2))
  · rcases e with e | e
    · exact .inl e
    · have e2 : g = k := by injection e
      subst e2
      rcases hg with e | e
      · exact .inr e
      · omega
section
set_option maxRecDepth 100000 in
set_option maxHeartbeats 1000000 in
theorem qPPush_any {W : World} {p : Nat} {v : Value} {s : List Qit} (h : QuV W p v s) (hs : s.length ≤ 100000) (x : Qit) :
    Calls Try.prog 44 #[.pointer (some ⟨p, 0, none⟩), .iface 34 (.agg x.cells.toArray)] W fun e W' => e = .returned (.tuple #[]) ∧ PostQ W p v (s ++ [x]) W' := by
  have hcs : x.cells.length = 4 := rfl
  have hWd := (Only.refl (fun _ => False) W).drew.row h.own (fun _ _ e => e)
  obtain ⟨g, c, w', hr, ho, hO, hg⟩ := app_oneK (P := Try.prog) (ty := 26) qitK (by kernel_rfl) infoQ W.drew v s x hWd (by omega) (by omega) 34
  have hO1 : Only (fun k => v.ownBlock = some k) W w' := (Only.refl _ W).drew.trans hO (fun _ _ e => e)
  have hfin := Lib.hid (h.stored hO1 ho hg)
  have e1 : (s ++ [x]).length = s.length + 1 := by simp
  rw [e1] at hfin
  have c0 := h.c0
  have lp := h.lp
  have c0' : w'.cell? ⟨p, 0, none⟩ = some v := (hO1.cell (p := ⟨p, 0, none⟩) h.lp (fun e => h.ne e)).trans h.c0
  have f0' : w'.frozen? ⟨p, 0, none⟩ = false := (hO1.frozen (p := ⟨p, 0, none⟩) h.lp (fun e => h.ne e)).trans h.fp
  have lp' : p < w'.heap.size := Nat.lt_of_lt_of_le h.lp hO1.size
  have hbld := Lib.hid (fun w => run_build_one (P := Try.prog) (ty := 26) (by kernel_rfl) infoQ (by decide) (by decide) x.cells hcs w)
  have hu : Try.prog.underlying 26 = some (.slice 34) := by kernel_rfl
  replace hu := Lib.hid hu
  replace hr := Lib.hid hr
  have hcs' := Lib.hid hcs
  have hba : Below W.heap.size W (W.drew.alloc (.cells x.cells.toArray 34)) := (Below.refl _ _).drew.alloc (Nat.le_refl _) _
  have hSa := Lib.hid (And.intro ((hba.cell (p := ⟨p, 0, none⟩) lp).trans c0) (Nat.lt_of_lt_of_le lp hba.size))
  clear hba
  clear h hO hO1 ho hg hWd hcs e1
  generalize x.cells = X at *
  generalize s.length = n at *
  go_enter Try.func44, Try.ntmps44
  go_wp2_with fail
  refine wp_region_need (fun w' => w'.cell? ⟨p, 0, none⟩ = some v ∧ p < w'.heap.size) [0, 1, 2, 3, 4, 5] (by kernel_rfl) ?_
  refine need_takeL (i := 0) (v := ?cv68) rfl rfl (by kernel_rfl) (by kernel_rfl) (by kernel_rfl) (fun _ _ _ h => h) (Or.inl ⟨by rfl, ?ch68⟩) ⟨c0, lp⟩ ?cr68
  case ch68 => (intro w' hSw; (try dsimp only at hSw); go_simp; first | done | with_reducible rfl)
  try simp only [Act.put, List.setIfInBounds_toArray, List.set_cons_zero, List.set_cons_succ]
  refine need_takeL (i := 1) (v := ?cv71) rfl rfl (by kernel_rfl) (by kernel_rfl) (by kernel_rfl) (fun _ _ _ h => h) (Or.inl ⟨by rfl, ?ch71⟩) ⟨c0, lp⟩ ?cr71
  case ch71 => (intro w' hSw; (try dsimp only at hSw); go_simp; first | done | with_reducible rfl)
  try simp only [Act.put, List.setIfInBounds_toArray, List.set_cons_zero, List.set_cons_succ]
  refine need_takeL (i := 2) (v := ?cv74) rfl rfl (by kernel_rfl) (by kernel_rfl) (by kernel_rfl) (fun _ _ _ h => h) (Or.inl ⟨by rfl, ?ch74⟩) ⟨c0, lp⟩ ?cr74
  case ch74 => (intro w' hSw; (try dsimp only at hSw); go_simp; first | done | with_reducible rfl)
  try simp only [Act.put, List.setIfInBounds_toArray, List.set_cons_zero, List.set_cons_succ]
  refine need_takeL (i := 3) (v := ?cv77) rfl rfl (by kernel_rfl) (by kernel_rfl) (by kernel_rfl) (fun _ _ _ h => h) (Or.inl ⟨by rfl, ?ch77⟩) ⟨c0, lp⟩ ?cr77
  case ch77 => (intro w' hSw; (try dsimp only at hSw); go_simp; first | done | with_reducible rfl)
  try simp only [Act.put, List.setIfInBounds_toArray, List.set_cons_zero, List.set_cons_succ]
  refine need_takeL (i := 4) (v := ?cv80) rfl rfl (by kernel_rfl) (by kernel_rfl) (by kernel_rfl) (fun _ _ _ h => h) (Or.inl ⟨by rfl, ?ch80⟩) ⟨c0, lp⟩ ?cr80
  case ch80 => (intro w' hSw; (try dsimp only at hSw); go_simp; first | done | with_reducible rfl)
  try simp only [Act.put, List.setIfInBounds_toArray, List.set_cons_zero, List.set_cons_succ]
  refine need_takeL (i := 5) (v := ?cv83) rfl rfl (by kernel_rfl) (by kernel_rfl) (by kernel_rfl) (fun _ _ _ h => h) (Or.inl ⟨by rfl, ?ch83⟩) ⟨c0, lp⟩ ?cr83
  case ch83 => (intro w' hSw; (try dsimp only at hSw); go_simp; first | done | with_reducible rfl)
  try simp only [Act.put, List.setIfInBounds_toArray, List.set_cons_zero, List.set_cons_succ]
  refine need_turnL (i := 6) rfl (by kernel_rfl) (by rfl) (fun K' hK' => ?_)
  refine wp_build_one (K := 4) _ rfl hu.out infoQ (by decide) (by decide) X rfl hcs'.out ?_
  refine hK' _ _ (fun _ => hSa.out) ?_
  clear hK' K'
  try simp only [Act.put, List.setIfInBounds_toArray, List.set_cons_zero, List.set_cons_succ]
  refine need_turnL (i := 7) rfl (by kernel_rfl) (by rfl) (fun K' hK' => ?_)
  refine Lib.wp_append_run _ _ _ _ _ rfl _ _ rfl rfl _ _ hr.out ?_
  refine hK' _ _ (fun _ => ⟨c0', lp'⟩) ?_
  clear hK' K'
  try simp only [Act.put, List.setIfInBounds_toArray, List.set_cons_zero, List.set_cons_succ]
  refine need_turnL (i := 8) rfl (by kernel_rfl) (by rfl) (fun K' hK' => ?_)
  go_simp
  refine hK' _ _ (fun _ => ⟨c0', lp'⟩) ?_
  clear hK' K'
  try simp only [Act.put, List.setIfInBounds_toArray, List.set_cons_zero, List.set_cons_succ]
  refine need_turnL (i := 9) rfl (by kernel_rfl) (by rfl) (fun K' hK' => ?_)
  go_simp
  refine hK' _ _ (spared (by kernel_rfl)) ?_
  clear hK' K'
  try simp only [Act.put]
  refine need_done (by kernel_rfl) ?_ _
  clear c0 lp c0' f0' lp' hr hbld hu hcs'
  generalize w'.setCell ⟨p, 0, none⟩ (.slice (some ⟨g, 0, none⟩) (n + 1) c) = W4 at *
  go_wp2
  go_end0
  exact ⟨rfl, hfin.out⟩
set_option maxRecDepth 100000 in
set_option maxHeartbeats 1000000 in
theorem qPPop_any {W : World} {p : Nat} {v : Value} {s : List Qit} (x : Qit) (h : QuV W p v (s ++ [x])) (hs : s.length ≤ 100000) :
    Calls Try.prog 43 #[.pointer (some ⟨p, 0, none⟩)] W fun e W' => e = .returned (.iface 34 (.agg x.cells.toArray)) ∧ PostQ W p v s W' := by
  have hl : (s ++ [x]).length = s.length + 1 := by simp
  rcases h.slice with ⟨-, e⟩ | ⟨g, c, rfl, hgl, hnc, hgp⟩
  · simp at e
  have hix := Lib.hid (fun w => run_idx_qit g (s ++ [x]).length c s.length (by omega) w)
  have hrg := rowK_range qitK h.own s.length (by omega)
  have ex : (s ++ [x])[s.length]'(by omega) = x := by simp
  rw [ex] at hrg
  have hup := Lib.hid (run_upto_K (P := Try.prog) (ty := 26) (e := 34) (by kernel_rfl) (K := 4) (by kernel_rfl) g (s ++ [x]).length c s.length (by omega) hnc)
  have hcut := rowK_cut qitK h.own s.length (by omega)
  rw [List.take_left] at hcut
  obtain ⟨W1, hW1⟩ : ∃ W1, W1 = W.alloc (.cells x.cells.toArray 34) := ⟨_, rfl⟩
  have hb : Below W.heap.size W W1 := by rw [hW1]; exact (Below.refl _ _).alloc (Nat.le_refl _) _
  have hO := Only.of_below (F := fun k => (Value.slice (some ⟨g, 0, none⟩) (s ++ [x]).length c).ownBlock = some k) hb
  have hcut1 := (Only.of_below (F := fun _ => False) hb).row hcut (fun _ _ e => e)
  have hfin := Lib.hid (h.stored hO hcut1 (.inl rfl))
  have hbx : BoxAt W1 W.heap.size x.cells := by rw [hW1]; exact BoxAt.new W _ _
  have hrx := Lib.hid hbx.range
  have c0 := h.c0
  have lp := h.lp
  have c1 : W1.cell? ⟨p, 0, none⟩ = some (.slice (some ⟨g, 0, none⟩) (s ++ [x]).length c) := (hb.cell (p := ⟨p, 0, none⟩) h.lp).trans h.c0
  have f1 : W1.frozen? ⟨p, 0, none⟩ = false := (hb.frozen (p := ⟨p, 0, none⟩) h.lp).trans h.fp
  have l1 : p < W1.heap.size := Nat.lt_of_lt_of_le h.lp hb.size
  have hpW : p ≠ W.heap.size := by omega
  have hbx2 : (W1.setCell ⟨p, 0, none⟩ (.slice (some ⟨g, 0, none⟩) s.length c)).rangeAt W.heap.size 0 x.cells := fun j u hj => by
    rw [World.cell?_setCell_other _ _ _ _ (by intro e; injection e with e _ _; exact hpW e)]
    exact hbx.range j u hj
  have hi := Lib.hid (show (Try.prog.info? 34).map (·.size) = some x.cells.length by kernel_rfl)
  have hi2 := Lib.hid (show (Try.prog.info? 34).map (·.size) = some x.cells.toArray.size by kernel_rfl)
  have hone := Lib.hid (all_oneCell_toArray (qitK.one x))
  have hxl : x.cells.length = 4 := rfl
  have hcz : ∀ z : Array Value, z.size = 4 → z.size = x.cells.toArray.size := fun z h => h
  replace hcz := Lib.hid hcz
  replace hbx2 := Lib.hid hbx2
  replace hrg := Lib.hid hrg
  replace hW1 := Lib.hid hW1
  clear hb hO hcut hcut1 h hbx hgl hgp ex
  rw [hl] at *
  generalize x.cells = X at *
  generalize s.length = n at *
  clear hl
  have ew : ((n + 1 : Nat) : Int) - 1 = (n : Int) := by omega
  go_enter Try.func43, Try.ntmps43
  go_upto_region 2 with (fail)
  go_upto_region 3 with (first
    | (refine wpList_index_run rfl _ _ _ rfl (.slice (some ⟨g, 0, none⟩) (n + 1) c) (.int .i64 (n : Int)) _ rfl rfl (hix.out _) ?_)
    | (refine wpList_load_midg rfl _ _ rfl g (n * 4) rfl X _ hrg.out Try.underlying34 rfl hi.out ?_)
    | (refine wpList_store_new rfl _ _ _ rfl W _ X.toArray rfl rfl rfl hi2.out (hcz.out _ rfl) hone.out ?_; rw [← hW1.out]))
  go_upto_region 4 with (refine wpList_slice_run rfl 26 (.tmp 19) none (some (.tmp 20)) none rfl (.slice (some ⟨g, 0, none⟩) (n + 1) c) none (some (.int .i64 (n : Int))) none (.slice (some ⟨g, 0, none⟩) n c) rfl rfl rfl rfl (hup.out _) ?_)
  go_wp2_with (refine wpList_load_midg rfl _ _ rfl W.heap.size 0 rfl X _ hbx2.out Try.underlying34 rfl hi.out ?_)
  go_ret
  exact ⟨rfl, hfin.out⟩
end
end Go.Proofs.Ytgdlcfkgdaaooaa
