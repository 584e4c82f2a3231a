/- Stage 13, landed: Drop, Len, First, Pop, those of a nil queue; the landed queue keeps all that the walks ask of it. No condition but sizes. -/
import Derived.Test.YtgdlcfkgdaaooaaPql
import Derived.Test.YtgdlcfkgdaaooaaRes
namespace Go.Proofs.Ytgdlcfkgdaaooaa
open Go.RowKit Wm

theorem posQ_lt {t : List Qit} {s : Int} : posQ t s < t.length ↔ hasQ t s = true := by
  unfold posQ hasQ
  rw [List.findIdx_lt_length, List.any_eq_true]
theorem hasQ_perm {t m : List Qit} (p : t.Perm m) (s : Int) : hasQ t s = hasQ m s := by
  rw [Bool.eq_iff_iff, hasQ_iff, hasQ_iff]
  exact (p.map _).mem_iff
theorem posQ_stamp {t : List Qit} {s : Int} (h : posQ t s < t.length) : (atQ t (posQ t s)).Stamp = s := by
  rw [atQ_get h]
  have := List.findIdx_getElem (w := h)
  exact beq_iff_eq.1 this
theorem HeapF.best {t m : List Qit} (hH : HeapF (atQ t) t.length) (hp : t.Perm m) (ho : OnceQ m) (h0 : t ≠ []) : bestQ m = some (atQ t 0) := by
  have hl : 0 < t.length := List.length_pos_iff.2 h0
  refine bestQ_is ho (hp.subset (by rw [atQ_get hl]; exact List.getElem_mem hl)) (fun y hy => ?_)
  obtain ⟨i, hi, rfl⟩ := List.mem_iff_getElem.1 (hp.symm.subset hy)
  have := hH.least i hi
  rw [atQ_get hi] at this
  exact this
section
set_option maxRecDepth 100000 in
set_option maxHeartbeats 1000000 in
theorem quDrop_any (F : Nat → Prop) (W : World) (p : Nat) (m : List Qit) (s : Int) (h : QuKind F W p m) :
    Calls Try.prog 10 #[.pointer (some ⟨p, 0, none⟩), .int .i64 s] W fun e W' => e = .returned (.bool (hasQ m s)) ∧ PostO QuKind F p (dropQ m s) W W' := by
  obtain ⟨v, t, hV, hp, hH, ho, hl, hF⟩ := h
  have htl : t.length = m.length := hp.length_eq
  obtain ⟨W0, hW0⟩ : ∃ W0, W0 = W.alloc (.cells #[.int .i64 s] 3) := ⟨_, rfl⟩
  have hb0 : Below W.heap.size W W0 := by rw [hW0]; exact (Below.refl _ _).alloc (Nat.le_refl _) _
  have hB : W0.cell? ⟨W.heap.size, 0, none⟩ = some (.int .i64 s) := by rw [hW0]; simp [go_sem]
  have lB : W.heap.size < W0.heap.size := by rw [hW0]; simp
  have hix := Lib.hid (quIndex_any (hV.later hb0) (by omega) s W.heap.size hB lB)
  have c0 := (hV.later hb0).c0
  have lp := (hV.later hb0).lp
  rw [← hasQ_perm hp s]
  by_cases hh : hasQ t s = true
  · have hlt := posQ_lt.2 hh
    have hst := posQ_stamp hlt
    have hid : idxQ t s = ((posQ t s : Nat) : Int) := by unfold idxQ; rw [if_pos hlt]
    rw [hid] at hix
    have hrm := Lib.hid (fun W1 (hb : Below W.heap.size W W1) => qHRemove_any (hV.later hb) (by omega) (posQ t s) hlt hH)
    have hend := Lib.hid (fun W1 W2 (hb : Below W.heap.size W W1) (h : TookPost W1 p v t (atQ t (posQ t s)) W2) => (show PostO QuKind F p (dropQ m s) W W2 from by
      obtain ⟨t', h1, h2, v', h3, h4, h5⟩ := h
      have h6 := took_drop ho (h1.trans hp)
      rw [hst] at h6
      exact PostQ.post ⟨v', h3, (Only.of_below hb).trans h4 (fun _ _ e => e), fun k hk e => h5 k (Nat.lt_of_lt_of_le hk hb.size) e⟩ h6 h2 (ho.drop s) (Nat.le_trans (dropQ_sub m s).length_le hl) hF))
    rw [hh]
    clear hV hp hH ho hl hF htl hst hid hB lB
    generalize posQ t s = i at *
    generalize atQ t i = y at *
    generalize t.length = n at *
    go_enter Try.func10, Try.ntmps10
    go_upto_region 1 with (fail)
    rw [← hW0]
    clear hW0
    go_wp2_with fail
    refine hix.out.mono ?_
    rintro e w2 ⟨rfl, hb2⟩
    have hb3 := hb0.trans (hb2.mono hb0.size)
    have hr := Lib.hid (hrm.out w2 hb3)
    clear hb0 hb2 hix hrm c0 lp
    go_wp2_with fail
    refine hr.out.mono ?_
    rintro e w4 ⟨rfl, hpo⟩
    have hfin := Lib.hid (hend.out _ _ hb3 hpo)
    clear hend hpo hr hb3
    go_wp2
    go_ret
    exact ⟨rfl, hfin.out⟩
  · have hhf : hasQ t s = false := Bool.eq_false_iff.2 hh
    have hlt : ¬ posQ t s < t.length := fun e => hh (posQ_lt.1 e)
    have hid : idxQ t s = -1 := by unfold idxQ; rw [if_neg hlt]
    rw [hid] at hix
    have hdm : dropQ m s = m := dropQ_not (hasQ_not (by rw [← hasQ_perm hp s]; exact hhf))
    have hend := Lib.hid (fun W1 (hb : Below W.heap.size W W1) => (show PostO QuKind F p (dropQ m s) W W1 from by
      rw [hdm]
      exact PostQ.post ⟨v, hV.later hb, Only.of_below hb, fun _ _ e => e⟩ hp hH ho hl hF))
    rw [hhf]
    clear hV hp hH ho hl hF htl hid hB lB hdm hlt hh hhf
    go_enter Try.func10, Try.ntmps10
    go_upto_region 1 with (fail)
    rw [← hW0]
    clear hW0
    go_wp2_with fail
    refine hix.out.mono ?_
    rintro e w2 ⟨rfl, hb2⟩
    have hfin := Lib.hid (hend.out _ (hb0.trans (hb2.mono hb0.size)))
    clear hend hb0 hb2 hix c0 lp
    go_wp2
    go_ret
    exact ⟨rfl, hfin.out⟩
set_option maxRecDepth 100000 in
theorem quLen_any {W : World} {p : Nat} {v : Value} {t : List Qit} (h : QuV W p v t) :
    Calls Try.prog 15 #[.pointer (some ⟨p, 0, none⟩)] W fun e W' => e = .returned (.int .i64 ((t.length : Nat) : Int)) ∧ W = W' := by
  have c0 := h.c0
  have lp := h.lp
  rcases h.slice with ⟨rfl, rfl⟩ | ⟨g, c, rfl, -⟩
  · clear h
    go_enter Try.func15, Try.ntmps15
    go_wp2
    go_ret
    exact ⟨rfl, rfl⟩
  · clear h
    go_enter Try.func15, Try.ntmps15
    go_wp2
    go_ret
    exact ⟨rfl, rfl⟩
theorem zeroQ_alloc (W : World) : W.alloc (.cells zeroQ.cells.toArray 34) = W.alloc (.cells #[.int .i64 0, .int .i64 0, .int .u64 0, .int .u64 0] 34) := rfl
set_option maxRecDepth 100000 in
set_option maxHeartbeats 1000000 in
theorem quFirst_any {W : World} {p : Nat} {v : Value} {t : List Qit} (h : QuV W p v t) :
    Calls Try.prog 14 #[.pointer (some ⟨p, 0, none⟩)] W fun e W' => e = .returned (popV (if t = [] then none else some (atQ t 0))) ∧ Below W.heap.size W W' := by
  obtain ⟨W0, hW0⟩ : ∃ W0, W0 = W.alloc (.cells zeroQ.cells.toArray 34) := ⟨_, rfl⟩
  have hb0 : Below W.heap.size W W0 := by rw [hW0]; exact (Below.refl _ _).alloc (Nat.le_refl _) _
  have hV0 := h.later hb0
  have hlen := Lib.hid (quLen_any hV0)
  have hW0' := Lib.hid (hW0.trans (zeroQ_alloc W))
  clear hW0
  by_cases ht : t = []
  · subst ht
    rw [if_pos rfl]
    have hbx : BoxAt W0 W.heap.size zeroQ.cells := by rw [hW0'.out]; exact BoxAt.new W zeroQ.cells _
    have hres := Lib.hid (run_loadVar_mid (P := Try.prog) W0 W.heap.size 0 34 zeroQ.cells _ hbx.range Try.underlying34 rfl (by kernel_rfl))
    clear h hV0 hbx
    have hone := Lib.hid (all_oneCell_toArray (qitK.one zeroQ))
    have hi := Lib.hid (show (Try.prog.info? 34).map (·.size) = some zeroQ.cells.toArray.size by kernel_rfl)
    go_enter Try.func14, Try.ntmps14
    go_upto_region 1 with (fail)
    rw [← hW0'.out]
    go_wp2_with fail
    refine hlen.out.mono ?_
    rintro e w2 ⟨rfl, rfl⟩
    go_wp2_with (refine wpList_store_new rfl 34 (.tmp 2) (.tmp 7) rfl W _ zeroQ.cells.toArray hW0'.out rfl rfl hi.out rfl hone.out ?_; rw [zeroQ_alloc, ← hW0'.out])
    exact bodyPost_ret (results_cell_tmp Try.results14 rfl rfl hres.out) rfl ⟨rfl, hb0⟩
  · rw [if_neg ht]
    have hl : 0 < t.length := List.length_pos_iff.2 ht
    rw [atQ_get hl]
    rcases hV0.slice with ⟨-, e⟩ | ⟨g, c, rfl, -⟩
    · exact absurd e ht
    have hrg := Lib.hid (rowK_range qitK hV0.own 0 hl)
    have hix := Lib.hid (fun w => run_idx_qit g t.length c 0 hl w)
    have c0 := hV0.c0
    have lp := hV0.lp
    have hb1 := Lib.hid (show Below W.heap.size W (W.alloc (.cells (t[0]).cells.toArray 34)) from (Below.refl _ _).alloc (Nat.le_refl _) _)
    have hres := Lib.hid (run_loadVar_mid (P := Try.prog) _ W.heap.size 0 34 (t[0]).cells _ (BoxAt.new W (t[0]).cells 34).range Try.underlying34 rfl (by kernel_rfl))
    have hone := Lib.hid (all_oneCell_toArray (qitK.one t[0]))
    have hi := Lib.hid (show (Try.prog.info? 34).map (·.size) = some (t[0]).cells.toArray.size by kernel_rfl)
    have hi4 := Lib.hid (show (Try.prog.info? 34).map (·.size) = some (t[0]).cells.length by kernel_rfl)
    have hcz : ∀ z : Array Value, z.size = 4 → z.size = (t[0]).cells.toArray.size := fun z h => h
    have hlI : ((t.length : Nat) : Int) ≠ 0 := by omega
    have hlb : ((t.length : Int) == 0) = false := beq_eq_false_iff_ne.2 hlI
    replace hcz := Lib.hid hcz
    unfold popV itemV
    dsimp only [Option.getD_some, Option.isSome_some]
    clear h hV0 ht hlI
    generalize (t[0]).cells = X at *
    generalize t.length = n at *
    go_enter Try.func14, Try.ntmps14
    go_upto_region 1 with (fail)
    rw [← hW0'.out]
    go_wp2_with fail
    refine hlen.out.mono ?_
    rintro e w2 ⟨rfl, rfl⟩
    go_wp2_with (first
      | (refine wpList_index_run rfl 26 (.tmp 11) (.const (.int .i64 0)) rfl (.slice (some ⟨g, 0, none⟩) n c) (.int .i64 ((0 : Nat) : Int)) _ rfl rfl (hix.out _) ?_)
      | (refine wpList_load_midg rfl 34 (.tmp 12) rfl g (0 * 4) rfl X _ hrg.out Try.underlying34 rfl hi4.out ?_)
      | (refine wpList_store_new rfl 34 (.tmp 2) (.tmp 13) rfl W _ X.toArray hW0'.out rfl rfl hi.out (hcz.out _ rfl) hone.out ?_))
    exact bodyPost_ret (results_cell_tmp Try.results14 rfl rfl hres.out) rfl ⟨rfl, hb1.out⟩
end
end Go.Proofs.Ytgdlcfkgdaaooaa
