/- Stage 13, landed: Pop; those of a nil queue; the landed queue keeps all that the walks ask of it. No condition but sizes. -/
import Derived.Test.YtgdlcfkgdaaooaaPqm
namespace Go.Proofs.Ytgdlcfkgdaaooaa
open Go.RowKit Wm

section
set_option maxRecDepth 100000 in
set_option maxHeartbeats 2000000 in
theorem quPop_any (F : Nat → Prop) (W : World) (p : Nat) (m : List Qit) (now : Int) (h : QuKind F W p m) :
    Calls Try.prog 12 #[.pointer (some ⟨p, 0, none⟩), .int .i64 now] W fun e W' => e = .returned (popV (popR m now)) ∧ PostO QuKind F p (popQ m now) W W' := by
  obtain ⟨v, t, hV, hp, hH, ho, hl, hF⟩ := h
  have htl : t.length = m.length := hp.length_eq
  obtain ⟨W0, hW0⟩ : ∃ W0, W0 = W.alloc (.cells zeroQ.cells.toArray 34) := ⟨_, rfl⟩
  have hb0 : Below W.heap.size W W0 := by rw [hW0]; exact (Below.refl _ _).alloc (Nat.le_refl _) _
  have lB : W.heap.size < W0.heap.size := by rw [hW0]; simp
  have th0 : W0.there W.heap.size 0 4 := by rw [hW0]; exact there_new W zeroQ.cells _
  have hfi := Lib.hid (quFirst_any (hV.later hb0))
  have hbest : (if t = [] then none else some (atQ t 0)) = bestQ m := by
    split
    · rename_i e; subst e; rw [List.nil_perm.1 hp]; rfl
    · rename_i e; exact (hH.best hp ho e).symm
  have hW0' := Lib.hid (hW0.trans (zeroQ_alloc W))
  clear hW0
  have hone0 := Lib.hid (all_oneCell_toArray (qitK.one zeroQ))
  have hi0 := Lib.hid (show (Try.prog.info? 34).map (·.size) = some zeroQ.cells.toArray.size by kernel_rfl)
  have hix := Lib.hid (fun X : List Value => fun (e : X.length = 4) => (show (Try.prog.info? 34).map (·.size) = some X.length by rw [e]; kernel_rfl))
  -- a way on which nothing is taken
  have hkeep := Lib.hid (fun (W2 : World) (hO : Only (fun _ => False) W W2) (th : W2.there W.heap.size 0 4) => (show
      (loadVar 34 ⟨W.heap.size, 0, none⟩).run Try.prog (W2.setCells W.heap.size 0 zeroQ.cells) = .ok (.agg zeroQ.cells.toArray) (W2.setCells W.heap.size 0 zeroQ.cells) ∧ PostO QuKind F p m W (W2.setCells W.heap.size 0 zeroQ.cells) from by
    refine ⟨run_loadVar_mid (P := Try.prog) _ W.heap.size 0 34 zeroQ.cells _ (World.rangeAt_setCells_same _ _ _ _ th) Try.underlying34 rfl (by kernel_rfl), ?_⟩
    have hO3 : Only (fun _ => False) W (W2.setCells W.heap.size 0 zeroQ.cells) := only_setCells W.heap.size (fun e => absurd e (Nat.lt_irrefl _)) _ _ hO
    exact PostQ.post ⟨v, hV.keep hO3 (fun _ _ e => e), hO3.mono (fun _ _ e => e.elim), fun _ _ e => e⟩ hp hH ho hl hF))
  by_cases ht : t = []
  · have hm : m = [] := by subst ht; exact List.nil_perm.1 hp
    have hr : popR m now = none := by rw [hm]; rfl
    have hq : popQ m now = m := by unfold popQ; rw [hr]
    rw [hr, hq]
    rw [if_pos ht] at hfi
    clear hbest hr hq hm ht htl hH ho hl hF hp hV
    go_enter Try.func12, Try.ntmps12
    go_upto_region 1 with (fail)
    rw [← hW0'.out]
    go_wp2_with fail
    refine hfi.out.mono ?_
    rintro e w1 ⟨rfl, hb1⟩
    obtain ⟨W2, hW2⟩ : ∃ W2, W2 = w1.alloc (.cells zeroQ.cells.toArray 34) := ⟨_, rfl⟩
    have hb2 : Below w1.heap.size w1 W2 := by rw [hW2]; exact (Below.refl _ _).alloc (Nat.le_refl _) _
    have hb12 := hb1.trans (hb2.mono hb1.size)
    have th2 := Lib.hid (show W2.there W.heap.size 0 zeroQ.cells.toArray.size from there_later th0 hb12 lB)
    have hk := Lib.hid (hkeep.out W2 (Only.of_below (hb0.trans (hb12.mono hb0.size))) th2.out)
    have hW2' := Lib.hid (hW2.trans (zeroQ_alloc w1))
    replace hW2 := Lib.hid hW2
    clear hkeep hb1 hb2 hb12 hfi th0 hb0 lB
    unfold popV itemV at *
    dsimp only [Option.getD_none, Option.isSome_none]
    go_wp2_with (first
      | (refine wpList_store_new rfl 34 (.tmp 6) (.tmp 11) rfl w1 _ zeroQ.cells.toArray rfl rfl rfl hi0.out rfl hone0.out ?_; rw [← hW2.out])
      | (refine wpList_store_mid rfl 34 (.tmp 4) (.tmp 21) rfl W.heap.size 0 zeroQ.cells.toArray rfl rfl th2.out hi0.out hone0.out ?_))
    exact bodyPost_ret (results_cell_tmp Try.results12 rfl rfl hk.out.1) rfl ⟨rfl, hk.out.2⟩
  · have hbm : bestQ m = some (atQ t 0) := by rw [← hbest, if_neg ht]
    rw [if_neg ht] at hfi
    have hxw : (atQ t 0).cells.length = 4 := rfl
    have hc1 : (atQ t 0).cells[0]? = some (.int .i64 (atQ t 0).Due) := rfl
    have hone := Lib.hid (all_oneCell_toArray (qitK.one (atQ t 0)))
    have hi := Lib.hid (show (Try.prog.info? 34).map (·.size) = some (atQ t 0).cells.toArray.size by kernel_rfl)
    have hi4 := Lib.hid (show (Try.prog.info? 34).map (·.size) = some (atQ t 0).cells.length by kernel_rfl)
    have hcz : ∀ z : Array Value, z.size = 4 → z.size = (atQ t 0).cells.toArray.size := fun z h => h
    replace hcz := Lib.hid hcz
    by_cases hd : (atQ t 0).Due ≤ now
    · have hr : popR m now = some (atQ t 0) := by unfold popR; rw [hbm]; show (if (atQ t 0).Due ≤ now then some (atQ t 0) else none) = _; rw [if_pos hd]
      have hq : popQ m now = dropQ m (atQ t 0).Stamp := by unfold popQ; rw [hr]
      have hpo := Lib.hid (fun (W2 : World) (hb : Below W.heap.size W W2) => qHPop_any (hV.later hb) (by omega) ht hH)
      have hend := Lib.hid (fun (W2 W3 : World) (B2 : Nat) (hb : Below W.heap.size W W2) (th : W2.there W.heap.size 0 (atQ t 0).cells.toArray.size) (rg : W2.rangeAt B2 0 (atQ t 0).cells) (l2 : W.heap.size < W2.heap.size) (hB2 : W.heap.size ≤ B2) (hlt2 : B2 < W2.heap.size) (h : TookPost W2 p v t (atQ t 0) W3) => (show
          (W3.there W.heap.size 0 (atQ t 0).cells.toArray.size ∧ W3.rangeAt B2 0 (atQ t 0).cells) ∧
          (loadVar 34 ⟨W.heap.size, 0, none⟩).run Try.prog (W3.setCells W.heap.size 0 (atQ t 0).cells) = .ok (.agg (atQ t 0).cells.toArray) (W3.setCells W.heap.size 0 (atQ t 0).cells) ∧ PostO QuKind F p (dropQ m (atQ t 0).Stamp) W (W3.setCells W.heap.size 0 (atQ t 0).cells) from by
        obtain ⟨t', h1, h2, v', h3, h4, h5⟩ := h
        have hnf : ∀ B, W.heap.size ≤ B → ¬ footQ p v B := fun B hB e => by have := hV.near _ e; omega
        have th3 := there_only th h4 (hnf _ (Nat.le_refl _)) l2
        refine ⟨⟨th3, range_only rg h4 (hnf _ hB2) hlt2⟩, run_loadVar_mid (P := Try.prog) _ W.heap.size 0 34 (atQ t 0).cells _ (World.rangeAt_setCells_same _ _ _ _ th3) Try.underlying34 rfl (by kernel_rfl), ?_⟩
        have h6 := took_drop ho (h1.trans hp)
        have hnv : ∀ k, footQ p v' k → ¬ k = W.heap.size := fun k e e2 => by
          subst e2
          exact hnf _ (Nat.le_refl _) (h5 _ l2 e)
        have hOn : Only (fun k => k = W.heap.size) W3 (W3.setCells W.heap.size 0 (atQ t 0).cells) := only_setCells (F := fun k => k = W.heap.size) W.heap.size (fun _ => rfl) _ _ (Only.refl _ _)
        refine PostQ.post ⟨v', h3.keep hOn hnv, ((Only.of_below (F := footQ p v) hb).trans h4 (fun _ _ e => e)).trans hOn (fun j hj e => by omega), fun k hk e => h5 k (Nat.lt_of_lt_of_le hk hb.size) e⟩ h6 h2 (ho.drop _) (Nat.le_trans (dropQ_sub m _).length_le hl) hF))
      rw [hr, hq]
      have hdb : decide (now < (atQ t 0).Due) = false := decide_eq_false (by omega)
      clear hbest hbm hr hq hd ht hH ho hl hF hp hV hkeep htl hi0 hone0
      generalize dropQ m (atQ t 0).Stamp = m2 at *
      generalize (atQ t 0).Due = due at *
      unfold popV itemV at *
      dsimp only [Option.getD_some, Option.isSome_some] at *
      generalize (atQ t 0).cells = X at *
      go_enter Try.func12, Try.ntmps12
      go_upto_region 1 with (fail)
      rw [← hW0'.out]
      go_wp2_with fail
      refine hfi.out.mono ?_
      rintro e w1 ⟨rfl, hb1⟩
      obtain ⟨W2, hW2⟩ : ∃ W2, W2 = w1.alloc (.cells X.toArray 34) := ⟨_, rfl⟩
      have hb2 : Below w1.heap.size w1 W2 := by rw [hW2]; exact (Below.refl _ _).alloc (Nat.le_refl _) _
      have hb12 := hb1.trans (hb2.mono hb1.size)
      have th2 := Lib.hid (show W2.there W.heap.size 0 X.toArray.size from (show X.toArray.size = 4 from hxw) ▸ there_later th0 hb12 lB)
      have hbx2 : BoxAt W2 w1.heap.size X := by rw [hW2]; exact BoxAt.new w1 X _
      have hdue := hbx2.spot 0 _ hc1
      have hbW := hb0.trans (hb12.mono hb0.size)
      have l2 := Nat.lt_of_lt_of_le lB hb12.size
      have l1 : W.heap.size ≤ w1.heap.size := Nat.le_trans (Nat.le_of_lt lB) hb1.size
      have hpo1 := Lib.hid (hpo.out W2 hbW)
      have hend1 := Lib.hid (fun W3 h => hend.out W2 W3 w1.heap.size hbW th2.out hbx2.range l2 l1 hbx2.lt h)
      replace hW2 := Lib.hid hW2
      have lx := hbx2.lt
      clear hpo hend hbW hbx2 hb1 hb2 hb12 hfi th0 hb0 lB hxw hc1
      go_upto_region 4 with (refine wpList_store_new rfl 34 (.tmp 6) (.tmp 11) rfl w1 _ X.toArray rfl rfl rfl hi.out (hcz.out _ rfl) hone.out ?_; rw [← hW2.out])
      clear th2 hdue lx
      go_wp2_with fail
      refine hpo1.out.mono ?_
      rintro e w3 ⟨rfl, hto⟩
      obtain ⟨⟨th3, rg3⟩, hres, hfin⟩ := hend1.out w3 hto
      replace th3 := Lib.hid th3
      replace rg3 := Lib.hid rg3
      replace hres := Lib.hid hres
      replace hfin := Lib.hid hfin
      clear hend1 hto hpo1
      go_wp2_with (first
        | (refine wpList_load_midg rfl 34 (.tmp 6) rfl w1.heap.size 0 rfl X _ rg3.out Try.underlying34 rfl hi4.out ?_)
        | (refine wpList_store_mid rfl 34 (.tmp 4) (.tmp 27) rfl W.heap.size 0 X.toArray rfl rfl th3.out hi.out hone.out ?_))
      exact bodyPost_ret (results_cell_tmp Try.results12 rfl rfl hres.out) rfl ⟨rfl, hfin.out⟩
    · have hr : popR m now = none := by unfold popR; rw [hbm]; show (if (atQ t 0).Due ≤ now then some (atQ t 0) else none) = _; rw [if_neg hd]
      have hq : popQ m now = m := by unfold popQ; rw [hr]
      rw [hr, hq]
      have hdb : decide (now < (atQ t 0).Due) = true := decide_eq_true (by omega)
      clear hbest hbm hr hq hd ht hH ho hl hF hp hV htl
      generalize (atQ t 0).Due = due at *
      unfold popV itemV at *
      dsimp only [Option.getD_some, Option.isSome_some, Option.getD_none, Option.isSome_none] at *
      generalize (atQ t 0).cells = X at *
      go_enter Try.func12, Try.ntmps12
      go_upto_region 1 with (fail)
      rw [← hW0'.out]
      go_wp2_with fail
      refine hfi.out.mono ?_
      rintro e w1 ⟨rfl, hb1⟩
      obtain ⟨W2, hW2⟩ : ∃ W2, W2 = w1.alloc (.cells X.toArray 34) := ⟨_, rfl⟩
      have hb2 : Below w1.heap.size w1 W2 := by rw [hW2]; exact (Below.refl _ _).alloc (Nat.le_refl _) _
      have hb12 := hb1.trans (hb2.mono hb1.size)
      have th2 := Lib.hid (show W2.there W.heap.size 0 zeroQ.cells.toArray.size from there_later th0 hb12 lB)
      have hk := Lib.hid (hkeep.out W2 (Only.of_below (hb0.trans (hb12.mono hb0.size))) th2.out)
      have hbx2 : BoxAt W2 w1.heap.size X := by rw [hW2]; exact BoxAt.new w1 X _
      have hdue := hbx2.spot 0 _ hc1
      have lx := hbx2.lt
      replace hW2 := Lib.hid hW2
      clear hkeep hb1 hb2 hb12 hfi th0 hb0 lB hbx2 hxw hc1
      go_wp2_with (first
        | (refine wpList_store_new rfl 34 (.tmp 6) (.tmp 11) rfl w1 _ X.toArray rfl rfl rfl hi.out (hcz.out _ rfl) hone.out ?_; rw [← hW2.out])
        | (refine wpList_store_mid rfl 34 (.tmp 4) (.tmp 21) rfl W.heap.size 0 zeroQ.cells.toArray rfl rfl th2.out hi0.out hone0.out ?_))
      exact bodyPost_ret (results_cell_tmp Try.results12 rfl rfl hk.out.1) rfl ⟨rfl, hk.out.2⟩
end
theorem landedQu : LandedQu QuKind where
  toIsKind := quKind_kind
  once := fun _ _ _ _ h => by obtain ⟨_, _, _, _, _, ho, _⟩ := h; exact ho
  new := fun W => by
    refine ⟨.slice none 0 0, [], ⟨by simp [go_sem], by simp [go_sem], by simp, ⟨rfl, .inl ⟨rfl, rfl⟩⟩, (fun e => by cases e)⟩, List.Perm.refl _, (fun k _ h => by simp at h), List.nodup_nil, by simp, fun k => ?_⟩
    unfold footQ
    constructor
    · exact fun e => .inl e
    · rintro (e | e)
      · exact e
      · cases e
  put := fun F W p m x h hlen _ hx => quPut_any F W p m x h hlen hx
  drop := fun F W p m s h _ _ => quDrop_any F W p m s h
  pop := fun F W p m now h _ _ => quPop_any F W p m now h
  len := fun F W p m h => by
    obtain ⟨v, t, hV, hp, _⟩ := h
    rw [← hp.length_eq]
    exact (quLen_any hV).mono (fun _ _ e => ⟨e.1, by rw [← e.2]; exact Below.refl _ _⟩)
  first := fun F W p m h => by
    obtain ⟨v, t, hV, hp, hH, ho, _⟩ := h
    have hbest : (if t = [] then none else some (atQ t 0)) = bestQ m := by
      split
      · rename_i e; subst e; rw [List.nil_perm.1 hp]; rfl
      · rename_i e; exact (hH.best hp ho e).symm
    rw [← hbest]
    exact quFirst_any hV
end Go.Proofs.Ytgdlcfkgdaaooaa
