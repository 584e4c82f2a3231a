/- Stage 12, landed: a stamp put, and dropped. No condition but sizes. -/
import Derived.Test.YtgpjbacggcfcmaaLof
namespace Go.Proofs.Ytgpjbacggcfcmaa
open Go.RowKit Wm

theorem rowP_set : ∀ (l : Zbl) (i : Nat) (x : Int × Int), ((rowP l).set (i * 2) (.int .i64 x.1)).set (i * 2 + 1) (.int .i64 x.2) = rowP (l.set i x)
  | [], i, x => by simp [rowP]
  | y :: r, 0, x => by
    show (((cellsP y ++ rowP r).set 0 _).set 1 _) = cellsP x ++ rowP r
    rfl
  | y :: r, i + 1, x => by
    show (((cellsP y ++ rowP r).set ((i + 1) * 2) _).set ((i + 1) * 2 + 1) _) = cellsP y ++ rowP (r.set i x)
    rw [← rowP_set r i x, show (i + 1) * 2 = i * 2 + 1 + 1 from by omega]
    rfl
theorem row_setPair {W : World} {g c : Nat} {l : Zbl} (h : W.ownsRow 0 44 2 (.slice (some ⟨g, 0, none⟩) l.length c) l.length (rowP l)) (i : Nat) (x : Int × Int) :
    (W.setCells g (i * 2) (cellsP x)).ownsRow 0 44 2 (.slice (some ⟨g, 0, none⟩) (l.set i x).length c) (l.set i x).length (rowP (l.set i x)) := by
  rw [List.length_set, ← rowP_set]
  exact ((h.stored (i * 2) _).1.stored (i * 2 + 1) _).1
theorem row_there {W : World} {g c : Nat} {l : Zbl} (h : W.ownsRow 0 44 2 (.slice (some ⟨g, 0, none⟩) l.length c) l.length (rowP l)) (i : Nat) (hi : i < l.length) : W.there g (i * 2) 2 := fun j hj => by
  rcases own_slice h with ⟨e, -⟩ | ⟨g', c', e, -, -, hc, hf⟩
  · cases e
  · have e2 : g = g' := by injection e with e1 _ _; injection e1 with e1; injection e1
    subst e2
    refine ⟨?_, hf _⟩
    have hx : (rowP l)[i * 2 + j]? = (cellsP l[i])[j]? := rowP_at l i j hi hj
    rw [hc (i * 2 + j) ((cellsP l[i])[j]'hj) (by rw [hx]; exact List.getElem?_eq_getElem hj)]
    rfl
theorem row_range {W : World} {g c : Nat} {l : Zbl} (h : W.ownsRow 0 44 2 (.slice (some ⟨g, 0, none⟩) l.length c) l.length (rowP l)) (i : Nat) (hi : i < l.length) : W.rangeAt g (i * 2) (cellsP l[i]) := fun j v hv => by
  rcases own_slice h with ⟨e, -⟩ | ⟨g', c', e, -, -, hc, hf⟩
  · cases e
  · have e2 : g = g' := by injection e with e1 _ _; injection e1 with e1; injection e1
    subst e2
    have hj : j < 2 := (List.getElem?_eq_some_iff.1 hv).1
    exact hc _ _ ((rowP_at l i j hi hj).trans hv)
theorem cellsP_one (x : Int × Int) : ∀ v ∈ cellsP x, v.oneCell' = true := by
  intro v hv
  unfold cellsP at hv
  simp at hv
  rcases hv with rfl | rfl <;> rfl
theorem dropZ_not : ∀ (m : Zbl) (k : Int), getZ m k = none → dropZ m k = m
  | [], _, _ => rfl
  | (a, u) :: r, k, h => by
    unfold getZ at h
    split at h
    · cases h
    · rename_i e
      unfold dropZ
      rw [if_neg e, dropZ_not r k h]
def OrKind : Kind Zbl := fun F W p m => ∃ v, OrV W p v (sortZ m) ∧ OnceZ m ∧ m.length ≤ 5000 ∧ ∀ k, F k ↔ footO p v k
theorem orKind_kind : IsKind OrKind where
  near := fun F W p m h k hk => by
    obtain ⟨v, hV, _, _, hF⟩ := h
    exact hV.near k ((hF k).1 hk)
  keep := fun F G W W' p m h hO hG => by
    obtain ⟨v, hV, ho, hlm, hF⟩ := h
    exact ⟨v, hV.keep hO (fun k hk => hG k ((hF k).2 hk)), ho, hlm, hF⟩
theorem PostL.post {F : Nat → Prop} {W W' : World} {p : Nat} {v : Value} {m : Zbl} (h : PostL W p v (sortZ m) W') (ho : OnceZ m) (hlm : m.length ≤ 5000) (hF : ∀ k, F k ↔ footO p v k) : PostO OrKind F p m W W' := by
  obtain ⟨v', h1, h2, h3⟩ := h
  exact ⟨footO p v', ⟨v', h1, ho, hlm, fun _ => Iff.rfl⟩, h2.mono (fun j _ e => (hF j).2 e), fun k hk e => (hF k).2 (h3 k hk e)⟩
theorem hereZ_of {m : Zbl} (h : OnceZ m) (k : Int) : hereZ (sortZ m) k = (getZ m k).isSome := by
  unfold hereZ
  rcases sort_at h k with ⟨v, hg, hi, e⟩ | ⟨hg, hn⟩
  · rw [List.getElem?_eq_getElem hi, e, hg]; simp
  · rw [hg]
    by_cases hi : lowZ (sortZ m) k < (sortZ m).length
    · rw [List.getElem?_eq_getElem hi]
      simpa using hn hi
    · rw [List.getElem?_eq_none (by omega)]; rfl
/-- A pair stored into a list's row. -/
theorem OrV.setPair {W : World} {p g c : Nat} {t : Zbl} (h : OrV W p (.slice (some ⟨g, 0, none⟩) t.length c) t) (i : Nat) (x : Int × Int) : OrV (W.setCells g (i * 2) (cellsP x)) p (.slice (some ⟨g, 0, none⟩) t.length c) (t.set i x) := by
  have hO : Only (fun k => k = g) W (W.setCells g (i * 2) (cellsP x)) := ((Only.refl (fun k => k = g) W).setCell (p := ⟨g, i * 2, none⟩) (fun _ => rfl) _).setCell (p := ⟨g, i * 2 + 1, none⟩) (fun _ => rfl) _
  have hpg : p ≠ g := fun e => h.ne (by rw [e]; rfl)
  refine ⟨?_, ?_, Nat.lt_of_lt_of_le h.lp hO.size, ?_, h.ne⟩
  · rw [hO.cell (p := ⟨p, 0, none⟩) h.lp hpg]; exact h.c0
  · rw [hO.frozen (p := ⟨p, 0, none⟩) h.lp hpg]; exact h.fp
  · have := row_setPair h.own i x
    rw [List.length_set] at *
    exact this
section
set_option maxRecDepth 100000 in
set_option maxHeartbeats 1000000 in
theorem orPut_any (F : Nat → Prop) (W : World) (p : Nat) (m : Zbl) (k a : Int) (h : OrKind F W p m) (hlen : m.length ≤ 1000) :
    Calls Try.prog 14 #[.pointer (some ⟨p, 0, none⟩), .int .i64 k, .int .i64 a] W fun e W' => e = .returned (.bool (!(getZ m k).isSome)) ∧ PostO OrKind F p (putZ m k a) W W' := by
  obtain ⟨v, hV, ho, hlm, hFF⟩ := h
  have hr := sortZ_rise m ho
  have hl : (sortZ m).length ≤ 1000 := by rw [sortZ_length]; exact hlen
  have hfind := orFind_any hV hr (by omega) k
  rw [hereZ_of ho] at hfind
  replace hfind := Lib.hid hfind
  have hend := Lib.hid (fun W' (h : PostL W p v (sortZ (putZ m k a)) W') => h.post (F := F) (ho.put k a) (by rw [putZ_length]; split <;> omega) hFF)
  rcases sort_at ho k with ⟨u, hg, hi, he⟩ | ⟨hg, hn⟩
  · have hsp := sort_put_here (v := a) ho hi he
    rw [hg] at hfind ⊢
    rw [hsp] at hend
    dsimp only [Option.isSome_some, Bool.not_true] at hfind ⊢
    clear hlen hlm hr hg he hsp ho hFF
    generalize lowZ (sortZ m) k = i at *
    go_enter Try.func14, Try.ntmps14
    go_wp2_with fail
    refine hfind.out.mono ?_
    rintro e w2 ⟨rfl, hb2⟩
    have h2 := hV.later hb2
    have hOb : Only (footO p v) W w2 := Only.of_below hb2
    clear hfind hV hb2
    rcases h2.slice with ⟨-, e⟩ | ⟨g, c, rfl, hgl, hnc, -, -⟩
    · rw [e] at hi; simp at hi
    · have hth := Lib.hid (row_there h2.own i hi)
      have hix := Lib.hid (run_idx_pairO g (sortZ m).length c i hi)
      have h3 := h2.setPair i (k, a)
      have hfin := Lib.hid (hend.out _ ⟨_, h3, hOb.trans (((Only.refl (fun k => k = g) w2).setCell (p := ⟨g, i * 2, none⟩) (fun _ => rfl) _).setCell (p := ⟨g, i * 2 + 1, none⟩) (fun _ => rfl) _) (fun j _ e => .inr (by rw [e]; rfl)), fun _ _ e => e⟩)
      have c0 := h2.c0
      have lp := h2.lp
      have hi2 := Lib.hid (show (Try.prog.info? 44).map (·.size) = some (cellsP (k, a)).toArray.size by kernel_rfl)
      have ho2 := Lib.hid (all_oneCell_toArray (cellsP_one (k, a)))
      clear hend h2 h3 hOb hi hnc hl
      generalize (sortZ m).length = N at *
      go_wp2_with (first | (refine wpList_index_run rfl _ _ _ rfl (.slice (some ⟨g, 0, none⟩) N c) (.int .i64 (i : Int)) _ rfl rfl (hix.out _) ?_) | (refine wpList_store_mid rfl _ _ _ rfl g (i * 2) (cellsP (k, a)).toArray rfl rfl hth.out hi2.out ho2.out ?_))
      go_ret
      exact ⟨rfl, hfin.out⟩
  · have hsp := sort_put_new (v := a) ho hg
    rw [hg] at hfind ⊢
    rw [hsp] at hend
    dsimp only [Option.isSome_none, Bool.not_false] at hfind ⊢
    have hi := lowZ_le (sortZ m) k
    clear hlen hlm hr hg hn hsp ho hFF
    generalize lowZ (sortZ m) k = i at *
    go_enter Try.func14, Try.ntmps14
    go_wp2_with fail
    refine hfind.out.mono ?_
    rintro e w2 ⟨rfl, hb2⟩
    have h2 := hV.later hb2
    have hOb : Only (footO p v) W w2 := Only.of_below hb2
    have hroom := Lib.hid (orRoom_any h2 hl i hi)
    have hsz := hb2.size
    clear hfind hV hb2 h2
    go_wp2_with fail
    refine hroom.out.mono ?_
    rintro e w3 ⟨rfl, y, v3, h3, hO3, hf3⟩
    have hl3 : i < ((sortZ m).take i ++ y :: (sortZ m).drop i).length := by rw [List.length_append, List.length_take, List.length_cons]; omega
    clear hroom
    rcases h3.slice with ⟨-, e⟩ | ⟨g, c, rfl, hgl, hnc, -, -⟩
    · rw [e] at hl3; simp at hl3
    · have hth := Lib.hid (row_there h3.own i hl3)
      have hix := Lib.hid (run_idx_pairO g _ c i hl3)
      have h4 := h3.setPair i (k, a)
      have e5 : ((sortZ m).take i ++ y :: (sortZ m).drop i).set i (k, a) = (sortZ m).take i ++ (k, a) :: (sortZ m).drop i := by
        rw [List.set_append_right _ _ (by rw [List.length_take]; omega), List.length_take, Nat.min_eq_left hi, Nat.sub_self]
        rfl
      rw [e5] at h4
      have hfin := Lib.hid (hend.out _ ⟨_, h4, (hOb.trans hO3 (fun _ _ e => e)).trans (((Only.refl (fun k => k = g) w3).setCell (p := ⟨g, i * 2, none⟩) (fun _ => rfl) _).setCell (p := ⟨g, i * 2 + 1, none⟩) (fun _ => rfl) _) (fun j hj e => hf3 j (by omega) (.inr (by rw [e]; rfl))), fun k hk e => hf3 k (by omega) e⟩)
      have c0 := h3.c0
      have lp := h3.lp
      have hi2 := Lib.hid (show (Try.prog.info? 44).map (·.size) = some (cellsP (k, a)).toArray.size by kernel_rfl)
      have ho2 := Lib.hid (all_oneCell_toArray (cellsP_one (k, a)))
      clear hend h3 h4 hOb hi hnc hl hO3 hf3 e5 hl3
      generalize ((sortZ m).take i ++ y :: (sortZ m).drop i).length = N at *
      go_wp2_with (first | (refine wpList_index_run rfl _ _ _ rfl (.slice (some ⟨g, 0, none⟩) N c) (.int .i64 (i : Int)) _ rfl rfl (hix.out _) ?_) | (refine wpList_store_mid rfl _ _ _ rfl g (i * 2) (cellsP (k, a)).toArray rfl rfl hth.out hi2.out ho2.out ?_))
      go_ret
      exact ⟨rfl, hfin.out⟩
set_option maxRecDepth 100000 in
set_option maxHeartbeats 1000000 in
theorem orDrop_any (F : Nat → Prop) (W : World) (p : Nat) (m : Zbl) (k : Int) (h : OrKind F W p m) :
    Calls Try.prog 15 #[.pointer (some ⟨p, 0, none⟩), .int .i64 k] W fun e W' => e = .returned (.bool (getZ m k).isSome) ∧ PostO OrKind F p (dropZ m k) W W' := by
  obtain ⟨v, hV, ho, hlm, hFF⟩ := h
  have hr := sortZ_rise m ho
  have hl : (sortZ m).length ≤ 10000 := by rw [sortZ_length]; omega
  have hfind := orFind_any hV hr (by omega) k
  rw [hereZ_of ho] at hfind
  replace hfind := Lib.hid hfind
  have hend := Lib.hid (fun W' (h : PostL W p v (sortZ (dropZ m k)) W') => h.post (F := F) (ho.drop k) (by rw [dropZ_length]; split <;> omega) hFF)
  rcases sort_at ho k with ⟨u, hg, hi, he⟩ | ⟨hg, hn⟩
  · have hsp := sort_drop ho hi he
    rw [hg] at hfind ⊢
    rw [hsp] at hend
    dsimp only [Option.isSome_some] at hfind ⊢
    clear hlm hr hg he hsp ho hFF
    generalize lowZ (sortZ m) k = i at *
    go_enter Try.func15, Try.ntmps15
    go_wp2_with fail
    refine hfind.out.mono ?_
    rintro e w2 ⟨rfl, hb2⟩
    have h2 := hV.later hb2
    have hOb : Only (footO p v) W w2 := Only.of_below hb2
    have hcl := Lib.hid (orClose_any h2 hl i hi)
    have hsz := hb2.size
    clear hfind hV hb2 h2 hi
    go_wp2_with fail
    refine hcl.out.mono ?_
    rintro e w3 ⟨rfl, v3, h3, hO3, hf3⟩
    have hfin := Lib.hid (hend.out _ ⟨v3, h3, hOb.trans hO3 (fun _ _ e => e), fun k hk e => hf3 k (by omega) e⟩)
    clear hend h3 hOb hO3 hf3 hcl
    go_wp2
    go_ret
    exact ⟨rfl, hfin.out⟩
  · have hdn : dropZ m k = m := dropZ_not m k hg
    rw [hg] at hfind ⊢
    rw [hdn] at hend ⊢
    dsimp only [Option.isSome_none] at hfind ⊢
    clear hlm hr hg hn hdn ho hFF hl
    generalize lowZ (sortZ m) k = i at *
    go_enter Try.func15, Try.ntmps15
    go_wp2_with fail
    refine hfind.out.mono ?_
    rintro e w2 ⟨rfl, hb2⟩
    have hfin := Lib.hid (hend.out _ ⟨v, hV.later hb2, Only.of_below hb2, fun _ _ e => e⟩)
    clear hend hV hb2 hfind
    go_wp2
    go_ret
    exact ⟨rfl, hfin.out⟩
end
end Go.Proofs.Ytgpjbacggcfcmaa
