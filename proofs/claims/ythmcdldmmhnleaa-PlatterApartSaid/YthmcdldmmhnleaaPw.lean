/- The document's disk: a write. No condition but sizes. -/
import Derived.Test.YthmcdldmmhnleaaPn
import Derived.Deep.RegionLaw
import Derived.RegionTactic
namespace Go.Proofs.Ythmcdldmmhnleaa
open Go.RowKit

/-- What is known once one more has been written. -/
theorem RefV.more {W : World} {m : Nat} {safe : List ByteArray} {ats : List Nat} {datas : List ByteArray} {ops arm : Int} {vs va vd : Value} (h : RefV W m safe ats datas ops arm vs va vd) (i : Nat) (hn : ats.length ≤ 1000) :
    ∃ g cap w', (Builtin.append_ #[38, 38] 38 #[va, .slice (some ⟨W.heap.size, 0, none⟩) 1 1]).run Try.prog (W.alloc (.cells #[.int .i64 ((i : Nat) : Int)] 3)) = .ok (.slice (some ⟨g, 0, none⟩) (ats.length + 1) cap) w' ∧
      w'.cell? ⟨m, 1, none⟩ = some va ∧ w'.frozen? ⟨m, 1, none⟩ = false ∧ m < w'.heap.size ∧
      RefV (w'.setCell ⟨m, 1, none⟩ (.slice (some ⟨g, 0, none⟩) (ats.length + 1) cap)) m safe (ats ++ [i]) datas ops arm vs (.slice (some ⟨g, 0, none⟩) (ats.length + 1) cap) vd ∧
      Only (foot m vs va vd) W (w'.setCell ⟨m, 1, none⟩ (.slice (some ⟨g, 0, none⟩) (ats.length + 1) cap)) ∧
      ∀ k, k < W.heap.size → foot m vs (.slice (some ⟨g, 0, none⟩) (ats.length + 1) cap) vd k → foot m vs va vd k := by
  obtain ⟨g, cap, w', hrun, ho, hgr, hat⟩ := app_one Try.underlying38 int_info rfl (by omega) W va ats.length _ h.o1 (.int .i64 ((i : Nat) : Int)) rfl (by omega)
  have hO : Only (fun j => va.ownBlock = some j) W w' := (Only.of_below ((Below.refl _ _).alloc (Nat.le_refl _) _)).trans (Only.of_grown (F := fun j => va.ownBlock = some j) hgr (fun j _ hj => hj)) (fun _ _ e => e)
  have hat2 : ∀ j, (Value.slice (some ⟨g, 0, none⟩) (ats.length + 1) cap).ownBlock = some j → va.ownBlock = some j ∨ W.heap.size ≤ j := fun j hj => by
    have hj2 : g = j := by simpa [Value.ownBlock] using hj
    subst hj2
    rcases hat with e | e
    · left; exact e
    · right; omega
  refine ⟨g, cap, w', hrun, by rw [hO.cell (p := ⟨m, 1, none⟩) h.lt h.d1]; exact h.c1, by rw [hO.frozen (p := ⟨m, 1, none⟩) h.lt h.d1]; exact h.fz 1, Nat.lt_of_lt_of_le h.lt hO.size,
    ?_, (hO.mono (fun j _ hj => .inr (.inr (.inl hj)))).setCell (fun _ => .inl rfl) _, fun k hk hf => ?_⟩
  · have := h.row1 (l := ats ++ [i]) (v' := .slice (some ⟨g, 0, none⟩) (ats.length + 1) cap) hO (by
      rw [List.length_append]
      have e : rowI (ats ++ [i]) = rowI ats ++ [.int .i64 ((i : Nat) : Int)] := by unfold rowI; rw [List.map_append]; rfl
      rw [e]; exact ho) hat2
    exact this
  · rcases hf with e | e | e | e
    · exact .inl e
    · exact .inr (.inl e)
    · rcases hat2 k e with e2 | e2
      · exact .inr (.inr (.inl e2))
      · omega
    · exact .inr (.inr (.inr e))
theorem RefV.moreD {W : World} {m : Nat} {safe : List ByteArray} {ats : List Nat} {datas : List ByteArray} {ops arm : Int} {vs va vd : Value} (h : RefV W m safe ats datas ops arm vs va vd) (x : ByteArray) (hn : datas.length ≤ 1000) :
    ∃ g cap w', (Builtin.append_ #[37, 37] 37 #[vd, .slice (some ⟨W.heap.size, 0, none⟩) 1 1]).run Try.prog (W.alloc (.cells #[.string x] 9)) = .ok (.slice (some ⟨g, 0, none⟩) (datas.length + 1) cap) w' ∧
      w'.cell? ⟨m, 2, none⟩ = some vd ∧ w'.frozen? ⟨m, 2, none⟩ = false ∧ m < w'.heap.size ∧
      RefV (w'.setCell ⟨m, 2, none⟩ (.slice (some ⟨g, 0, none⟩) (datas.length + 1) cap)) m safe ats (datas ++ [x]) ops arm vs va (.slice (some ⟨g, 0, none⟩) (datas.length + 1) cap) ∧
      Only (foot m vs va vd) W (w'.setCell ⟨m, 2, none⟩ (.slice (some ⟨g, 0, none⟩) (datas.length + 1) cap)) ∧
      ∀ k, k < W.heap.size → foot m vs va (.slice (some ⟨g, 0, none⟩) (datas.length + 1) cap) k → foot m vs va vd k := by
  obtain ⟨g, cap, w', hrun, ho, hgr, hat⟩ := app_one Try.underlying37 str_info rfl (by omega) W vd datas.length _ h.o2 (.string x) rfl (by omega)
  have hO : Only (fun j => vd.ownBlock = some j) W w' := (Only.of_below ((Below.refl _ _).alloc (Nat.le_refl _) _)).trans (Only.of_grown (F := fun j => vd.ownBlock = some j) hgr (fun j _ hj => hj)) (fun _ _ e => e)
  have hat2 : ∀ j, (Value.slice (some ⟨g, 0, none⟩) (datas.length + 1) cap).ownBlock = some j → vd.ownBlock = some j ∨ W.heap.size ≤ j := fun j hj => by
    have hj2 : g = j := by simpa [Value.ownBlock] using hj
    subst hj2
    rcases hat with e | e
    · left; exact e
    · right; omega
  refine ⟨g, cap, w', hrun, by rw [hO.cell (p := ⟨m, 2, none⟩) h.lt h.d2]; exact h.c2, by rw [hO.frozen (p := ⟨m, 2, none⟩) h.lt h.d2]; exact h.fz 2, Nat.lt_of_lt_of_le h.lt hO.size,
    ?_, (hO.mono (fun j _ hj => .inr (.inr (.inr hj)))).setCell (fun _ => .inl rfl) _, fun k hk hf => ?_⟩
  · have := h.row2 (l := datas ++ [x]) (v' := .slice (some ⟨g, 0, none⟩) (datas.length + 1) cap) hO (by
      rw [List.length_append]
      have e : rowS (datas ++ [x]) = rowS datas ++ [.string x] := by unfold rowS; rw [List.map_append]; rfl
      rw [e]; exact ho) hat2
    exact this
  · rcases hf with e | e | e | e
    · exact .inl e
    · exact .inr (.inl e)
    · exact .inr (.inr (.inl e))
    · rcases hat2 k e with e2 | e2
      · exact .inr (.inr (.inr e2))
      · omega

theorem St.Ok.tried_ops {st : St} (h : st.Ok) : 0 ≤ st.ops ∧ st.ops ≤ 1000000 := h.ops
set_option maxRecDepth 100000 in
set_option maxHeartbeats 4000000 in
theorem refwrite_any (F : Nat → Prop) (W : World) (m : Nat) (st : St) (h : RefIs F W m st) (hok : st.Ok) (i : Int) (s : ByteArray) (hs : s.size ≤ 140737488351232) :
    Calls Try.prog 25 #[.pointer (some ⟨m, 0, none⟩), .int .i64 i, .string s] W fun e W' => e = .returned (.int .i64 (st.write i s).1) ∧ RefPost F m (st.write i s).2 W W' := by
  have h' := h
  obtain ⟨vs, va, vd, hV, hF⟩ := h'
  have c0 := hV.c0
  obtain ⟨ao0, k0, rfl, at0⟩ := row_slice hV.o0
  have hlt := hV.lt
  clear hV hF at0
  by_cases hg : 0 ≤ i ∧ i < ((st.safe.length : Nat) : Int) ∧ s.size ≤ 128
  · obtain ⟨g1, g2, g3⟩ := hg
    obtain ⟨i, rfl⟩ := Int.eq_ofNat_of_zero_le g1
    have hgw : st.goodW ((i : Nat) : Int) s = true := by
      unfold St.goodW; rw [decide_eq_true g1, decide_eq_true g2, decide_eq_true g3]; rfl
    have hfa := Lib.hid (fun W h => reffails_any F W m st h hok.ops hok.arm)
    have t1 : decide (((i : Nat) : Int) < 0) = false := decide_eq_false (by omega)
    have t2 : ¬ ((st.safe.length : Nat) : Int) ≤ ((i : Nat) : Int) := by omega
    have t3 : ¬ (128 : Int) < ((s.size : Nat) : Int) := by omega
    have hw := Lib.hid (show st.write ((i : Nat) : Int) s = if st.fails = true then (8, st.tried) else (0, { st.tried with later := st.later ++ [(i, padB s)] }) by
      unfold St.write; rw [if_pos hgw, Int.toNat_natCast])
    rw [hw.out]
    replace g1 := Lib.hid g1
    by_cases hfail : st.fails = true
    · rw [hfail] at hfa
      rw [if_pos hfail]
      clear hgw hw
      replace hfail := Lib.hid hfail
      go_enter Try.func25, Try.ntmps25
      go_wp2_with fail
      refine (hfa.out _ h).mono ?_
      rintro e W1 ⟨rfl, hP⟩
      go_wp2
      go_ret
      exact ⟨rfl, hP⟩
    · have hfail2 : st.fails = false := Bool.eq_false_iff.mpr hfail
      rw [hfail2] at hfa
      rw [if_neg hfail]
      clear hgw hw hfail
      replace hfail2 := Lib.hid hfail2
      have hbl := Lib.hid refblank_any
      have hz := zerosB_size 128
      have hpad := Lib.hid (show padB s = s ++ (zerosB 128).extract s.size 128 from rfl)
      go_enter Try.func25, Try.ntmps25
      go_wp2_with fail
      refine (hfa.out _ h).mono ?_
      rintro e W1 ⟨rfl, F1, ⟨vs1, va1, vd1, hV1, hF1⟩, hO1, hN1⟩
      have e1 : (st.tried.later.map (·.1)).length ≤ 1000 := by rw [List.length_map]; exact hok.few
      have hMA := hV1.more i e1
      rw [List.length_map] at hMA
      obtain ⟨gA, capA, WA, hrA, cA, fA, lA, hVA, hOA, hNA⟩ := hMA
      have c1 := hV1.c1
      have lt1 := hV1.lt
      generalize hWB : WA.setCell ⟨m, 1, none⟩ (.slice (some ⟨gA, 0, none⟩) (st.tried.later.length + 1) capA) = WB at *
      have e2 : (st.tried.later.map (·.2)).length ≤ 1000 := by rw [List.length_map]; exact hok.few
      have hMD := (hVA.later (W' := WB.drew) ((Below.refl _ _).drew)).moreD (padB s) e2
      rw [List.length_map] at hMD
      obtain ⟨gD, capD, WD, hrD, cD, fD, lD, hVD, hOD, hND⟩ := hMD
      have c2 := hVA.c2
      have lt2 := hVA.lt
      have hOAF : Only F W WB := hO1.trans hOA (fun j hj hf => hN1 j hj ((hF1 j).2 hf))
      have hft : ∀ k, k < W.heap.size → foot m vs1 (.slice (some ⟨gA, 0, none⟩) (st.tried.later.length + 1) capA) vd1 k → F k := fun k hk hf => hN1 k hk ((hF1 k).2 (hNA k (Nat.lt_of_lt_of_le hk hO1.size) hf))
      have hfin := Lib.hid (show RefPost F m { st.tried with later := st.later ++ [(i, padB s)] } W (WD.setCell ⟨m, 2, none⟩ (.slice (some ⟨gD, 0, none⟩) (st.tried.later.length + 1) capD)) from
        ⟨_, ⟨vs1, _, _, by
          show RefV _ m st.tried.safe ((st.later ++ [(i, padB s)]).map (·.1)) ((st.later ++ [(i, padB s)]).map (·.2)) st.tried.ops st.tried.arm _ _ _
          rw [List.map_append, List.map_append]
          exact hVD, fun _ => Iff.rfl⟩, hOAF.drew.trans hOD (fun j hj hf => hft j hj hf), fun k hk hf => hft k hk (hND k (Nat.lt_of_lt_of_le hk hOAF.size) hf)⟩)
      clear hVA hO1 hN1 hF1 hOA hNA hVD hOD hND hOAF hft
      rw [hpad.out] at hrD
      replace hrD := Lib.hid hrD
      go_wp2_with (at_builtin; refine Lib.wpList_append_run _ rfl _ _ _ _ rfl _ _ rfl rfl _ _ hrA ?_)
      clear hWB hrA cA fA lA c1
      go_region_law (first
        | refine step_append_run (by rfl) _ _ _ _ (by rfl) _ _ (by rfl) (by rfl) _ _ hrD.out ?_
        | (refine step_plain (by rfl) ?_; go_simp; go_at_call 24; refine (hbl.out _).mono ?_; rintro e wx ⟨rfl, rfl⟩))
      all_goals
        go_wp2
        go_ret
        exact ⟨rfl, hfin.out⟩
  · have hw := Lib.hid (show st.write i s = (1, st) by
      unfold St.write
      rw [if_neg]
      intro e
      unfold St.goodW at e
      simp at e
      exact hg ⟨e.1.1, e.1.2, e.2⟩)
    rw [hw.out]
    have hP := Lib.hid (show RefPost F m st W W from ⟨F, h, Only.refl _ _, fun _ _ e => e⟩)
    have hq : i < 0 ∨ (¬ i < 0 ∧ ((st.safe.length : Nat) : Int) ≤ i) ∨ (¬ i < 0 ∧ ¬ ((st.safe.length : Nat) : Int) ≤ i ∧ (128 : Int) < ((s.size : Nat) : Int)) := by omega
    clear hg
    rcases hq with q | ⟨q, q'⟩ | ⟨q, q', q''⟩
    all_goals
      go_enter Try.func25, Try.ntmps25
      go_wp2
      go_ret
      exact ⟨rfl, hP.out⟩
end Go.Proofs.Ythmcdldmmhnleaa
