/- Stage 13, landed: an item goes up, or down. No condition but sizes. -/
import Derived.Test.YtgdlcfkgdaaooaaPqc
namespace Go.Proofs.Ytgdlcfkgdaaooaa
open Go.RowKit Wm

/-- Stirred below a place. -/
structure Stir (N : Nat) (s s' : List Qit) : Prop where
  perm : s'.Perm s
  len : s'.length = s.length
  same : ∀ k, N ≤ k → atQ s' k = atQ s k
theorem Stir.refl (N : Nat) (s : List Qit) : Stir N s s := ⟨List.Perm.refl _, rfl, fun _ _ => rfl⟩
theorem Stir.trans {N : Nat} {a b c : List Qit} (h : Stir N a b) (k : Stir N b c) : Stir N a c := ⟨k.perm.trans h.perm, k.len.trans h.len, fun i hi => (k.same i hi).trans (h.same i hi)⟩
theorem Stir.swap {N : Nat} {s : List Qit} {i j : Nat} (hi : i < N) (hj : j < N) (hN : N ≤ s.length) : Stir N s (swapQ s i j) :=
  ⟨swapQ_perm (by omega) (by omega), swapQ_length _ _ _, fun k hk => by rw [atQ_swap (by omega) (by omega), swF_o _ (by omega) (by omega)]⟩
/-- Behind a stir in memory. -/
def StirPost (N : Nat) (W : World) (p g c n : Nat) (s : List Qit) (R : List Qit → Prop) (W' : World) : Prop :=
  ∃ s', Stir N s s' ∧ R s' ∧ QuV W' p (.slice (some ⟨g, 0, none⟩) n c) s' ∧ Only (fun k => k = g) W W'
theorem QuV.swapped {W W' : World} {p g c : Nat} {s : List Qit} (h : QuV W p (.slice (some ⟨g, 0, none⟩) s.length c) s) {i j : Nat}
    (ho : W'.ownsRow 0 34 4 (.slice (some ⟨g, 0, none⟩) s.length c) s.length (rowK Qit.cells (swapQ s i j))) (hO : Only (fun k => k = g) W W') : QuV W' p (.slice (some ⟨g, 0, none⟩) s.length c) (swapQ s i j) := by
  have hpg : ¬ p = g := fun e => h.ne (by rw [e]; rfl)
  refine ⟨?_, ?_, Nat.lt_of_lt_of_le h.lp hO.size, by rw [swapQ_length]; exact ho, h.ne⟩
  · rw [hO.cell (p := ⟨p, 0, none⟩) h.lp hpg]; exact h.c0
  · rw [hO.frozen (p := ⟨p, 0, none⟩) h.lp hpg]; exact h.fp
section
set_option maxRecDepth 100000 in
set_option maxHeartbeats 1000000 in
theorem qUp_any {W : World} {p g c : Nat} {s : List Qit} (h : QuV W p (.slice (some ⟨g, 0, none⟩) s.length c) s) (N j : Nat) (hj : j < N) (hN : N ≤ s.length) (hs : s.length ≤ 100000) (hu : UpF (atQ s) N j) :
    Calls Try.prog 21 #[.iface 55 (.pointer (some ⟨p, 0, none⟩)), .int .i64 (j : Int)] W fun e W' => e = .returned (.tuple #[]) ∧ StirPost N W p g c s.length s (fun s' => HeapF (atQ s') N) W' := by
  replace h := Lib.hid h
  replace hu := Lib.hid hu
  go_enter Try.func21, Try.ntmps21
  go_wp2_with fail
  go_loopw [1] (fun jv wr => ∃ (i : Nat) (s' : List Qit), jv = .int .i64 i ∧ i < N ∧ Stir N s s' ∧ UpF (atQ s') N i ∧ QuV wr p (.slice (some ⟨g, 0, none⟩) s.length c) s' ∧ Only (fun k => k = g) W wr) (fun jv _ => (RowKit.intOf jv).toNat)
  case atStart => exact ⟨j, s, rfl, hj, Stir.refl _ _, hu.out, h.out, Only.refl _ _⟩
  case round =>
    obtain ⟨i, t, rfl, hi, hS, hU, hV, hO⟩ := hrel
    have hl : s.length = t.length := hS.len.symm
    rw [hl] at hV
    by_cases i0 : i = 0
    · subst i0
      have hfin := Lib.hid (show StirPost N W p g c s.length s (fun s' => HeapF (atQ s') N) wr from ⟨t, hS, hU.done (.inl rfl), by rw [hl]; exact hV, hO⟩)
      clear hS hU hV hO hl hu h
      go_wp2
      go_end0
      exact ⟨rfl, hfin.out⟩
    · have hpar := parQ_lt (k := i) (by omega)
      have e1 : ((parQ i : Nat) : Int) = ((i : Int) - 1) / 2 := by unfold parQ; omega
      have hne : (((i : Int) - 1) / 2 == (i : Int)) = false := by rw [beq_eq_false_iff_ne]; omega
      have c0 := hV.c0
      have mL := fun n => m_Less c0 n
      have hless := qLess_any hV.own i (parQ i) (by omega) (by omega)
      rw [e1] at hless
      have hstep := Lib.hid (fun (ha : qahead (atQ t i) (atQ t (parQ i)) = true) => hU.step (by omega) hi ha)
      have hdone := Lib.hid (fun (ha : qahead (atQ t i) (atQ t (parQ i)) = false) => hU.done (.inr ha))
      have hb1 : 1 ≤ (i : Int) := by omega
      have hb2 : (i : Int) ≤ 100000 := by omega
      generalize hq : qahead (atQ t i) (atQ t (parQ i)) = q at *
      replace hless := Lib.hid hless
      replace hl := Lib.hid hl
      have hV' := Lib.hid hV
      replace e1 := Lib.hid e1
      replace hS := Lib.hid hS
      clear hq hU hV hu h
      cases q with
      | false =>
        go_wp2_with fail
        refine hless.out.mono ?_
        rintro e w2 ⟨rfl, hb⟩
        have hfin := Lib.hid (show StirPost N W p g c s.length s (fun s' => HeapF (atQ s') N) w2 from ⟨t, hS.out, hdone.out (by trivial), by rw [hl.out]; exact hV'.out.later hb, hO.later hb⟩)
        clear hb hless hV' hO mL c0 hS hdone hstep
        go_wp2
        go_end0
        exact ⟨rfl, hfin.out⟩
      | true =>
        go_wp2_with fail
        refine hless.out.mono ?_
        rintro e w2 ⟨rfl, hb⟩
        have hV2 := hV'.out.later hb
        have hO2 := hO.later hb
        have c2 := hV2.c0
        have mS := fun n => m_Swap c2 n
        have hsw := qSwap_any hV2.own (parQ i) i (by have := hl.out; omega) (by have := hl.out; omega)
        rw [e1.out] at hsw
        replace hsw := Lib.hid hsw
        replace hV2 := Lib.hid hV2
        have hU2 := Lib.hid (hstep.out (by trivial))
        clear hb hless hV' hO mL c0 hdone hstep
        go_wp2_with fail
        refine hsw.out.mono ?_
        rintro e w3 ⟨rfl, ho3, hO3⟩
        have hV3 := hV2.out.swapped ho3 hO3
        have hS3 := hS.out.trans (Stir.swap (i := parQ i) (j := i) (N := N) (by omega) hi (by have := hl.out; omega))
        have hrel2 := Lib.hid (show ∃ (i' : Nat) (s' : List Qit), Value.int .i64 (((i : Int) - 1) / 2) = .int .i64 i' ∧ i' < N ∧ Stir N s s' ∧ UpF (atQ s') N i' ∧ QuV w3 p (.slice (some ⟨g, 0, none⟩) s.length c) s' ∧ Only (fun k => k = g) W w3 from
          ⟨parQ i, swapQ t (parQ i) i, by rw [e1.out], by omega, hS3, by rw [atQ_swap (by have := hl.out; omega) (by have := hl.out; omega)]; exact hU2.out, by rw [hl.out]; exact hV3, hO2.trans hO3 (fun _ _ e => e)⟩)
        clear hsw hV2 hU2 ho3 hO3 hV3 hS3 hO2 mS c2 e1 hS
        go_wp2
        go_roundw
        case measure => simp [RowKit.intOf]; omega
        case rel => exact hrel2.out
end
end Go.Proofs.Ytgdlcfkgdaaooaa
