/- Stage 13, landed: an item goes down. No condition but sizes. -/
import Derived.Test.YtgdlcfkgdaaooaaPqd
namespace Go.Proofs.Ytgdlcfkgdaaooaa
open Go.RowKit Wm

def DownPost (N i0 : Nat) (W : World) (p g c n : Nat) (s : List Qit) (e : Ending) (W' : World) : Prop :=
  ∃ b : Bool, e = .returned (.bool b) ∧ StirPost N W p g c n s (fun s' => (b = true → HeapF (atQ s') N) ∧ (b = false → UpF (atQ s') N i0)) W'
theorem qdone {f : Nat → Qit} {N i0 i : Nat} {b : Bool} (h : DnF f N i0 i) (hm : ∀ k, 0 < k → k < N → parQ k = i → qle (f i) (f k)) (hb : decide (i0 < i) = b) : (b = true → HeapF f N) ∧ (b = false → UpF f N i0) := by
  obtain ⟨h1, h2⟩ := h.done hm
  have hd := h.d
  constructor
  · rintro rfl
    have := of_decide_eq_true hb
    exact h2 (by omega)
  · rintro rfl
    have := of_decide_eq_false hb
    exact h1 (by omega)
section
set_option maxRecDepth 100000 in
set_option maxHeartbeats 2000000 in
theorem qDown_any {W : World} {p g c : Nat} {s : List Qit} (h : QuV W p (.slice (some ⟨g, 0, none⟩) s.length c) s) (N i0 : Nat) (hi0 : i0 < N ∨ N = 0 ∧ i0 = 0) (hN : N ≤ s.length) (hs : s.length ≤ 100000) (hu : DnF (atQ s) N i0 i0) :
    Calls Try.prog 22 #[.iface 55 (.pointer (some ⟨p, 0, none⟩)), .int .i64 (i0 : Int), .int .i64 (N : Int)] W (DownPost N i0 W p g c s.length s) := by
  replace h := Lib.hid h
  replace hu := Lib.hid hu
  have hi0b : i0 ≤ 100000 := by omega
  have hNb : (N : Int) ≤ 100000 := by omega
  have hi0N : i0 ≤ N := by omega
  replace hi0 := Lib.hid hi0
  go_enter Try.func22, Try.ntmps22
  go_wp2_with fail
  go_loopw [7] (fun iv wr => ∃ (i : Nat) (s' : List Qit), iv = .int .i64 i ∧ i ≤ N ∧ Stir N s s' ∧ DnF (atQ s') N i0 i ∧ QuV wr p (.slice (some ⟨g, 0, none⟩) s.length c) s' ∧ Only (fun k => k = g) W wr) (fun iv _ => N - (RowKit.intOf iv).toNat)
  case atStart => exact ⟨i0, s, rfl, hi0N, Stir.refl _ _, hu.out, h.out, Only.refl _ _⟩
  case round =>
    obtain ⟨i, t, rfl, hiN, hS, hU, hV, hO⟩ := hrel
    have hl : s.length = t.length := hS.len.symm
    rw [hl] at hV
    obtain ⟨b, hbb⟩ : ∃ b, decide (i0 < i) = b := ⟨_, rfl⟩
    clear h hu
    by_cases hc1 : N ≤ 2 * i + 1
    · have hfin := Lib.hid (show DownPost N i0 W p g c s.length s (.returned (.bool b)) wr from ⟨b, rfl, t, hS, qdone hU (fun k k0 kn kp => by have := parQ_child k0 kp; omega) hbb, by rw [hl]; exact hV, hO⟩)
      have h1 : decide ((N : Int) ≤ 2 * (i : Int) + 1) = true := decide_eq_true (by omega)
      clear hS hU hV hO hl
      go_wp2
      go_ret
      exact hfin.out
    have h1 : decide ((N : Int) ≤ 2 * (i : Int) + 1) = false := decide_eq_false (by omega)
    have h0 : decide (2 * (i : Int) + 1 < 0) = false := decide_eq_false (by omega)
    have e1 : ((2 * i + 1 : Nat) : Int) = 2 * (i : Int) + 1 := by omega
    have e2 : ((2 * i + 2 : Nat) : Int) = 2 * (i : Int) + 1 + 1 := by omega
    have hiL : i < t.length := by omega
    have hj1 : 2 * i + 1 < t.length := by omega
    by_cases hc2 : N ≤ 2 * i + 2
    · have h2 : decide (2 * (i : Int) + 1 + 1 < (N : Int)) = false := decide_eq_false (by omega)
      have hmin := Lib.hid (fun (k : Nat) (k0 : 0 < k) (kn : k < N) (kp : parQ k = i) => (by
        have hk := parQ_child k0 kp
        obtain rfl : k = 2 * i + 1 := by omega
        exact qle_refl _ : qle (atQ t (2 * i + 1)) (atQ t k)))
      replace e1 := Lib.hid e1
      replace e2 := Lib.hid e2
      replace hl := Lib.hid hl
      replace hS := Lib.hid hS
      replace hU := Lib.hid hU
      replace hV := Lib.hid hV
      have c9 := hV.out.c0
      have mL9 := fun n => m_Less c9 n
      have hl9 := qLess_any hV.out.own (2 * i + 1) i (by omega) (by omega)
      rw [e1.out] at hl9
      obtain ⟨q, hq⟩ : ∃ q, qahead (atQ t (2 * i + 1)) (atQ t i) = q := ⟨_, rfl⟩
      rw [hq] at hl9
      replace hl9 := Lib.hid hl9
      replace hq := Lib.hid hq
      cases q with
      | false =>
        go_wp2_with fail
        refine hl9.out.mono ?_
        rintro e w5 ⟨rfl, hb5⟩
        have hfin := Lib.hid (show DownPost N i0 W p g c s.length s (.returned (.bool b)) w5 from ⟨b, rfl, t, hS.out, qdone hU.out (fun k k0 kn kp => qle_trans hq.out (hmin.out k k0 kn kp)) hbb, by rw [hl.out]; exact hV.out.later hb5, hO.later hb5⟩)
        clear hb5 hl9 hV hO mL9 c9 hS hU hq hmin
        go_wp2
        go_ret
        exact hfin.out
      | true =>
        go_wp2_with fail
        refine hl9.out.mono ?_
        rintro e w5 ⟨rfl, hb5⟩
        have hV5 := hV.out.later hb5
        have hO5 := hO.later hb5
        have c5 := hV5.c0
        have mS := fun n => m_Swap c5 n
        have hsw := qSwap_any hV5.own i (2 * i + 1) (by omega) (by omega)
        rw [e1.out] at hsw
        replace hsw := Lib.hid hsw
        replace hV5 := Lib.hid hV5
        have hU5 := Lib.hid (hU.out.step (j := 2 * i + 1) (by omega) (by unfold parQ; omega) (by omega) hmin.out hq.out)
        clear hb5 hl9 hV hO mL9 c9 hU hq hmin
        go_wp2_with fail
        refine hsw.out.mono ?_
        rintro e w6 ⟨rfl, ho6, hO6⟩
        have hV6 := hV5.out.swapped ho6 hO6
        have hS6 := hS.out.trans (Stir.swap (i := i) (j := 2 * i + 1) (N := N) (by omega) (by omega) (by have := hl.out; omega))
        have hrel2 := Lib.hid (show ∃ (i' : Nat) (s' : List Qit), Value.int .i64 (2 * (i : Int) + 1) = .int .i64 i' ∧ i' ≤ N ∧ Stir N s s' ∧ DnF (atQ s') N i0 i' ∧ QuV w6 p (.slice (some ⟨g, 0, none⟩) s.length c) s' ∧ Only (fun k => k = g) W w6 from
          ⟨2 * i + 1, swapQ t i (2 * i + 1), by rw [e1.out], by omega, hS6, by rw [atQ_swap (by omega) (by omega)]; exact hU5.out, by rw [hl.out]; exact hV6, hO5.trans hO6 (fun _ _ e => e)⟩)
        clear hsw hV5 hU5 ho6 hO6 hV6 hS6 hO5 mS c5 hS
        go_wp2
        go_roundw
        case measure => simp [RowKit.intOf]; omega
        case rel => exact hrel2.out
    · have h2 : decide (2 * (i : Int) + 1 + 1 < (N : Int)) = true := decide_eq_true (by omega)
      have hj2 : 2 * i + 2 < t.length := by omega
      have c0 := hV.c0
      have mL := fun n => m_Less c0 n
      have hlc := qLess_any hV.own (2 * i + 2) (2 * i + 1) hj2 hj1
      rw [e1, e2] at hlc
      replace hl := Lib.hid hl
      replace hS := Lib.hid hS
      replace hU := Lib.hid hU
      replace hV := Lib.hid hV
      obtain ⟨z, hz⟩ : ∃ z, qahead (atQ t (2 * i + 2)) (atQ t (2 * i + 1)) = z := ⟨_, rfl⟩
      rw [hz] at hlc
      replace hlc := Lib.hid hlc
      replace e1 := Lib.hid e1
      replace e2 := Lib.hid e2
      cases z with
      | true =>
        have hmin := Lib.hid (fun (k : Nat) (k0 : 0 < k) (kn : k < N) (kp : parQ k = i) => (by
          rcases parQ_child k0 kp with rfl | rfl
          · exact qle_of_ahead hz
          · exact qle_refl _ : qle (atQ t (2 * i + 2)) (atQ t k)))
        clear hz
        go_wp2_with fail
        refine hlc.out.mono ?_
        rintro e w2 ⟨rfl, hb⟩
        have hV2 := Lib.hid (hV.out.later hb)
        have hO2 := hO.later hb
        clear hb hlc hV hO mL c0
        have c9 := hV2.out.c0
        have mL9 := fun n => m_Less c9 n
        have hl9 := qLess_any hV2.out.own (2 * i + 2) i (by omega) (by omega)
        rw [e2.out] at hl9
        obtain ⟨q, hq⟩ : ∃ q, qahead (atQ t (2 * i + 2)) (atQ t i) = q := ⟨_, rfl⟩
        rw [hq] at hl9
        replace hl9 := Lib.hid hl9
        replace hq := Lib.hid hq
        cases q with
        | false =>
          go_wp2_with fail
          refine hl9.out.mono ?_
          rintro e w5 ⟨rfl, hb5⟩
          have hfin := Lib.hid (show DownPost N i0 W p g c s.length s (.returned (.bool b)) w5 from ⟨b, rfl, t, hS.out, qdone hU.out (fun k k0 kn kp => qle_trans hq.out (hmin.out k k0 kn kp)) hbb, by rw [hl.out]; exact hV2.out.later hb5, hO2.later hb5⟩)
          clear hb5 hl9 hV2 hO2 mL9 c9 hS hU hq hmin
          go_wp2
          go_ret
          exact hfin.out
        | true =>
          go_wp2_with fail
          refine hl9.out.mono ?_
          rintro e w5 ⟨rfl, hb5⟩
          have hV5 := hV2.out.later hb5
          have hO5 := hO2.later hb5
          have c5 := hV5.c0
          have mS := fun n => m_Swap c5 n
          have hsw := qSwap_any hV5.own i (2 * i + 2) (by omega) (by omega)
          rw [e2.out] at hsw
          replace hsw := Lib.hid hsw
          replace hV5 := Lib.hid hV5
          have hU5 := Lib.hid (hU.out.step (j := 2 * i + 2) (by omega) (by unfold parQ; omega) (by omega) hmin.out hq.out)
          clear hb5 hl9 hV2 hO2 mL9 c9 hU hq hmin
          go_wp2_with fail
          refine hsw.out.mono ?_
          rintro e w6 ⟨rfl, ho6, hO6⟩
          have hV6 := hV5.out.swapped ho6 hO6
          have hS6 := hS.out.trans (Stir.swap (i := i) (j := 2 * i + 2) (N := N) (by omega) (by omega) (by have := hl.out; omega))
          have hrel2 := Lib.hid (show ∃ (i' : Nat) (s' : List Qit), Value.int .i64 (2 * (i : Int) + 1 + 1) = .int .i64 i' ∧ i' ≤ N ∧ Stir N s s' ∧ DnF (atQ s') N i0 i' ∧ QuV w6 p (.slice (some ⟨g, 0, none⟩) s.length c) s' ∧ Only (fun k => k = g) W w6 from
            ⟨2 * i + 2, swapQ t i (2 * i + 2), by rw [e2.out], by omega, hS6, by rw [atQ_swap (by omega) (by omega)]; exact hU5.out, by rw [hl.out]; exact hV6, hO5.trans hO6 (fun _ _ e => e)⟩)
          clear hsw hV5 hU5 ho6 hO6 hV6 hS6 hO5 mS c5 hS
          go_wp2
          go_roundw
          case measure => simp [RowKit.intOf]; omega
          case rel => exact hrel2.out
      | false =>
        have hmin := Lib.hid (fun (k : Nat) (k0 : 0 < k) (kn : k < N) (kp : parQ k = i) => (by
          rcases parQ_child k0 kp with rfl | rfl
          · exact qle_refl _
          · exact hz : qle (atQ t (2 * i + 1)) (atQ t k)))
        clear hz
        go_wp2_with fail
        refine hlc.out.mono ?_
        rintro e w2 ⟨rfl, hb⟩
        have hV2 := Lib.hid (hV.out.later hb)
        have hO2 := hO.later hb
        clear hb hlc hV hO mL c0
        have c9 := hV2.out.c0
        have mL9 := fun n => m_Less c9 n
        have hl9 := qLess_any hV2.out.own (2 * i + 1) i (by omega) (by omega)
        rw [e1.out] at hl9
        obtain ⟨q, hq⟩ : ∃ q, qahead (atQ t (2 * i + 1)) (atQ t i) = q := ⟨_, rfl⟩
        rw [hq] at hl9
        replace hl9 := Lib.hid hl9
        replace hq := Lib.hid hq
        cases q with
        | false =>
          go_wp2_with fail
          refine hl9.out.mono ?_
          rintro e w5 ⟨rfl, hb5⟩
          have hfin := Lib.hid (show DownPost N i0 W p g c s.length s (.returned (.bool b)) w5 from ⟨b, rfl, t, hS.out, qdone hU.out (fun k k0 kn kp => qle_trans hq.out (hmin.out k k0 kn kp)) hbb, by rw [hl.out]; exact hV2.out.later hb5, hO2.later hb5⟩)
          clear hb5 hl9 hV2 hO2 mL9 c9 hS hU hq hmin
          go_wp2
          go_ret
          exact hfin.out
        | true =>
          go_wp2_with fail
          refine hl9.out.mono ?_
          rintro e w5 ⟨rfl, hb5⟩
          have hV5 := hV2.out.later hb5
          have hO5 := hO2.later hb5
          have c5 := hV5.c0
          have mS := fun n => m_Swap c5 n
          have hsw := qSwap_any hV5.own i (2 * i + 1) (by omega) (by omega)
          rw [e1.out] at hsw
          replace hsw := Lib.hid hsw
          replace hV5 := Lib.hid hV5
          have hU5 := Lib.hid (hU.out.step (j := 2 * i + 1) (by omega) (by unfold parQ; omega) (by omega) hmin.out hq.out)
          clear hb5 hl9 hV2 hO2 mL9 c9 hU hq hmin
          go_wp2_with fail
          refine hsw.out.mono ?_
          rintro e w6 ⟨rfl, ho6, hO6⟩
          have hV6 := hV5.out.swapped ho6 hO6
          have hS6 := hS.out.trans (Stir.swap (i := i) (j := 2 * i + 1) (N := N) (by omega) (by omega) (by have := hl.out; omega))
          have hrel2 := Lib.hid (show ∃ (i' : Nat) (s' : List Qit), Value.int .i64 (2 * (i : Int) + 1) = .int .i64 i' ∧ i' ≤ N ∧ Stir N s s' ∧ DnF (atQ s') N i0 i' ∧ QuV w6 p (.slice (some ⟨g, 0, none⟩) s.length c) s' ∧ Only (fun k => k = g) W w6 from
            ⟨2 * i + 1, swapQ t i (2 * i + 1), by rw [e1.out], by omega, hS6, by rw [atQ_swap (by omega) (by omega)]; exact hU5.out, by rw [hl.out]; exact hV6, hO5.trans hO6 (fun _ _ e => e)⟩)
          clear hsw hV5 hU5 ho6 hO6 hV6 hS6 hO5 mS c5 hS
          go_wp2
          go_roundw
          case measure => simp [RowKit.intOf]; omega
          case rel => exact hrel2.out
end
end Go.Proofs.Ytgdlcfkgdaaooaa
