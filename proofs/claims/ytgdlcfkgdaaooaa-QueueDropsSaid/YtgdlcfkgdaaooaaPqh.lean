/- Stage 13, landed: container/heap's Pop and Remove on a queue's row. No condition but sizes. -/
import Derived.Test.YtgdlcfkgdaaooaaPqg
namespace Go.Proofs.Ytgdlcfkgdaaooaa
open Go.RowKit Wm

/-- Behind a call that took one. -/
def TookPost (W : World) (p : Nat) (v : Value) (m : List Qit) (x : Qit) (W' : World) : Prop := ∃ t, (t ++ [x]).Perm m ∧ HeapF (atQ t) t.length ∧ PostQ W p v t W'
section
variable {W : World} {p : Nat} {v : Value} {s : List Qit}
/-- The last one taken, what is ahead of it being in order. -/
theorem took {W0 W1 : World} {g c n : Nat} {t m : List Qit} (hl : t.length = n + 1) (hp : t.Perm m) (hH : HeapF (atQ t) n) {v1 : Value} (h0 : Only (fun k => k = g) W0 W1) (hv : v1 = .slice (some ⟨g, 0, none⟩) (n + 1) c)
    {W2 : World} (k : PostQ W1 p v1 (t.take n) W2) : TookPost W0 p v1 m (atQ t n) W2 := by
  subst hv
  have e := take_last hl
  refine ⟨t.take n, by rw [← e]; exact hp, ?_, ?_⟩
  · have : (t.take n).length = n := by rw [List.length_take]; omega
    rw [this]
    exact hH.same (fun k hk => atQ_take hk)
  · obtain ⟨v2, q2, o2, f2⟩ := k
    have h0' : Only (footQ p (.slice (some ⟨g, 0, none⟩) (n + 1) c)) W0 W1 := h0.mono (fun j _ e => .inr (by rw [e]; rfl))
    exact ⟨v2, q2, h0'.trans o2 (fun j _ e => e), fun j hj e => f2 j (Nat.lt_of_lt_of_le hj h0.size) e⟩
set_option maxRecDepth 100000 in
set_option maxHeartbeats 1000000 in
theorem qHPop_any (h : QuV W p v s) (hs : s.length ≤ 50000) (h0 : s ≠ []) (hh : HeapF (atQ s) s.length) :
    Calls Try.prog 20 #[.iface 55 (.pointer (some ⟨p, 0, none⟩))] W fun e W' => e = .returned (.iface 34 (.agg (atQ s 0).cells.toArray)) ∧ TookPost W p v s (atQ s 0) W' := by
  obtain ⟨n, hn⟩ : ∃ n, s.length = n + 1 := ⟨s.length - 1, by have := List.length_pos_iff.2 h0; omega⟩
  rcases h.slice with ⟨-, e⟩ | ⟨g, c, rfl, -⟩
  · exact absurd e h0
  have c0 := h.c0
  have mL := fun n => m_Len c0 n
  have mS := fun n => m_Swap c0 n
  have hsw := Lib.hid (qSwap_any h.own 0 n (by omega) (by omega))
  have ew : ((s.length : Nat) : Int) - 1 = (n : Int) := by omega
  have hb : (s.length : Int) ≤ 60000 := by omega
  have hb0 : 1 ≤ (s.length : Int) := by omega
  replace h := Lib.hid h
  replace hn := Lib.hid hn
  go_enter Try.func20, Try.ntmps20
  go_wp2_with (go_at_call 39; refine (qPLen_any _ _ _ _).mono ?_; rintro e w' ⟨rfl, rfl⟩)
  refine hsw.out.mono ?_
  rintro e w1 ⟨rfl, ho1, hO1⟩
  have h1 := h.out.swapped ho1 hO1
  have hl1 := swapQ_length s 0 n
  have hd : DnF (atQ (swapQ s 0 n)) n 0 0 := by
    by_cases e0 : n = 0
    · subst e0; exact DnF.none _
    · refine DnF.start hh (by have := hn.out; omega) (by omega) _ (fun k hk0 hkn => ?_)
      rw [atQ_swap (by have := hn.out; omega) (by have := hn.out; omega), swF_o _ hk0 (by omega)]
  have hlast : atQ (swapQ s 0 n) n = atQ s 0 := by rw [atQ_swap (by have := hn.out; omega) (by have := hn.out; omega), swF_j]
  have hpm := swapQ_perm (l := s) (i := 0) (j := n) (by have := hn.out; omega) (by have := hn.out; omega)
  rw [← hl1] at h1
  have hdn := qDown_any h1 n 0 (by omega) (by rw [hl1]; have := hn.out; omega) (by omega) hd
  rw [hl1] at hdn
  replace hdn := Lib.hid hdn
  replace hlast := Lib.hid hlast
  replace hl1 := Lib.hid hl1
  replace hpm := Lib.hid hpm
  clear hsw mL mS c0 ho1 h1 hd h hh
  go_wp2_with fail
  refine hdn.out.mono ?_
  rintro e w2 ⟨b, rfl, t, hS, hR, hV, hO2⟩
  have hH : HeapF (atQ t) n := by
    cases b with
    | true => exact hR.1 rfl
    | false => exact (hR.2 rfl).done (.inl rfl)
  have hlt : t.length = n + 1 := by rw [hS.len, hl1.out]; exact hn.out
  have hx : atQ t n = atQ s 0 := (hS.same n (Nat.le_refl _)).trans hlast.out
  have hV2 := hV
  rw [take_last hlt, hx] at hV2
  have hpp := Lib.hid (qPPop_any _ hV2 (by rw [List.length_take]; omega))
  have mO := fun n => m_Pop (.pointer (some ⟨p, 0, none⟩)) w2 n
  have hfin := Lib.hid (fun W2 (k : PostQ w2 p (.slice (some ⟨g, 0, none⟩) s.length c) (t.take n) W2) => (show TookPost W p (.slice (some ⟨g, 0, none⟩) s.length c) s (atQ s 0) W2 from by
    rw [← hx]
    exact took hlt (hS.perm.trans hpm.out) hH (hO1.trans hO2 (fun _ _ e => e)) (by rw [hn.out]) k))
  clear hS hR hV hV2 hO2 hO1 hH hx hlast hdn hpm hlt hl1 h0
  go_wp2_with fail
  refine hpp.out.mono ?_
  rintro e w3 ⟨rfl, hpo⟩
  replace hfin := Lib.hid (hfin.out _ hpo)
  clear hpo hpp mO
  go_wp2
  go_ret
  exact ⟨rfl, hfin.out⟩
set_option maxRecDepth 100000 in
set_option maxHeartbeats 1000000 in
theorem qHRemove_any (h : QuV W p v s) (hs : s.length ≤ 50000) (i : Nat) (hi : i < s.length) (hh : HeapF (atQ s) s.length) :
    Calls Try.prog 19 #[.iface 55 (.pointer (some ⟨p, 0, none⟩)), .int .i64 (i : Int)] W fun e W' => e = .returned (.iface 34 (.agg (atQ s i).cells.toArray)) ∧ TookPost W p v s (atQ s i) W' := by
  obtain ⟨n, hn⟩ : ∃ n, s.length = n + 1 := ⟨s.length - 1, by omega⟩
  rcases h.slice with ⟨-, e⟩ | ⟨g, c, rfl, -⟩
  · rw [e] at hi; simp at hi
  have c0 := h.c0
  have mL := fun n => m_Len c0 n
  have mS := fun n => m_Swap c0 n
  have ew : ((s.length : Nat) : Int) - 1 = (n : Int) := by omega
  have hb : (s.length : Int) ≤ 60000 := by omega
  have hb0 : 1 ≤ (s.length : Int) := by omega
  by_cases hin : i = n
  · subst hin
    have hV2 := h
    rw [take_last hn] at hV2
    have hpp := Lib.hid (qPPop_any _ hV2 (by rw [List.length_take]; omega))
    have mO := fun n => m_Pop (.pointer (some ⟨p, 0, none⟩)) W n
    have hfin := Lib.hid (fun W2 (k : PostQ W p (.slice (some ⟨g, 0, none⟩) s.length c) (s.take i) W2) => (show TookPost W p (.slice (some ⟨g, 0, none⟩) s.length c) s (atQ s i) W2 from
      took hn (List.Perm.refl _) (fun k k0 kn => hh k k0 (by omega)) (Only.refl _ _) (by rw [hn]) k))
    clear hV2 h hh mS hn hi
    have hne : ((i : Int) != (i : Int)) = false := by simp
    go_enter Try.func19, Try.ntmps19
    go_wp2_with (go_at_call 39; refine (qPLen_any _ _ _ _).mono ?_; rintro e w' ⟨rfl, rfl⟩)
    refine hpp.out.mono ?_
    rintro e w3 ⟨rfl, hpo⟩
    replace hfin := Lib.hid (hfin.out _ hpo)
    clear hpo hpp mO
    go_wp2
    go_ret
    exact ⟨rfl, hfin.out⟩
  have hin2 : i < n := by omega
  have hne : ((n : Int) != (i : Int)) = true := bne_iff_ne.2 (by omega)
  have hsw := Lib.hid (qSwap_any h.own i n hi (by omega))
  replace h := Lib.hid h
  replace hn := Lib.hid hn
  go_enter Try.func19, Try.ntmps19
  go_wp2_with (go_at_call 39; refine (qPLen_any _ _ _ _).mono ?_; rintro e w' ⟨rfl, rfl⟩)
  refine hsw.out.mono ?_
  rintro e w1 ⟨rfl, ho1, hO1⟩
  have h1 := h.out.swapped ho1 hO1
  have hl1 := swapQ_length s i n
  have hd : DnF (atQ (swapQ s i n)) n i i := DnF.start hh (by have := hn.out; omega) hin2 _ (fun k hk0 hkn => by
      rw [atQ_swap hi (by have := hn.out; omega), swF_o _ hk0 (by omega)])
  have hlast : atQ (swapQ s i n) n = atQ s i := by rw [atQ_swap hi (by have := hn.out; omega), swF_j]
  have hpm := swapQ_perm (l := s) (i := i) (j := n) hi (by have := hn.out; omega)
  rw [← hl1] at h1
  have hdn := qDown_any h1 n i (by omega) (by rw [hl1]; have := hn.out; omega) (by omega) hd
  rw [hl1] at hdn
  replace hdn := Lib.hid hdn
  replace hlast := Lib.hid hlast
  replace hl1 := Lib.hid hl1
  replace hpm := Lib.hid hpm
  clear hsw mL mS c0 ho1 h1 hd h hh
  go_wp2_with fail
  refine hdn.out.mono ?_
  rintro e w2 ⟨b, rfl, t, hS, hR, hV, hO2⟩
  have hlt : t.length = n + 1 := by rw [hS.len, hl1.out]; exact hn.out
  have hend := Lib.hid (fun (w9 : World) (t9 : List Qit) (hS9 : Stir n t t9) (hH9 : HeapF (atQ t9) n) (hV9 : QuV w9 p (.slice (some ⟨g, 0, none⟩) s.length c) t9) (hO9 : Only (fun k => k = g) w2 w9) => (show
      Calls Try.prog 43 #[.pointer (some ⟨p, 0, none⟩)] w9 (fun e W' => e = .returned (.iface 34 (.agg (atQ s i).cells.toArray)) ∧ TookPost W p (.slice (some ⟨g, 0, none⟩) s.length c) s (atQ s i) W') from by
    have hl9 : t9.length = n + 1 := hS9.len.trans hlt
    have hx : atQ t9 n = atQ s i := ((hS9.same n (Nat.le_refl _)).trans (hS.same n (Nat.le_refl _))).trans hlast.out
    have hV2 := hV9
    rw [take_last hl9, hx] at hV2
    refine (qPPop_any _ hV2 (by rw [List.length_take]; omega)).mono ?_
    rintro e W3 ⟨he, k⟩
    refine ⟨he, ?_⟩
    rw [← hx]
    exact took hl9 ((hS9.perm.trans hS.perm).trans hpm.out) hH9 ((hO1.trans hO2 (fun _ _ e => e)).trans hO9 (fun _ _ e => e)) (by rw [hn.out]) k))
  replace hl1 := Lib.hid hlt
  have hnl : t.length = s.length := hlt.trans hn.out.symm
  rw [← hnl] at hV hend
  replace hO1 := Lib.hid hO1
  replace hO2 := Lib.hid hO2
  replace hS := Lib.hid hS
  cases b with
  | true =>
    have hpp := Lib.hid (hend.out w2 t (Stir.refl _ _) (hR.1 rfl) hV (Only.refl _ _))
    have mO := fun n => m_Pop (.pointer (some ⟨p, 0, none⟩)) w2 n
    clear hend hS hR hV hO2 hO1 hlast hdn hpm hlt hl1 hnl
    go_wp2_with fail
    refine hpp.out.mono ?_
    rintro e w3 ⟨rfl, hfin⟩
    replace hfin := Lib.hid hfin
    clear hpp mO
    go_wp2
    go_ret
    exact ⟨rfl, hfin.out⟩
  | false =>
    have hup := Lib.hid (qUp_any hV n i hin2 (by omega) (by omega) (hR.2 rfl))
    clear hS hR hV hO2 hO1 hlast hdn hpm hlt hl1
    go_wp2_with fail
    refine hup.out.mono ?_
    rintro e w4 ⟨rfl, t4, hS4, hH4, hV4, hO4⟩
    have hpp := Lib.hid (hend.out w4 t4 hS4 hH4 hV4 hO4)
    have mO := fun n => m_Pop (.pointer (some ⟨p, 0, none⟩)) w4 n
    clear hend hS4 hH4 hV4 hO4 hup
    go_wp2_with fail
    refine hpp.out.mono ?_
    rintro e w3 ⟨rfl, hfin⟩
    replace hfin := Lib.hid hfin
    rw [hnl] at hfin
    clear hpp mO
    go_wp2
    go_ret
    exact ⟨rfl, hfin.out⟩
end
end Go.Proofs.Ytgdlcfkgdaaooaa
