/- Stage 12: the least that is left, again and again, gives a range in order. Plain: no program, no condition. -/
import Derived.Test.YtgpjbacggcfcmaaOa
namespace Go.Proofs.Ytgpjbacggcfcmaa
open Wm

def ltB (fl : Bool) (x y : Int) : Bool := if fl = true then decide (y < x) else decide (x < y)
theorem ltB_trans {fl : Bool} {x y z : Int} (h1 : ltB fl x y = true) (h2 : ltB fl z y = false) : ltB fl z x = false := by
  unfold ltB at *
  cases fl
  · simp at *; omega
  · simp at *; omega
theorem ltB_same {fl : Bool} {x y : Int} (h1 : ltB fl x y = false) (h2 : ltB fl y x = false) : x = y := by
  unfold ltB at *
  cases fl
  · simp at *; omega
  · simp at *; omega
theorem ltB_irrefl (fl : Bool) (x : Int) : ltB fl x x = false := by unfold ltB; cases fl <;> simp
theorem ltB_asymm {fl : Bool} {x y : Int} (h1 : ltB fl x y = true) : ltB fl y x = false := by
  unfold ltB at *
  cases fl
  · simp at *; omega
  · simp at *; omega
theorem range_sorted {m : Zbl} (h : OnceZ m) (a b : Int) (fl : Bool) : (rangeZ m a b fl).Pairwise (fun x y => ltB fl x.1 y.1 = true) := by
  cases fl
  · refine (range_rise h a b).imp (fun hxy => ?_)
    unfold ltB
    simpa using hxy
  · rw [range_back, List.pairwise_reverse]
    refine (range_rise h a b).imp (fun hxy => ?_)
    unfold ltB
    simpa using hxy
theorem range_mem {m : Zbl} {a b : Int} {fl : Bool} {y : Int × Int} : y ∈ rangeZ m a b fl ↔ y ∈ m ∧ keepZ a b y = true := by
  unfold rangeZ
  split
  · rw [List.mem_reverse, sortZ_mem, List.mem_filter]
  · rw [sortZ_mem, List.mem_filter]
theorem range_length (m : Zbl) (a b : Int) (fl : Bool) : (rangeZ m a b fl).length ≤ m.length := by
  have h : (sortZ (m.filter (keepZ a b))).length ≤ m.length := by
    rw [(sortZ_perm _).length_eq]
    exact List.length_filter_le _ _
  unfold rangeZ
  split
  · rw [List.length_reverse]; exact h
  · exact h
def nthZ (m : Zbl) (j : Nat) : Int × Int := m.getD j (0, 0)
theorem nthZ_eq {m : Zbl} {j : Nat} (h : j < m.length) : nthZ m j = m[j] := by unfold nthZ; rw [List.getD_eq_getElem?_getD, List.getElem?_eq_getElem h]; rfl
theorem nthZ_mem {m : Zbl} {j : Nat} (h : j < m.length) : nthZ m j ∈ m := by rw [nthZ_eq h]; exact List.getElem_mem h
theorem nthZ_inj {m : Zbl} (h : OnceZ m) {i j : Nat} (hi : i < m.length) (hj : j < m.length) (e : (nthZ m i).1 = (nthZ m j).1) : i = j := by
  rw [nthZ_eq hi, nthZ_eq hj] at e
  have hp : ∀ x y (hx : x < m.length) (hy : y < m.length), x < y → (m[x]).1 ≠ (m[y]).1 := fun x y hx hy hxy => by
    have h1 := List.pairwise_iff_getElem.1 h x y (by rw [List.length_map]; exact hx) (by rw [List.length_map]; exact hy) hxy
    rw [List.getElem_map, List.getElem_map] at h1
    exact h1
  rcases Nat.lt_trichotomy i j with hl | hl | hl
  · exact absurd e (hp i j hi hj hl)
  · exact hl
  · exact absurd e.symm (hp j i hj hi hl)
/-- Which of the first i is the least (the first one) of those that count. -/
def BestIs (m : Zbl) (el : Nat → Bool) (fl : Bool) (i : Nat) : Option Nat → Prop
  | none => ∀ j, j < i → el j = false
  | some c => c < i ∧ el c = true ∧ ∀ j, j < i → el j = true → ltB fl (nthZ m j).1 (nthZ m c).1 = false
section
variable {m : Zbl} {el : Nat → Bool} {fl : Bool} {i c : Nat} {o : Option Nat}
theorem BestIs.start : BestIs m el fl 0 none := fun j hj => by omega
theorem BestIs.skip (h : BestIs m el fl i o) (he : el i = false) : BestIs m el fl (i + 1) o := by
  cases o with
  | none =>
    intro j hj
    by_cases e : j = i
    · rw [e]; exact he
    · exact h j (by omega)
  | some c =>
    obtain ⟨h1, h2, h3⟩ := h
    refine ⟨by omega, h2, fun j hj hej => ?_⟩
    by_cases e : j = i
    · rw [e, he] at hej; cases hej
    · exact h3 j (by omega) hej
theorem BestIs.first (h : BestIs m el fl i none) (he : el i = true) : BestIs m el fl (i + 1) (some i) := by
  refine ⟨by omega, he, fun j hj hej => ?_⟩
  by_cases e : j = i
  · rw [e]; exact ltB_irrefl _ _
  · rw [h j (by omega)] at hej; cases hej
theorem BestIs.better (h : BestIs m el fl i (some c)) (he : el i = true) (hl : ltB fl (nthZ m i).1 (nthZ m c).1 = true) : BestIs m el fl (i + 1) (some i) := by
  obtain ⟨h1, h2, h3⟩ := h
  refine ⟨by omega, he, fun j hj hej => ?_⟩
  by_cases e : j = i
  · rw [e]; exact ltB_irrefl _ _
  · exact ltB_trans hl (h3 j (by omega) hej)
theorem BestIs.worse (h : BestIs m el fl i (some c)) (hl : ltB fl (nthZ m i).1 (nthZ m c).1 = false) : BestIs m el fl (i + 1) (some c) := by
  obtain ⟨h1, h2, h3⟩ := h
  refine ⟨by omega, h2, fun j hj hej => ?_⟩
  by_cases e : j = i
  · rw [e]; exact hl
  · exact h3 j (by omega) hej
end
/-- What counts in round r. -/
def elB (m : Zbl) (a b : Int) (fl : Bool) (r j : Nat) : Bool := keepZ a b (nthZ m j) && !(decide (nthZ m j ∈ (rangeZ m a b fl).take r))
section
variable {m : Zbl} {a b : Int} {fl : Bool} {r c : Nat}
theorem left_at {T : Zbl} (hs : T.Pairwise (fun x y => ltB fl x.1 y.1 = true)) (hr : r < T.length) : T[r] ∉ T.take r := by
  intro h
  obtain ⟨i, hi, e⟩ := List.mem_iff_getElem.1 h
  rw [List.length_take] at hi
  rw [List.getElem_take] at e
  have h1 := List.pairwise_iff_getElem.1 hs i r (by omega) hr (by omega)
  rw [e, ltB_irrefl] at h1
  cases h1
theorem best_none (h : OnceZ m) (hb : BestIs m (elB m a b fl r) fl m.length none) : (rangeZ m a b fl).length ≤ r := by
  refine Nat.le_of_not_lt (fun hr => ?_)
  have hs := range_sorted h a b fl
  have hin := range_mem.1 (List.getElem_mem hr)
  obtain ⟨i, hi, e⟩ := List.mem_iff_getElem.1 hin.1
  have h1 := hb i hi
  unfold elB at h1
  rw [nthZ_eq hi, e, hin.2, decide_eq_false (left_at hs hr)] at h1
  cases h1
theorem best_some (h : OnceZ m) (hb : BestIs m (elB m a b fl r) fl m.length (some c)) : ∃ hr : r < (rangeZ m a b fl).length, nthZ m c = (rangeZ m a b fl)[r] ∧ c < m.length := by
  obtain ⟨h1, h2, h3⟩ := hb
  have hs := range_sorted h a b fl
  unfold elB at h2
  rw [Bool.and_eq_true, Bool.not_eq_true', decide_eq_false_iff_not] at h2
  have hc : nthZ m c ∈ rangeZ m a b fl := range_mem.2 ⟨nthZ_mem h1, h2.1⟩
  have hr : r < (rangeZ m a b fl).length := by
    refine Nat.lt_of_not_le (fun hr => h2.2 ?_)
    rw [List.take_of_length_le hr]
    exact hc
  refine ⟨hr, ?_, h1⟩
  obtain ⟨k, hk, e⟩ := List.mem_iff_getElem.1 hc
  have hkr : r ≤ k := by
    refine Nat.le_of_not_lt (fun hlt => h2.2 ?_)
    rw [← e]
    exact List.mem_take_iff_getElem.2 ⟨k, by omega, rfl⟩
  have hin := range_mem.1 (List.getElem_mem hr)
  obtain ⟨i, hi, e2⟩ := List.mem_iff_getElem.1 hin.1
  have h4 := h3 i hi (by
    unfold elB
    rw [nthZ_eq hi, e2, hin.2, decide_eq_false (left_at hs hr)]; rfl)
  rw [nthZ_eq hi, e2] at h4
  by_cases hkk : k = r
  · subst hkk; exact e.symm
  · have h5 := List.pairwise_iff_getElem.1 hs r k hr hk (by omega)
    rw [e, h4] at h5
    cases h5
/-- What has been taken, told by place. -/
def DoneIs (m T : Zbl) (r : Nat) (D : List Bool) : Prop := D.length = m.length ∧ ∀ i, i < m.length → D[i]? = some (decide (nthZ m i ∈ T.take r))
theorem DoneIs.start (m T : Zbl) : DoneIs m T 0 (List.replicate m.length false) := ⟨List.length_replicate, fun i hi => by
  rw [List.take_zero, List.getElem?_replicate, if_pos hi]; simp⟩
theorem DoneIs.step {T : Zbl} {D : List Bool} (h : OnceZ m) (hd : DoneIs m T r D) (hr : r < T.length) (hc : c < m.length) (e : nthZ m c = T[r]) : DoneIs m T (r + 1) (D.set c true) := by
  obtain ⟨h1, h2⟩ := hd
  refine ⟨by rw [List.length_set]; exact h1, fun i hi => ?_⟩
  rw [← List.take_append_getElem hr, List.getElem?_set, ← e]
  by_cases hci : c = i
  · subst hci
    rw [if_pos rfl, if_pos (by rw [h1]; exact hc), decide_eq_true (List.mem_append.2 (.inr (List.mem_singleton.2 rfl)))]
  · rw [if_neg hci, h2 i hi]
    congr 1
    refine decide_eq_decide.2 ?_
    rw [List.mem_append, List.mem_singleton]
    exact ⟨.inl, fun hh => hh.elim id (fun e2 => absurd (nthZ_inj h hi hc (by rw [e2])) (fun e3 => hci e3.symm))⟩
end
/-- The answer's place as the program holds it. -/
def bestI : Option Nat → Int
  | none => -1
  | some c => (c : Int)
end Go.Proofs.Ytgpjbacggcfcmaa
