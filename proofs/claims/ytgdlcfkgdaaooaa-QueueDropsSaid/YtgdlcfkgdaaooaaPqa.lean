/- Stage 13: items in order; a heap of them, plain. No program, no condition. -/
import Derived.Test.YtgdlcfkgdaaooaaPqv
namespace Go.Proofs.Ytgdlcfkgdaaooaa
open Wm

/-- Is one ahead of another one? -/
def qahead (a b : Qit) : Bool := if a.Due = b.Due then decide (a.Stamp < b.Stamp) else decide (a.Due < b.Due)
def qle (a b : Qit) : Prop := qahead b a = false
theorem qahead_iff (a b : Qit) : qahead a b = true ↔ a.Due < b.Due ∨ (a.Due = b.Due ∧ a.Stamp < b.Stamp) := by
  unfold qahead
  split
  · rename_i h; rw [decide_eq_true_iff]; omega
  · rename_i h; rw [decide_eq_true_iff]; omega
theorem qle_iff (a b : Qit) : qle a b ↔ a.Due < b.Due ∨ (a.Due = b.Due ∧ a.Stamp ≤ b.Stamp) := by
  unfold qle
  rw [Bool.eq_false_iff, Ne, qahead_iff]
  omega
theorem qle_refl (a : Qit) : qle a a := by rw [qle_iff]; omega
theorem qle_trans {a b c : Qit} (h : qle a b) (k : qle b c) : qle a c := by rw [qle_iff] at *; omega
theorem qle_of_ahead {a b : Qit} (h : qahead a b = true) : qle a b := by rw [qahead_iff] at h; rw [qle_iff]; omega
theorem qle_same {a b : Qit} (h : qle a b) (k : qle b a) : a.Due = b.Due ∧ a.Stamp = b.Stamp := by rw [qle_iff] at *; omega
/-- The place above. -/
def parQ (k : Nat) : Nat := (k - 1) / 2
theorem parQ_lt {k : Nat} (h : 0 < k) : parQ k < k := by unfold parQ; omega
theorem parQ_child {k i : Nat} (h0 : 0 < k) (h : parQ k = i) : k = 2 * i + 1 ∨ k = 2 * i + 2 := by unfold parQ at h; omega
theorem parQ_1 (i : Nat) : parQ (2 * i + 1) = i := by unfold parQ; omega
theorem parQ_2 (i : Nat) : parQ (2 * i + 2) = i := by unfold parQ; omega
def HeapF (f : Nat → Qit) (n : Nat) : Prop := ∀ k, 0 < k → k < n → qle (f (parQ k)) (f k)
/-- In order but for one place and the one above it. -/
def UpF (f : Nat → Qit) (n j : Nat) : Prop := (∀ k, 0 < k → k < n → k ≠ j → qle (f (parQ k)) (f k)) ∧ ∀ k, 0 < k → k < n → parQ k = j → 0 < j → qle (f (parQ j)) (f k)
def swF (f : Nat → Qit) (i j : Nat) : Nat → Qit := fun k => if k = j then f i else if k = i then f j else f k
theorem swF_j (f : Nat → Qit) (i j : Nat) : swF f i j j = f i := by unfold swF; rw [if_pos rfl]
theorem swF_i (f : Nat → Qit) (i j : Nat) : swF f i j i = f j := by
  unfold swF
  by_cases e : i = j
  · rw [if_pos e, e]
  · rw [if_neg e, if_pos rfl]
theorem swF_o (f : Nat → Qit) {i j k : Nat} (h1 : k ≠ i) (h2 : k ≠ j) : swF f i j k = f k := by unfold swF; rw [if_neg h2, if_neg h1]
theorem UpF.step {f : Nat → Qit} {n j : Nat} (h : UpF f n j) (h0 : 0 < j) (hn : j < n) (ha : qahead (f j) (f (parQ j)) = true) : UpF (swF f (parQ j) j) n (parQ j) := by
  obtain ⟨h1, h2⟩ := h
  have hpj := parQ_lt h0
  have hle := qle_of_ahead ha
  constructor
  · intro k k0 kn kne
    have hpk := parQ_lt k0
    by_cases e1 : k = j
    · subst e1
      rw [swF_j, swF_i]
      exact hle
    · rw [swF_o f kne e1]
      by_cases e2 : parQ k = parQ j
      · rw [e2, swF_i]
        have := h1 k k0 kn e1
        rw [e2] at this
        exact qle_trans hle this
      · by_cases e3 : parQ k = j
        · rw [e3, swF_j]
          exact h2 k k0 kn e3 h0
        · rw [swF_o f e2 e3]
          exact h1 k k0 kn e1
  · intro k k0 kn kp p0
    have hpp := parQ_lt p0
    have hg : swF f (parQ j) j (parQ (parQ j)) = f (parQ (parQ j)) := swF_o f (by omega) (by omega)
    have h3 := h1 (parQ j) p0 (by omega) (by omega)
    have hpk := parQ_lt k0
    rw [hg]
    by_cases e1 : k = j
    · subst e1
      rw [swF_j]
      exact h3
    · rw [swF_o f (by omega) e1]
      have h4 := h1 k k0 kn e1
      rw [kp] at h4
      exact qle_trans h3 h4
theorem UpF.done {f : Nat → Qit} {n j : Nat} (h : UpF f n j) (hd : j = 0 ∨ qahead (f j) (f (parQ j)) = false) : HeapF f n := by
  intro k k0 kn
  by_cases e : k = j
  · subst e
    rcases hd with e | e
    · omega
    · exact e
  · exact h.1 k k0 kn e
theorem HeapF.toUp {f : Nat → Qit} {n : Nat} (h : HeapF f n) : UpF f (n + 1) n :=
  ⟨fun k k0 kn kne => h k k0 (by omega), fun k k0 kn kp _ => by have := parQ_lt k0; omega⟩
/-- In order but for one place, the ones below it, and the one above where it began. -/
structure DnF (f : Nat → Qit) (n i0 i : Nat) : Prop where
  a : ∀ k, 0 < k → k < n → parQ k ≠ i → k ≠ i0 → qle (f (parQ k)) (f k)
  b : i ≠ i0 → 0 < i0 → qle (f (parQ i0)) (f i0)
  c : ∀ k, 0 < k → k < n → parQ k = i → 0 < i → qle (f (parQ i)) (f k)
  d : i0 ≤ i
theorem DnF.start {f : Nat → Qit} {n N i0 : Nat} (h : HeapF f N) (hn : n ≤ N) (hi : i0 < n) (g : Nat → Qit) (hg : ∀ k, k ≠ i0 → k < n → g k = f k) : DnF g n i0 i0 := by
  refine ⟨fun k k0 kn kp ki => ?_, fun e => absurd rfl e, fun k k0 kn kp p0 => ?_, Nat.le_refl _⟩
  · have := parQ_lt k0
    rw [hg k ki kn, hg _ kp (by omega)]
    exact h k k0 (by omega)
  · have := parQ_lt k0
    have := parQ_lt p0
    rw [hg k (by omega) kn, hg (parQ i0) (by omega) (by omega)]
    have h1 := h k k0 (by omega)
    rw [kp] at h1
    exact qle_trans (h i0 p0 (by omega)) h1
/-- The child that goes up. -/
theorem DnF.step {f : Nat → Qit} {n i0 i j : Nat} (h : DnF f n i0 i) (hj : j < n) (hp : parQ j = i) (j0 : 0 < j) (hm : ∀ k, 0 < k → k < n → parQ k = i → qle (f j) (f k)) (ha : qahead (f j) (f i) = true) : DnF (swF f i j) n i0 j := by
  have hji := parQ_lt j0
  have hd := h.d
  refine ⟨fun k k0 kn kp ki => ?_, fun _ p0 => ?_, fun k k0 kn kp _ => ?_, by omega⟩
  · have hpk := parQ_lt k0
    by_cases e1 : k = j
    · subst e1
      rw [swF_j, hp, swF_i]
      exact qle_of_ahead ha
    · by_cases e2 : parQ k = i
      · rw [e2, swF_i, swF_o f (by omega) e1]
        exact hm k k0 kn e2
      · by_cases e3 : k = i
        · subst e3
          rw [swF_i, swF_o f (by omega) (by omega)]
          exact h.c j j0 hj hp k0
        · rw [swF_o f e3 e1, swF_o f e2 kp]
          exact h.a k k0 kn e2 ki
  · have := parQ_lt p0
    rw [swF_o f (k := parQ i0) (by omega) (by omega)]
    by_cases e : i = i0
    · subst e
      rw [swF_i]
      exact h.c j j0 hj hp p0
    · rw [swF_o f (by omega) (by omega)]
      exact h.b e p0
  · have hpk := parQ_lt k0
    rw [hp, swF_i, swF_o f (by omega) (by omega)]
    have := h.a k k0 kn (by omega) (by omega)
    rw [kp] at this
    exact this
theorem DnF.done {f : Nat → Qit} {n i0 i : Nat} (h : DnF f n i0 i) (hm : ∀ k, 0 < k → k < n → parQ k = i → qle (f i) (f k)) : (i = i0 → UpF f n i0) ∧ (i ≠ i0 → HeapF f n) := by
  constructor
  · rintro rfl
    refine ⟨fun k k0 kn kne => ?_, fun k k0 kn kp p0 => h.c k k0 kn kp p0⟩
    by_cases e : parQ k = i
    · rw [e]; exact hm k k0 kn e
    · exact h.a k k0 kn e kne
  · intro hne k k0 kn
    by_cases e : parQ k = i
    · rw [e]; exact hm k k0 kn e
    · by_cases e2 : k = i0
      · subst e2; exact h.b hne k0
      · exact h.a k k0 kn e e2
theorem HeapF.least {f : Nat → Qit} {n : Nat} (h : HeapF f n) : ∀ k, k < n → qle (f 0) (f k) := by
  intro k
  induction k using Nat.strongRecOn with
  | ind k ih =>
    intro kn
    by_cases e : k = 0
    · subst e; exact qle_refl _
    · have := parQ_lt (k := k) (by omega)
      exact qle_trans (ih _ this (by omega)) (h k (by omega) kn)
/-- A row's places. -/
def atQ (l : List Qit) : Nat → Qit := fun k => l[k]?.getD default
theorem atQ_get {l : List Qit} {k : Nat} (h : k < l.length) : atQ l k = l[k] := by unfold atQ; rw [List.getElem?_eq_getElem h]; rfl
def swapQ (l : List Qit) (i j : Nat) : List Qit := (l.set i (atQ l j)).set j (atQ l i)
theorem swapQ_length (l : List Qit) (i j : Nat) : (swapQ l i j).length = l.length := by unfold swapQ; rw [List.length_set, List.length_set]
theorem atQ_swap {l : List Qit} {i j : Nat} (hi : i < l.length) (hj : j < l.length) : atQ (swapQ l i j) = swF (atQ l) i j := by
  funext k
  unfold swapQ swF
  conv => lhs; unfold atQ
  rw [List.getElem?_set, List.getElem?_set, List.length_set]
  by_cases e1 : j = k
  · subst e1
    rw [if_pos rfl, if_pos hj, if_pos rfl]; rfl
  · rw [if_neg e1, if_neg (Ne.symm e1)]
    by_cases e2 : i = k
    · subst e2
      rw [if_pos rfl, if_pos hi, if_pos rfl]; rfl
    · rw [if_neg e2, if_neg (Ne.symm e2)]; rfl
theorem swapQ_perm {l : List Qit} {i j : Nat} (hi : i < l.length) (hj : j < l.length) : (swapQ l i j).Perm l := by
  have h := Array.swap_perm (xs := l.toArray) (i := i) (j := j) (by simpa using hi) (by simpa using hj)
  have h2 := h.toList
  refine List.Perm.trans ?_ h2
  rw [Array.swap_def]
  simp only [Array.toList_set]
  unfold swapQ
  rw [atQ_get hi, atQ_get hj]
  exact List.Perm.refl _
end Go.Proofs.Ytgdlcfkgdaaooaa
