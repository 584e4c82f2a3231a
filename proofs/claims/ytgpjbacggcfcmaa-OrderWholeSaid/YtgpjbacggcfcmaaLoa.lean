/- Stage 12, landed: places among stamps in order, plain; a list in memory; the search for a place. No condition but sizes. -/
import Derived.Test.YtgpjbacggcfcmaaOi
import Derived.Test.YtgpjbacggcfcmaaIdx
import Derived.Shelf.Abstract
import Derived.Deep.LoopGhost
import Derived.Deep.QuietTactic
namespace Go.Proofs.Ytgpjbacggcfcmaa
open Go.RowKit Wm

/-- How many stamps are below a number, and how many aren't above it. -/
def lowZ (s : Zbl) (k : Int) : Nat := (s.takeWhile (fun x => decide (x.1 < k))).length
def highZ (s : Zbl) (k : Int) : Nat := (s.takeWhile (fun x => decide (x.1 ≤ k))).length
theorem takeWhile_spot {f : Int × Int → Bool} : ∀ (s : Zbl), Rise s → (∀ a b : Int × Int, a.1 < b.1 → f b = true → f a = true) → ∀ i (h : i < s.length), f s[i] = decide (i < (s.takeWhile f).length)
  | [], _, _, i, h => by simp at h
  | x :: r, hr, hf, i, h => by
    have h1 := (List.pairwise_cons.1 hr).1
    have h2 := (List.pairwise_cons.1 hr).2
    rw [List.takeWhile_cons]
    cases e : f x with
    | true =>
      rw [if_pos rfl]
      cases i with
      | zero => simp [e]
      | succ i =>
        have := takeWhile_spot r h2 hf i (by simpa using h)
        rw [List.getElem_cons_succ, this]
        simp
    | false =>
      rw [if_neg (by simp)]
      cases i with
      | zero => simp [e]
      | succ i =>
        rw [List.getElem_cons_succ]
        have hi : i < r.length := by simpa using h
        have hx := h1 _ (List.getElem_mem hi)
        cases e2 : f r[i] with
        | true => have := hf _ _ hx e2; rw [e] at this; cases this
        | false => simp
theorem lowZ_spot {s : Zbl} (hs : Rise s) (k : Int) (i : Nat) (h : i < s.length) : decide (k ≤ (s[i]).1) = decide (lowZ s k ≤ i) := by
  have := takeWhile_spot (f := fun x => decide (x.1 < k)) s hs (fun a b hab hb => by simp at *; omega) i h
  unfold lowZ
  have h2 := decide_eq_decide.1 this
  exact decide_eq_decide.2 (by omega)
theorem highZ_spot {s : Zbl} (hs : Rise s) (k : Int) (i : Nat) (h : i < s.length) : decide (k < (s[i]).1) = decide (highZ s k ≤ i) := by
  have := takeWhile_spot (f := fun x => decide (x.1 ≤ k)) s hs (fun a b hab hb => by simp at *; omega) i h
  unfold highZ
  have h2 := decide_eq_decide.1 this
  exact decide_eq_decide.2 (by omega)
theorem lowZ_le (s : Zbl) (k : Int) : lowZ s k ≤ s.length := (List.takeWhile_sublist _).length_le
theorem highZ_le (s : Zbl) (k : Int) : highZ s k ≤ s.length := (List.takeWhile_sublist _).length_le
theorem sortZ_length (m : Zbl) : (sortZ m).length = m.length := (sortZ_perm m).length_eq
theorem OnceZ.mem {m : Zbl} (h : OnceZ m) (y : Int × Int) : y ∈ m ↔ getZ m y.1 = some y.2 := by
  induction m with
  | nil => simp [getZ]
  | cons x r ih =>
    have h2 := h.tail
    unfold getZ
    by_cases e : x.1 = y.1
    · rw [if_pos e]
      constructor
      · intro hy
        rcases List.mem_cons.1 hy with rfl | hy
        · rfl
        · exact absurd e.symm (h2.2 y hy)
      · intro hy
        injection hy with hy
        exact List.mem_cons.2 (.inl (Prod.ext e.symm hy.symm))
    · rw [if_neg e, ← ih h2.1, List.mem_cons]
      exact ⟨fun hy => hy.resolve_left (fun x => e (by rw [x])), .inr⟩
/-- A stamp's own place. -/
theorem sort_at {m : Zbl} (h : OnceZ m) (k : Int) : (∃ v, getZ m k = some v ∧ ∃ hi : lowZ (sortZ m) k < (sortZ m).length, (sortZ m)[lowZ (sortZ m) k] = (k, v)) ∨
    (getZ m k = none ∧ ∀ hi : lowZ (sortZ m) k < (sortZ m).length, ((sortZ m)[lowZ (sortZ m) k]).1 ≠ k) := by
  have hr := sortZ_rise m h
  cases hg : getZ m k with
  | some v =>
    left
    refine ⟨v, rfl, ?_⟩
    have hm : (k, v) ∈ sortZ m := (sortZ_mem m _).2 ((h.mem _).2 hg)
    obtain ⟨i, hi, e⟩ := List.getElem_of_mem hm
    have h1 := lowZ_spot hr k i hi
    rw [e] at h1
    have h2 : lowZ (sortZ m) k ≤ i := by simpa using h1
    have h3 : ¬ lowZ (sortZ m) k < i := fun hlt => by
      have h4 := lowZ_spot hr k (lowZ (sortZ m) k) (by omega)
      have h5 : k ≤ ((sortZ m)[lowZ (sortZ m) k]).1 := by simpa using h4
      have h6 := List.pairwise_iff_getElem.1 hr (lowZ (sortZ m) k) i (by omega) hi hlt
      rw [e] at h6
      omega
    have h7 : i = lowZ (sortZ m) k := by omega
    subst h7
    exact ⟨hi, e⟩
  | none =>
    right
    refine ⟨rfl, fun hi e => ?_⟩
    have hm : ((sortZ m)[lowZ (sortZ m) k]) ∈ m := (sortZ_mem m _).1 (List.getElem_mem hi)
    have := (h.mem _).1 hm
    rw [e, hg] at this
    cases this
theorem sort_put_here {m : Zbl} (h : OnceZ m) {k v u : Int} (hi : lowZ (sortZ m) k < (sortZ m).length) (he : (sortZ m)[lowZ (sortZ m) k] = (k, u)) : sortZ (putZ m k v) = (sortZ m).set (lowZ (sortZ m) k) (k, v) := by
  have hr := sortZ_rise m h
  have hr2 : Rise ((sortZ m).set (lowZ (sortZ m) k) (k, v)) := by
    refine List.pairwise_iff_getElem.2 (fun i j hi' hj' hij => ?_)
    rw [List.length_set] at hi' hj'
    have h6 := List.pairwise_iff_getElem.1 hr i j hi' hj' hij
    rw [List.getElem_set, List.getElem_set]
    split <;> split
    · omega
    · rename_i e1 e2; subst e1; rw [he] at h6; exact h6
    · rename_i e1 e2; subst e2; rw [he] at h6; exact h6
    · exact h6
  refine rise_uniq _ _ (sortZ_rise _ (h.put k v)) hr2 (fun y => ?_)
  rw [sortZ_mem, (h.put k v).mem, getZ_put]
  constructor
  · intro hy
    split at hy
    · rename_i e
      injection hy with hy
      rw [List.mem_iff_getElem]
      refine ⟨lowZ (sortZ m) k, by rw [List.length_set]; exact hi, ?_⟩
      rw [List.getElem_set_self]
      exact Prod.ext e hy
    · rename_i e
      have hm : y ∈ sortZ m := (sortZ_mem m _).2 ((h.mem _).2 hy)
      obtain ⟨i, hi', e'⟩ := List.getElem_of_mem hm
      rw [List.mem_iff_getElem]
      refine ⟨i, by rw [List.length_set]; exact hi', ?_⟩
      rw [List.getElem_set_ne (fun e2 => by subst e2; rw [he] at e'; subst e'; exact e rfl)]
      exact e'
  · intro hy
    obtain ⟨i, hi', e'⟩ := List.getElem_of_mem hy
    rw [List.length_set] at hi'
    rw [List.getElem_set] at e'
    split at e'
    · subst e'; rw [if_pos rfl]
    · rename_i e1
      have hy1 : y.1 ≠ k := fun e2 => by
        rcases Nat.lt_or_ge i (lowZ (sortZ m) k) with hlt | hge
        · have h6 := List.pairwise_iff_getElem.1 hr i _ hi' hi hlt
          rw [he, e'] at h6; exact absurd e2 (by dsimp only at h6; omega)
        · have h6 := List.pairwise_iff_getElem.1 hr _ i hi hi' (by omega)
          rw [he, e'] at h6; exact absurd e2 (by dsimp only at h6; omega)
      rw [if_neg (fun x => hy1 x.symm), ← h.mem, ← sortZ_mem, ← e']
      exact List.getElem_mem _
theorem sort_put_new {m : Zbl} (h : OnceZ m) {k v : Int} (hg : getZ m k = none) : sortZ (putZ m k v) = (sortZ m).take (lowZ (sortZ m) k) ++ (k, v) :: (sortZ m).drop (lowZ (sortZ m) k) := by
  have hr := sortZ_rise m h
  have hlow : ∀ y ∈ (sortZ m).take (lowZ (sortZ m) k), y.1 < k := fun y hy => by
    obtain ⟨i, hi, e⟩ := List.getElem_of_mem hy
    rw [List.length_take] at hi
    rw [List.getElem_take] at e
    have := decide_eq_decide.1 (lowZ_spot hr k i (by omega))
    rw [e] at this
    omega
  have hhigh : ∀ y ∈ (sortZ m).drop (lowZ (sortZ m) k), k < y.1 := fun y hy => by
    have hm : y ∈ m := (sortZ_mem m _).1 (List.mem_of_mem_drop hy)
    obtain ⟨i, hi, e⟩ := List.getElem_of_mem hy
    rw [List.length_drop] at hi
    rw [List.getElem_drop] at e
    have := decide_eq_decide.1 (lowZ_spot hr k (lowZ (sortZ m) k + i) (by omega))
    rw [e] at this
    have hne : y.1 ≠ k := fun e2 => by
      have := (h.mem _).1 hm
      rw [e2, hg] at this
      cases this
    omega
  have hr2 : Rise ((sortZ m).take (lowZ (sortZ m) k) ++ (k, v) :: (sortZ m).drop (lowZ (sortZ m) k)) :=
    rise_append _ _ (List.Pairwise.sublist (List.take_sublist _ _) hr) (List.pairwise_cons.2 ⟨fun y hy => hhigh y hy, List.Pairwise.sublist (List.drop_sublist _ _) hr⟩) (fun x hx y hy => by
      have h1 := hlow x hx
      rcases List.mem_cons.1 hy with rfl | hy
      · exact h1
      · have := hhigh y hy; omega)
  refine rise_uniq _ _ (sortZ_rise _ (h.put k v)) hr2 (fun y => ?_)
  rw [sortZ_mem, (h.put k v).mem, getZ_put]
  have hsplit : y ∈ m ↔ y ∈ (sortZ m).take (lowZ (sortZ m) k) ∨ y ∈ (sortZ m).drop (lowZ (sortZ m) k) := by
    rw [← sortZ_mem m y, ← List.mem_append, List.take_append_drop]
  rw [List.mem_append, List.mem_cons]
  constructor
  · intro hy
    split at hy
    · rename_i e
      injection hy with hy
      exact .inr (.inl (Prod.ext e.symm hy.symm))
    · rcases hsplit.1 ((h.mem _).2 hy) with h1 | h1
      · exact .inl h1
      · exact .inr (.inr h1)
  · rintro (hy | rfl | hy)
    · have h1 := hlow y hy
      rw [if_neg (by omega)]
      exact (h.mem _).1 (hsplit.2 (.inl hy))
    · rw [if_pos rfl]
    · have h1 := hhigh y hy
      rw [if_neg (by omega)]
      exact (h.mem _).1 (hsplit.2 (.inr hy))
theorem sort_drop {m : Zbl} (h : OnceZ m) {k u : Int} (hi : lowZ (sortZ m) k < (sortZ m).length) (he : (sortZ m)[lowZ (sortZ m) k] = (k, u)) : sortZ (dropZ m k) = (sortZ m).take (lowZ (sortZ m) k) ++ (sortZ m).drop (lowZ (sortZ m) k + 1) := by
  have hr := sortZ_rise m h
  have hsub : ((sortZ m).take (lowZ (sortZ m) k) ++ (sortZ m).drop (lowZ (sortZ m) k + 1)).Sublist (sortZ m) := by
    have h1 : ((sortZ m).drop (lowZ (sortZ m) k + 1)).Sublist ((sortZ m).drop (lowZ (sortZ m) k)) := by
      rw [← List.drop_drop]
      exact List.drop_sublist _ _
    have h2 := (List.Sublist.refl ((sortZ m).take (lowZ (sortZ m) k))).append h1
    rwa [List.take_append_drop] at h2
  have hall : sortZ m = (sortZ m).take (lowZ (sortZ m) k) ++ (k, u) :: (sortZ m).drop (lowZ (sortZ m) k + 1) := by
    rw [← he]
    rw [← List.drop_eq_getElem_cons hi, List.take_append_drop]
  refine rise_uniq _ _ (sortZ_rise _ (h.drop k)) (List.Pairwise.sublist hsub hr) (fun y => ?_)
  rw [sortZ_mem, (h.drop k).mem, getZ_drop m h]
  have hne : ∀ y ∈ (sortZ m).take (lowZ (sortZ m) k) ++ (sortZ m).drop (lowZ (sortZ m) k + 1), y.1 ≠ k := by
    have hp := hr
    rw [hall] at hp
    obtain ⟨h1, h2, h3⟩ := List.pairwise_append.1 hp
    intro y hy e
    rcases List.mem_append.1 hy with hy | hy
    · have := h3 y hy (k, u) (List.mem_cons_self ..)
      dsimp only at this
      omega
    · have := (List.pairwise_cons.1 h2).1 y hy
      dsimp only at this
      omega
  constructor
  · intro hy
    split at hy
    · cases hy
    · rename_i e
      have hm : y ∈ sortZ m := (sortZ_mem m _).2 ((h.mem _).2 hy)
      rw [hall] at hm
      rcases List.mem_append.1 hm with hm | hm
      · exact List.mem_append.2 (.inl hm)
      · rcases List.mem_cons.1 hm with rfl | hm
        · exact absurd rfl e
        · exact List.mem_append.2 (.inr hm)
  · intro hy
    rw [if_neg (fun e => hne y hy e.symm), ← h.mem, ← sortZ_mem]
    exact hsub.subset hy
/-- Where a range begins and ends. -/
theorem range_spot {m : Zbl} (h : OnceZ m) (a b : Int) : rangeZ m a b false = ((sortZ m).take (if b = 0 then (sortZ m).length else highZ (sortZ m) b)).drop (lowZ (sortZ m) a) := by
  have hr := sortZ_rise m h
  rw [range_within h]
  refine rise_uniq _ _ (hr.filter _) (List.Pairwise.sublist ((List.drop_sublist _ _).trans (List.take_sublist _ _)) hr) (fun y => ?_)
  rw [List.mem_filter]
  unfold keepZ
  rw [Bool.and_eq_true, Bool.or_eq_true, decide_eq_true_iff, decide_eq_true_iff, decide_eq_true_iff, List.mem_drop_iff_getElem]
  constructor
  · rintro ⟨hy, h1, h2⟩
    obtain ⟨i, hi, e⟩ := List.getElem_of_mem hy
    have k1 := decide_eq_decide.1 (lowZ_spot hr a i hi)
    rw [e] at k1
    have hlen : i < (if b = 0 then (sortZ m).length else highZ (sortZ m) b) := by
      split
      · exact hi
      · have k2 := decide_eq_decide.1 (highZ_spot hr b i hi)
        rw [e] at k2
        omega
    refine ⟨i - lowZ (sortZ m) a, ?_, ?_⟩
    · rw [List.length_take]; omega
    · rw [List.getElem_take]
      have : lowZ (sortZ m) a + (i - lowZ (sortZ m) a) = i := by omega
      simp only [this]
      exact e
  · rintro ⟨i, hi, e⟩
    rw [List.length_take] at hi
    rw [List.getElem_take] at e
    have hi2 : lowZ (sortZ m) a + i < (sortZ m).length := by omega
    have k1 := decide_eq_decide.1 (lowZ_spot hr a _ hi2)
    rw [e] at k1
    refine ⟨by rw [← e]; exact List.getElem_mem _, by omega, ?_⟩
    by_cases hb : b = 0
    · exact .inl hb
    · right
      rw [if_neg hb] at hi
      have k2 := decide_eq_decide.1 (highZ_spot hr b _ hi2)
      rw [e] at k2
      omega
end Go.Proofs.Ytgpjbacggcfcmaa
