/- Stage 13: queues of the same items; one popped; items laid out by their number. Plain. No condition. -/
import Derived.Test.YtgdlcfkgdaaooaaPqp
namespace Go.Proofs.Ytgdlcfkgdaaooaa
open Wm

/-- The same items. -/
def SameQ (m n : List Qit) : Prop := ∀ x, x ∈ m ↔ x ∈ n
theorem SameQ.best {m n : List Qit} (h : SameQ m n) (hm : OnceQ m) (hn : OnceQ n) : bestQ m = bestQ n := by
  cases hb : bestQ m with
  | none =>
    have := bestQ_none m hb
    subst this
    cases n with
    | nil => rfl
    | cons a r => exact absurd ((h a).2 (by simp)) (by simp)
  | some x =>
    obtain ⟨h1, h2⟩ := bestQ_some m x hb
    exact (bestQ_is hn ((h x).1 h1) (fun y hy => h2 y ((h y).2 hy))).symm
theorem SameQ.drop {m n : List Qit} (h : SameQ m n) (s : Int) : SameQ (dropQ m s) (dropQ n s) := fun x => by
  unfold dropQ
  rw [List.mem_filter, List.mem_filter, h x]
theorem SameQ.pop {m n : List Qit} (h : SameQ m n) (hm : OnceQ m) (hn : OnceQ n) (now : Int) : popR m now = popR n now ∧ SameQ (popQ m now) (popQ n now) := by
  have hb := h.best hm hn
  have hr : popR m now = popR n now := by unfold popR; rw [hb]
  refine ⟨hr, ?_⟩
  unfold popQ
  rw [hr]
  split
  · exact h.drop _
  · exact h
theorem mem_dropQ {m : List Qit} {s : Int} {x : Qit} : x ∈ dropQ m s ↔ x ∈ m ∧ x.Stamp ≠ s := by
  unfold dropQ
  rw [List.mem_filter, Bool.not_eq_true', beq_eq_false_iff_ne]
theorem dropQ_length {m : List Qit} (h : OnceQ m) {x : Qit} (hx : x ∈ m) : (dropQ m x.Stamp).length + 1 = m.length := by
  obtain ⟨A, B, rfl⟩ := List.append_of_mem hx
  have hA : x.Stamp ∉ A.map Qit.Stamp := by
    unfold OnceQ at h
    rw [List.map_append, List.nodup_append] at h
    exact fun e => h.2.2 _ e _ (by simp) rfl
  have hB : x.Stamp ∉ B.map Qit.Stamp := by
    unfold OnceQ at h
    rw [List.map_append, List.map_cons, List.nodup_append, List.nodup_cons] at h
    exact h.2.1.1
  rw [dropQ_app, show x :: B = [x] ++ B from rfl, dropQ_app, dropQ_one, dropQ_not hA, dropQ_not hB]
  simp only [List.length_append, List.length_cons, List.length_nil]
  omega
theorem popR_some {m : List Qit} {now : Int} {x : Qit} (h : popR m now = some x) : x ∈ m ∧ (∀ y ∈ m, qle x y) ∧ x.Due ≤ now := by
  unfold popR at h
  cases hb : bestQ m with
  | none => rw [hb] at h; cases h
  | some y =>
    rw [hb] at h
    dsimp only at h
    split at h
    · rename_i e
      cases h
      obtain ⟨h1, h2⟩ := bestQ_some m _ hb
      exact ⟨h1, h2, e⟩
    · cases h
theorem popR_none {m : List Qit} {now : Int} (h : popR m now = none) : ∀ y ∈ m, now < y.Due := by
  unfold popR at h
  cases hb : bestQ m with
  | none => rw [bestQ_none m hb]; intro y hy; simp at hy
  | some x =>
    rw [hb] at h
    dsimp only at h
    split at h
    · cases h
    · rename_i e
      intro y hy
      have := (bestQ_some m x hb).2 y hy
      rw [qle_iff] at this
      omega
theorem popQ_some {m : List Qit} {now : Int} {x : Qit} (h : popR m now = some x) : popQ m now = dropQ m x.Stamp := by unfold popQ; rw [h]
theorem popQ_none {m : List Qit} {now : Int} (h : popR m now = none) : popQ m now = m := by unfold popQ; rw [h]
/-- Items by their number. -/
def numQ (d : Nat → Int) (l : List Nat) : List Qit := l.map fun j => ⟨d j, j, 0⟩
theorem mem_numQ {d : Nat → Int} {l : List Nat} {x : Qit} : x ∈ numQ d l ↔ ∃ j ∈ l, x = ⟨d j, j, 0⟩ := by
  unfold numQ
  rw [List.mem_map]
  constructor
  · rintro ⟨j, hj, rfl⟩; exact ⟨j, hj, rfl⟩
  · rintro ⟨j, hj, rfl⟩; exact ⟨j, hj, rfl⟩
theorem numQ_new {d : Nat → Int} {l : List Nat} {j : Nat} (h : j ∉ l) : ((⟨d j, j, 0⟩ : Qit)).Stamp ∉ (numQ d l).map Qit.Stamp := by
  intro hm
  obtain ⟨x, hx, e⟩ := List.mem_map.1 hm
  obtain ⟨i, hi, rfl⟩ := mem_numQ.1 hx
  have : i = j := Int.ofNat.inj e
  exact h (this ▸ hi)
theorem numQ_snoc (d : Nat → Int) (l : List Nat) (j : Nat) : numQ d l ++ [⟨d j, j, 0⟩] = numQ d (l ++ [j]) := by unfold numQ; simp
theorem numQ_length (d : Nat → Int) (l : List Nat) : (numQ d l).length = l.length := by unfold numQ; simp
theorem once_numQ {d : Nat → Int} {l : List Nat} (h : l.Nodup) : OnceQ (numQ d l) := by
  unfold OnceQ numQ
  rw [List.map_map]
  exact List.pairwise_map.2 (List.Pairwise.imp (fun hne e => hne (Int.ofNat.inj e)) h)
/-- The numbers, turned about by k. -/
def turnL (n k i : Nat) : List Nat := (List.range i).map fun t => (t + k) % n
theorem turnL_new {n k i : Nat} (hi : i < n) : (i + k) % n ∉ turnL n k i := by
  unfold turnL
  intro h
  obtain ⟨t, ht, e⟩ := List.mem_map.1 h
  rw [List.mem_range] at ht
  have h1 : (i + k) % n = (t + k) % n := e.symm
  have h2 := Nat.sub_mod_eq_zero_of_mod_eq h1
  have h3 : i + k - (t + k) = i - t := by omega
  rw [h3, Nat.mod_eq_of_lt (by omega)] at h2
  omega
theorem turnL_snoc (n k i : Nat) : turnL n k i ++ [(i + k) % n] = turnL n k (i + 1) := by unfold turnL; rw [List.range_succ]; simp
theorem turnL_length (n k i : Nat) : (turnL n k i).length = i := by unfold turnL; simp
theorem turnL_all {n k : Nat} (hk : k < n) (j : Nat) : j ∈ turnL n k n ↔ j ∈ List.range n := by
  unfold turnL
  rw [List.mem_map, List.mem_range]
  constructor
  · rintro ⟨t, _, rfl⟩; exact Nat.mod_lt _ (by omega)
  · intro hj
    by_cases e : k ≤ j
    · refine ⟨j - k, by rw [List.mem_range]; omega, ?_⟩
      rw [show j - k + k = j by omega, Nat.mod_eq_of_lt hj]
    · refine ⟨j + n - k, by rw [List.mem_range]; omega, ?_⟩
      rw [show j + n - k + k = j + n by omega, Nat.add_mod_right, Nat.mod_eq_of_lt hj]
theorem same_turn (d : Nat → Int) {n k : Nat} (hk : k < n) : SameQ (numQ d (List.range n)) (numQ d (turnL n k n)) := fun x => by
  rw [mem_numQ, mem_numQ]
  constructor
  · rintro ⟨j, hj, e⟩; exact ⟨j, (turnL_all hk j).2 hj, e⟩
  · rintro ⟨j, hj, e⟩; exact ⟨j, (turnL_all hk j).1 hj, e⟩
/-- What is left, while one after the other pops: each by its number, not seen yet, none ahead of the last. -/
structure LeftQ (d : Nat → Int) (n i : Nat) (m : List Qit) (seen : List Bool) (last : Qit) : Prop where
  len : m.length + i = n
  num : ∀ x ∈ m, ∃ s : Nat, s < n ∧ x = ⟨d s, s, 0⟩ ∧ seen[s]? = some false
  ahead : 0 < i → ∀ x ∈ m, qle last x
  sl : seen.length = n
theorem LeftQ.start (d : Nat → Int) (n : Nat) (last : Qit) : LeftQ d n 0 (numQ d (List.range n)) (List.replicate n false) last where
  len := by rw [numQ_length, List.length_range]; rfl
  num := fun x hx => by
    obtain ⟨j, hj, rfl⟩ := mem_numQ.1 hx
    rw [List.mem_range] at hj
    exact ⟨j, hj, rfl, by rw [List.getElem?_replicate, if_pos hj]⟩
  ahead := fun h => absurd h (Nat.lt_irrefl 0)
  sl := by simp
theorem LeftQ.next {d : Nat → Int} {n i : Nat} {m : List Qit} {seen : List Bool} {last x : Qit} (h : LeftQ d n i m seen last) (ho : OnceQ m) (hx : x ∈ m) (hl : ∀ y ∈ m, qle x y) {s : Nat} (hs : x = ⟨d s, s, 0⟩) :
    LeftQ d n (i + 1) (dropQ m x.Stamp) (seen.set s true) x where
  len := by have := dropQ_length ho hx; have := h.len; omega
  num := fun y hy => by
    obtain ⟨h1, h2⟩ := mem_dropQ.1 hy
    obtain ⟨t, ht, rfl, e⟩ := h.num y h1
    refine ⟨t, ht, rfl, ?_⟩
    rw [List.getElem?_set_ne (fun e => h2 (by rw [hs, e])), e]
  ahead := fun _ y hy => hl y (mem_dropQ.1 hy).1
  sl := by rw [List.length_set]; exact h.sl
end Go.Proofs.Ytgdlcfkgdaaooaa
