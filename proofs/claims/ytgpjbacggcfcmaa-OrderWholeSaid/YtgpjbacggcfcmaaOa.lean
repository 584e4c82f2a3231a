/- Stage 12: stamps and places as a plain list; ranges of it, in order. No program, no condition. -/
import Derived.Test.YtgpjbacggcfcmaaMath
namespace Go.Proofs.Ytgpjbacggcfcmaa
open Wm

/-- Stamps, each at a place. -/
abbrev Zbl := List (Int × Int)
def getZ : Zbl → Int → Option Int
  | [], _ => none
  | (a, v) :: r, k => if a = k then some v else getZ r k
def putZ : Zbl → Int → Int → Zbl
  | [], k, v => [(k, v)]
  | (a, u) :: r, k, v => if a = k then (a, v) :: r else (a, u) :: putZ r k v
def dropZ : Zbl → Int → Zbl
  | [], _ => []
  | (a, u) :: r, k => if a = k then r else (a, u) :: dropZ r k
/-- Each stamp stands there once. -/
def OnceZ (m : Zbl) : Prop := (m.map Prod.fst).Nodup
theorem getZ_none : ∀ (m : Zbl) (k : Int), getZ m k = none ↔ k ∉ m.map Prod.fst
  | [], k => by simp [getZ]
  | (a, v) :: r, k => by
    unfold getZ
    by_cases h : a = k
    · simp [h]
    · rw [if_neg h, getZ_none r k, List.map_cons, List.mem_cons, not_or]
      exact ⟨fun x => ⟨fun e => h e.symm, x⟩, fun x => x.2⟩
theorem getZ_put : ∀ (m : Zbl) (k : Int) (v : Int) (j : Int), getZ (putZ m k v) j = if k = j then some v else getZ m j
  | [], k, v, j => rfl
  | (a, u) :: r, k, v, j => by
    unfold putZ
    by_cases h : a = k
    · rw [if_pos h]
      subst h
      unfold getZ
      by_cases e : a = j
      · rw [if_pos e, if_pos e]
      · rw [if_neg e, if_neg e, if_neg e]
    · rw [if_neg h]
      unfold getZ
      by_cases e : a = j
      · rw [if_pos e, if_pos e, if_neg (fun x => h (e.trans x.symm))]
      · rw [if_neg e, if_neg e, getZ_put r k v j]
theorem putZ_names : ∀ (m : Zbl) (k : Int) (v : Int), (putZ m k v).map Prod.fst = if (getZ m k).isSome = true then m.map Prod.fst else m.map Prod.fst ++ [k]
  | [], k, v => rfl
  | (a, u) :: r, k, v => by
    unfold putZ getZ
    by_cases h : a = k
    · rw [if_pos h, if_pos h]; rfl
    · rw [if_neg h, if_neg h]
      show a :: (putZ r k v).map Prod.fst = _
      rw [putZ_names r k v]
      split <;> rfl
theorem OnceZ.put {m : Zbl} (h : OnceZ m) (k : Int) (v : Int) : OnceZ (putZ m k v) := by
  unfold OnceZ at *
  rw [putZ_names]
  split
  · exact h
  · rename_i e
    have : getZ m k = none := by
      cases hg : getZ m k with
      | none => rfl
      | some x => rw [hg] at e; exact absurd rfl e
    have hn := (getZ_none m k).1 this
    exact List.nodup_append.2 ⟨h, by simp, fun a ha b hb => by
      rw [List.mem_singleton] at hb
      rintro rfl
      exact hn (hb ▸ ha)⟩
theorem putZ_length (m : Zbl) (k : Int) (v : Int) : (putZ m k v).length = if (getZ m k).isSome = true then m.length else m.length + 1 := by
  have := congrArg List.length (putZ_names m k v)
  rw [List.length_map] at this
  rw [this]
  split <;> simp
theorem dropZ_sub : ∀ (m : Zbl) (k : Int), ((dropZ m k).map Prod.fst).Sublist (m.map Prod.fst)
  | [], _ => List.Sublist.refl _
  | (a, u) :: r, k => by
    unfold dropZ
    by_cases h : a = k
    · rw [if_pos h]; exact List.sublist_cons_self _ _
    · rw [if_neg h]; exact (dropZ_sub r k).cons_cons a
theorem OnceZ.drop {m : Zbl} (h : OnceZ m) (k : Int) : OnceZ (dropZ m k) := List.Nodup.sublist (dropZ_sub m k) h
theorem getZ_drop : ∀ (m : Zbl), OnceZ m → ∀ (k j : Int), getZ (dropZ m k) j = if k = j then none else getZ m j
  | [], _, k, j => by unfold dropZ getZ; split <;> rfl
  | (a, u) :: r, ho, k, j => by
    have hr : OnceZ r := (List.nodup_cons.1 ho).2
    have ha : a ∉ r.map Prod.fst := (List.nodup_cons.1 ho).1
    unfold dropZ
    by_cases h : a = k
    · subst h
      rw [if_pos rfl]
      by_cases e : a = j
      · rw [if_pos e]
        subst e
        exact (getZ_none r a).2 ha
      · rw [if_neg e]
        show getZ r j = if a = j then some u else getZ r j
        rw [if_neg e]
    · rw [if_neg h]
      unfold getZ
      by_cases e : a = j
      · rw [if_pos e, if_pos e, if_neg (fun x => h (e.trans x.symm))]
      · rw [if_neg e, if_neg e, getZ_drop r hr k j]
theorem dropZ_length : ∀ (m : Zbl) (k : Int), (dropZ m k).length = if (getZ m k).isSome = true then m.length - 1 else m.length
  | [], _ => rfl
  | (a, u) :: r, k => by
    unfold dropZ getZ
    by_cases h : a = k
    · rw [if_pos h, if_pos h]
      simp
    · rw [if_neg h, if_neg h]
      show (dropZ r k).length + 1 = _
      rw [dropZ_length r k]
      by_cases e : (getZ r k).isSome = true
      · rw [if_pos e, if_pos e]
        have : r ≠ [] := fun x => by subst x; exact absurd e (by simp [getZ])
        have : 0 < r.length := List.length_pos_iff.2 this
        simp only [List.length_cons]
        omega
      · rw [if_neg e, if_neg e]; rfl
/-- In order. -/
def insZ (x : Int × Int) : Zbl → Zbl
  | [] => [x]
  | y :: r => if x.1 < y.1 then x :: y :: r else y :: insZ x r
def sortZ (m : Zbl) : Zbl := m.foldr insZ []
def Rise (m : Zbl) : Prop := m.Pairwise (fun a b => a.1 < b.1)
theorem insZ_mem (x : Int × Int) : ∀ (m : Zbl) (y : Int × Int), y ∈ insZ x m ↔ y = x ∨ y ∈ m
  | [], y => by simp [insZ]
  | a :: r, y => by
    unfold insZ
    by_cases h : x.1 < a.1
    · rw [if_pos h]; simp
    · rw [if_neg h, List.mem_cons, List.mem_cons, insZ_mem x r y]
      constructor
      · rintro (h | h | h)
        · exact .inr (.inl h)
        · exact .inl h
        · exact .inr (.inr h)
      · rintro (h | h | h)
        · exact .inr (.inl h)
        · exact .inl h
        · exact .inr (.inr h)
theorem insZ_perm (x : Int × Int) : ∀ m : Zbl, (insZ x m).Perm (x :: m)
  | [] => List.Perm.refl _
  | a :: r => by
    unfold insZ
    by_cases h : x.1 < a.1
    · rw [if_pos h]
    · rw [if_neg h]
      exact ((insZ_perm x r).cons a).trans (List.Perm.swap x a r)
theorem sortZ_perm : ∀ m : Zbl, (sortZ m).Perm m
  | [] => List.Perm.refl _
  | a :: r => (insZ_perm a (sortZ r)).trans ((sortZ_perm r).cons a)
theorem sortZ_mem (m : Zbl) (y : Int × Int) : y ∈ sortZ m ↔ y ∈ m := (sortZ_perm m).mem_iff
theorem insZ_rise (x : Int × Int) : ∀ m : Zbl, Rise m → (∀ y ∈ m, y.1 ≠ x.1) → Rise (insZ x m)
  | [], _, _ => List.pairwise_singleton _ _
  | a :: r, hr, hx => by
    have h1 := (List.pairwise_cons.1 hr).1
    have h2 := (List.pairwise_cons.1 hr).2
    have ha := hx a (List.mem_cons_self ..)
    unfold insZ
    by_cases h : x.1 < a.1
    · rw [if_pos h]
      exact List.pairwise_cons.2 ⟨fun y hy => by
        rcases List.mem_cons.1 hy with rfl | hy
        · exact h
        · exact Int.lt_trans h (h1 y hy), hr⟩
    · rw [if_neg h]
      refine List.pairwise_cons.2 ⟨fun y hy => ?_, insZ_rise x r h2 (fun y hy => hx y (List.mem_cons_of_mem _ hy))⟩
      rcases (insZ_mem x r y).1 hy with rfl | hy
      · omega
      · exact h1 y hy
theorem OnceZ.tail {a : Int × Int} {r : Zbl} (h : OnceZ (a :: r)) : OnceZ r ∧ ∀ y ∈ r, y.1 ≠ a.1 :=
  ⟨(List.nodup_cons.1 h).2, fun y hy e => (List.nodup_cons.1 h).1 (by rw [← e]; exact List.mem_map_of_mem hy)⟩
theorem sortZ_rise : ∀ m : Zbl, OnceZ m → Rise (sortZ m)
  | [], _ => List.Pairwise.nil
  | a :: r, h => insZ_rise a _ (sortZ_rise r h.tail.1) (fun y hy => h.tail.2 y ((sortZ_mem r y).1 hy))
/-- Two rising lists of the same are the same. -/
theorem rise_uniq : ∀ (l m : Zbl), Rise l → Rise m → (∀ y, y ∈ l ↔ y ∈ m) → l = m
  | [], [], _, _, _ => rfl
  | [], b :: m, _, _, h => absurd ((h b).2 (List.mem_cons_self ..)) (by simp)
  | a :: l, [], _, _, h => absurd ((h a).1 (List.mem_cons_self ..)) (by simp)
  | a :: l, b :: m, hl, hm, h => by
    have hl1 := (List.pairwise_cons.1 hl).1
    have hm1 := (List.pairwise_cons.1 hm).1
    have e : a = b := by
      rcases List.mem_cons.1 ((h a).1 (List.mem_cons_self ..)) with e | e
      · exact e
      · rcases List.mem_cons.1 ((h b).2 (List.mem_cons_self ..)) with e2 | e2
        · exact e2.symm
        · have := hm1 a e
          have := hl1 b e2
          omega
    subst e
    rw [rise_uniq l m (List.pairwise_cons.1 hl).2 (List.pairwise_cons.1 hm).2 (fun y => ?_)]
    constructor
    · intro hy
      rcases List.mem_cons.1 ((h y).1 (List.mem_cons_of_mem _ hy)) with e | e
      · subst e; exact absurd (hl1 y hy) (Int.lt_irrefl _)
      · exact e
    · intro hy
      rcases List.mem_cons.1 ((h y).2 (List.mem_cons_of_mem _ hy)) with e | e
      · subst e; exact absurd (hm1 y hy) (Int.lt_irrefl _)
      · exact e
/-- Is a stamp within the bounds of a range? -/
def keepZ (a b : Int) (p : Int × Int) : Bool := decide (a ≤ p.1) && (decide (b = 0) || decide (p.1 ≤ b))
/-- A range. -/
def rangeZ (m : Zbl) (a b : Int) (falling : Bool) : Zbl := if falling = true then (sortZ (m.filter (keepZ a b))).reverse else sortZ (m.filter (keepZ a b))
theorem OnceZ.filter {m : Zbl} (h : OnceZ m) (f : Int × Int → Bool) : OnceZ (m.filter f) := List.Nodup.sublist (List.filter_sublist.map _) h
theorem Rise.filter {m : Zbl} (h : Rise m) (f : Int × Int → Bool) : Rise (m.filter f) := List.Pairwise.sublist List.filter_sublist h
theorem sort_filter {m : Zbl} (h : OnceZ m) (f : Int × Int → Bool) : sortZ (m.filter f) = (sortZ m).filter f :=
  rise_uniq _ _ (sortZ_rise _ (h.filter f)) ((sortZ_rise _ h).filter f) (fun y => by rw [sortZ_mem, List.mem_filter, List.mem_filter, sortZ_mem])
theorem range_rise {m : Zbl} (h : OnceZ m) (a b : Int) : Rise (rangeZ m a b false) := sortZ_rise _ (h.filter _)
theorem range_all {m : Zbl} (hm : ∀ p ∈ m, -9223372036854775808 ≤ p.1) : rangeZ m (-9223372036854775808) 0 false = sortZ m := by
  unfold rangeZ
  rw [if_neg (by decide), List.filter_eq_self.2 (fun p hp => by unfold keepZ; rw [decide_eq_true (hm p hp)]; rfl)]
theorem range_within {m : Zbl} (h : OnceZ m) (a b : Int) : rangeZ m a b false = (sortZ m).filter (keepZ a b) := by
  unfold rangeZ
  rw [if_neg (by decide), sort_filter h]
theorem range_back (m : Zbl) (a b : Int) : rangeZ m a b true = (rangeZ m a b false).reverse := by
  unfold rangeZ
  rw [if_pos rfl, if_neg (by decide)]
theorem rise_append : ∀ (l r : Zbl), Rise l → Rise r → (∀ x ∈ l, ∀ y ∈ r, x.1 < y.1) → Rise (l ++ r) := fun _ _ hl hr h => List.pairwise_append.2 ⟨hl, hr, h⟩
/-- Two ranges, one behind the other, are the whole one. -/
theorem range_parts {m : Zbl} (h : OnceZ m) (a mid b : Int) (h0 : mid ≠ 0) (h1 : mid + 1 ≠ 0) (ha : a ≤ mid) (hb : b = 0 ∨ mid < b) : rangeZ m a b false = rangeZ m a mid false ++ rangeZ m (mid + 1) b false := by
  rw [range_within h, range_within h, range_within h]
  have hs := sortZ_rise m h
  refine rise_uniq _ _ (hs.filter _) (rise_append _ _ (hs.filter _) (hs.filter _) (fun x hx y hy => ?_)) (fun y => ?_)
  · have hx := (List.mem_filter.1 hx).2
    have hy := (List.mem_filter.1 hy).2
    unfold keepZ at hx hy
    rw [Bool.and_eq_true, Bool.or_eq_true, decide_eq_true_iff, decide_eq_true_iff, decide_eq_true_iff] at hx hy
    omega
  · rw [List.mem_append, List.mem_filter, List.mem_filter, List.mem_filter]
    unfold keepZ
    simp only [Bool.and_eq_true, Bool.or_eq_true, decide_eq_true_iff]
    constructor
    · rintro ⟨c1, c2, c3⟩
      by_cases hc : y.1 ≤ mid
      · exact .inl ⟨c1, c2, .inr hc⟩
      · exact .inr ⟨c1, by omega, c3⟩
    · rintro (⟨c1, c2, c3⟩ | ⟨c1, c2, c3⟩)
      · exact ⟨c1, c2, by omega⟩
      · exact ⟨c1, by omega, c3⟩
/-- The greatest stamp, or 0. -/
def lastZ (m : Zbl) : Int := match (sortZ m).getLast? with | some p => p.1 | none => 0
end Go.Proofs.Ytgpjbacggcfcmaa
