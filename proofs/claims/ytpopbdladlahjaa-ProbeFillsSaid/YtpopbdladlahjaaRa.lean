/- Stage 11: names and places as a plain list. No program, no condition. -/
import Derived.Test.YtpopbdladlahjaaMath
import Derived.Test.YtpopbdladlahjaaRv
namespace Go.Proofs.Ytpopbdladlahjaa
open Wm

/-- Names, each at a place. -/
abbrev Tbl := List (Nat × Int)
def getT : Tbl → Nat → Option Int
  | [], _ => none
  | (a, v) :: r, k => if a = k then some v else getT r k
def putT : Tbl → Nat → Int → Tbl
  | [], k, v => [(k, v)]
  | (a, u) :: r, k, v => if a = k then (a, v) :: r else (a, u) :: putT r k v
def dropT : Tbl → Nat → Tbl
  | [], _ => []
  | (a, u) :: r, k => if a = k then r else (a, u) :: dropT r k
/-- Each name stands there once. -/
def OnceT (m : Tbl) : Prop := (m.map Prod.fst).Nodup
theorem getT_none : ∀ (m : Tbl) (k : Nat), getT m k = none ↔ k ∉ m.map Prod.fst
  | [], k => by simp [getT]
  | (a, v) :: r, k => by
    unfold getT
    by_cases h : a = k
    · simp [h]
    · rw [if_neg h, getT_none r k, List.map_cons, List.mem_cons, not_or]
      exact ⟨fun x => ⟨fun e => h e.symm, x⟩, fun x => x.2⟩
theorem getT_put : ∀ (m : Tbl) (k : Nat) (v : Int) (j : Nat), getT (putT m k v) j = if k = j then some v else getT m j
  | [], k, v, j => rfl
  | (a, u) :: r, k, v, j => by
    unfold putT
    by_cases h : a = k
    · rw [if_pos h]
      subst h
      unfold getT
      by_cases e : a = j
      · rw [if_pos e, if_pos e]
      · rw [if_neg e, if_neg e, if_neg e]
    · rw [if_neg h]
      unfold getT
      by_cases e : a = j
      · rw [if_pos e, if_pos e, if_neg (fun x => h (e.trans x.symm))]
      · rw [if_neg e, if_neg e, getT_put r k v j]
theorem putT_names : ∀ (m : Tbl) (k : Nat) (v : Int), (putT m k v).map Prod.fst = if (getT m k).isSome = true then m.map Prod.fst else m.map Prod.fst ++ [k]
  | [], k, v => rfl
  | (a, u) :: r, k, v => by
    unfold putT getT
    by_cases h : a = k
    · rw [if_pos h, if_pos h]; rfl
    · rw [if_neg h, if_neg h]
      show a :: (putT r k v).map Prod.fst = _
      rw [putT_names r k v]
      split <;> rfl
theorem OnceT.put {m : Tbl} (h : OnceT m) (k : Nat) (v : Int) : OnceT (putT m k v) := by
  unfold OnceT at *
  rw [putT_names]
  split
  · exact h
  · rename_i e
    have : getT m k = none := by
      cases hg : getT m k with
      | none => rfl
      | some x => rw [hg] at e; exact absurd rfl e
    have hn := (getT_none m k).1 this
    exact List.nodup_append.2 ⟨h, by simp, fun a ha b hb => by
      rw [List.mem_singleton] at hb
      rintro rfl
      exact hn (hb ▸ ha)⟩
theorem putT_length (m : Tbl) (k : Nat) (v : Int) : (putT m k v).length = if (getT m k).isSome = true then m.length else m.length + 1 := by
  have := congrArg List.length (putT_names m k v)
  rw [List.length_map] at this
  rw [this]
  split <;> simp
theorem dropT_sub : ∀ (m : Tbl) (k : Nat), ((dropT m k).map Prod.fst).Sublist (m.map Prod.fst)
  | [], _ => List.Sublist.refl _
  | (a, u) :: r, k => by
    unfold dropT
    by_cases h : a = k
    · rw [if_pos h]; exact List.sublist_cons_self _ _
    · rw [if_neg h]; exact (dropT_sub r k).cons_cons a
theorem OnceT.drop {m : Tbl} (h : OnceT m) (k : Nat) : OnceT (dropT m k) := List.Nodup.sublist (dropT_sub m k) h
theorem getT_drop : ∀ (m : Tbl), OnceT m → ∀ (k j : Nat), getT (dropT m k) j = if k = j then none else getT m j
  | [], _, k, j => by unfold dropT getT; split <;> rfl
  | (a, u) :: r, ho, k, j => by
    have hr : OnceT r := (List.nodup_cons.1 ho).2
    have ha : a ∉ r.map Prod.fst := (List.nodup_cons.1 ho).1
    unfold dropT
    by_cases h : a = k
    · subst h
      rw [if_pos rfl]
      by_cases e : a = j
      · rw [if_pos e]
        subst e
        exact (getT_none r a).2 ha
      · rw [if_neg e]
        show getT r j = if a = j then some u else getT r j
        rw [if_neg e]
    · rw [if_neg h]
      unfold getT
      by_cases e : a = j
      · rw [if_pos e, if_pos e, if_neg (fun x => h (e.trans x.symm))]
      · rw [if_neg e, if_neg e, getT_drop r hr k j]
theorem dropT_length : ∀ (m : Tbl) (k : Nat), (dropT m k).length = if (getT m k).isSome = true then m.length - 1 else m.length
  | [], _ => rfl
  | (a, u) :: r, k => by
    unfold dropT getT
    by_cases h : a = k
    · rw [if_pos h, if_pos h]
      simp
    · rw [if_neg h, if_neg h]
      show (dropT r k).length + 1 = _
      rw [dropT_length r k]
      by_cases e : (getT r k).isSome = true
      · rw [if_pos e, if_pos e]
        have : r ≠ [] := fun x => by subst x; exact absurd e (by simp [getT])
        have : 0 < r.length := List.length_pos_iff.2 this
        simp only [List.length_cons]
        omega
      · rw [if_neg e, if_neg e]; rfl
/-- What a call of a script makes of it. -/
def callT (m : Tbl) (c : Pcall) : Tbl := if c.Kind = 0 then putT m c.Key c.At else if c.Kind = 1 then dropT m c.Key else m
def runT (l : List Pcall) : Tbl := l.foldl callT []
theorem runT_snoc (l : List Pcall) (c : Pcall) : runT (l ++ [c]) = callT (runT l) c := by
  unfold runT
  rw [List.foldl_append]; rfl
theorem OnceT.call {m : Tbl} (h : OnceT m) (c : Pcall) : OnceT (callT m c) := by
  unfold callT
  split
  · exact h.put _ _
  · split
    · exact h.drop _
    · exact h
theorem getT_call {m : Tbl} (ho : OnceT m) (c : Pcall) (j : Nat) : getT (callT m c) j = if c.Key = j then (if c.Kind = 0 then some c.At else if c.Kind = 1 then none else getT m j) else getT m j := by
  unfold callT
  by_cases h0 : c.Kind = 0
  · rw [if_pos h0, getT_put, if_pos h0]
  · rw [if_neg h0, if_neg h0]
    by_cases h1 : c.Kind = 1
    · rw [if_pos h1, getT_drop m ho, if_pos h1]
    · rw [if_neg h1, if_neg h1]
      split <;> rfl
theorem callT_length (m : Tbl) (c : Pcall) : (callT m c).length ≤ m.length + 1 := by
  unfold callT
  split
  · rw [putT_length]; split <;> omega
  · split
    · rw [dropT_length]; split <;> omega
    · omega
theorem run_once (l : List Pcall) : ∀ m : Tbl, OnceT m → OnceT (l.foldl callT m) := by
  induction l with
  | nil => intro m h; exact h
  | cons c r ih => intro m h; exact ih _ (h.call c)
theorem run_length (l : List Pcall) : ∀ m : Tbl, (l.foldl callT m).length ≤ m.length + l.length := by
  induction l with
  | nil => intro m; simp
  | cons c r ih =>
    intro m
    have h1 := ih (callT m c)
    have h2 := callT_length m c
    simp only [List.foldl_cons, List.length_cons]
    omega
theorem runT_once (l : List Pcall) : OnceT (runT l) := run_once l [] List.nodup_nil
theorem runT_length (l : List Pcall) : (runT l).length ≤ l.length := by
  have := run_length l []
  simpa [runT] using this
end Go.Proofs.Ytpopbdladlahjaa
