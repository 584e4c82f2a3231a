/- A region that draws its order, reads first: one of two that may come up comes up. Plain: over whatever program. -/
import Derived.Test.YtdphflbgecnhkaaDoorZNeed
namespace Go.Proofs.YtdphflbgecnhkaaDoor
open Go

section
variable {P : Program} {Q : Exit → Act → World → Prop} {md : Region.Mode} {S : World → Prop} {need : List Nat}
/-- One of the two that may come up comes up. -/
theorem need_turn2M {l : List Oper} {i j : Nat} {oi oj : Oper} {fuel : Nat} {listed : Array Bool} {a : Act} {w : World} (hi : l[i]? = some oi) (hj : l[j]? = some oj) (hr : Region.ready md l.toArray listed = [i, j]) (hwi : Region.wanted oi (yielded l.toArray a.tmps) = true) (hwj : Region.wanted oj (yielded l.toArray a.tmps) = true)
    (h1 : ∀ K : Act → World → Prop, (∀ a' w', (sparesB md l.toArray need i = false → S w') → wpAnyN P md l.toArray Q S need fuel (listed.setIfInBounds i true) a' w' → K a' w') → Oper.wp P oi a w K Q)
    (h2 : ∀ K : Act → World → Prop, (∀ a' w', (sparesB md l.toArray need j = false → S w') → wpAnyN P md l.toArray Q S need fuel (listed.setIfInBounds j true) a' w' → K a' w') → Oper.wp P oj a w K Q) : wpAnyN P md l.toArray Q S need (fuel + 1) listed a w :=
  ⟨fun e => (by rw [hr] at e; cases e), fun k hk => (by
    rw [hr] at hk
    rcases List.mem_cons.1 hk with rfl | hk
    · have hi' : l.toArray[k]? = some oi := by rw [List.getElem?_toArray]; exact hi
      unfold wpOp
      simp only [hi', hwi, if_true]
      exact .inl (h1 _ (fun a' w' x y => ⟨x, y⟩))
    · rw [List.mem_singleton] at hk
      subst hk
      have hj' : l.toArray[k]? = some oj := by rw [List.getElem?_toArray]; exact hj
      unfold wpOp
      simp only [hj', hwj, if_true]
      exact .inl (h2 _ (fun a' w' x y => ⟨x, y⟩)))⟩
end
end Go.Proofs.YtdphflbgecnhkaaDoor
