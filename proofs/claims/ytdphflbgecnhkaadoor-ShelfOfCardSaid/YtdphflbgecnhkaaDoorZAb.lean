/- Two numbers of two words compared by '==' and '!=': as the numbers they are. No condition. -/
/- Stage 9: the question that each law asks first; the document's Check, Again, Good and Bytes. No condition but the landed package's. -/
import Derived.Test.YtdphflbgecnhkaaDoorZHas
import Derived.Test.YtdphflbgecnhkaaDoorZBb
import Derived.Test.YtdphflbgecnhkaaDoorZTl
import Derived.Test.YtdphflbgecnhkaaDoorZAa
import Derived.Test.YtdphflbgecnhkaaDoorZWf
import Derived.Test.YtdphflbgecnhkaaDoorZSa
import Derived.Deep.RegionHeld3
namespace Go.Proofs.YtdphflbgecnhkaaDoor
open Go.RowKit Go.Sort Wm

theorem numEq (a b : Nat) : ((((hiN a : Nat) : Int) == ((hiN b : Nat) : Int)) && (((loN a : Nat) : Int) == ((loN b : Nat) : Int))) = decide (a = b) := by
  by_cases h : a = b
  · subst h; simp
  · rw [decide_eq_false h, Bool.and_eq_false_iff]
    by_cases h1 : hiN a = hiN b
    · right
      rw [beq_eq_false_iff_ne]
      intro e
      exact h (num_inj h1 (by omega))
    · left
      rw [beq_eq_false_iff_ne]
      omega
theorem run_equal_num (a b : Nat) (w : World) : (Op.equalIn 10000 27 (numV a) (numV b)).run Tryd.prog w = .ok (decide (a = b)) w := by
  rw [← numEq]
  simp [go_sem]
  split
  · rename_i h1
    split
    · rename_i h2; simp [h1, h2]
    · rename_i h2; simp [h1, h2]
  · rename_i h1; simp [h1]
theorem run_eql_num (a b : Nat) (w : World) : (binOp .eql 27 (numV a) (numV b)).run Tryd.prog w = .ok (.bool (decide (a = b))) w := by
  rw [numV, numV, run_eql_struct, run_equal_num]; rfl
theorem run_eql_num0 (a : Nat) (w : World) : (binOp .eql 27 (numV a) (.agg #[.int .u64 0, .int .u64 0])).run Tryd.prog w = .ok (.bool (decide (a = 0))) w := run_eql_num a 0 w
end Go.Proofs.YtdphflbgecnhkaaDoor
namespace Go.Proofs.YtdphflbgecnhkaaDoor
open Go.RowKit Go.Sort Wm Cr

/-- What the world must keep, behind a first one, and blocks of known cells. -/
structure Hx (Mo : World → Prop) (w W : World) (l : List (Nat × List Value)) : Prop where
  mo : Mo W
  bel : Below w.heap.size w W
  box : ∀ x ∈ l, BoxAt W x.1 x.2
section
variable {Mo : World → Prop} {w W W' : World} {l : List (Nat × List Value)} (later : ∀ W W', Mo W → Below W.heap.size W W' → Mo W')
include later
theorem Hx.call (h : Hx Mo w W l) (hb : Below W.heap.size W W') : Hx Mo w W' l := ⟨later _ _ h.mo hb, h.bel.trans (hb.mono h.bel.size), fun x hx => (h.box x hx).later hb⟩
theorem Hx.drew (h : Hx Mo w W l) : Hx Mo w W.drew l := h.call later ((Below.refl _ _).drew)
theorem Hx.alloc (h : Hx Mo w W l) (o : Obj) : Hx Mo w (W.alloc o) l := h.call later ((Below.refl _ _).alloc (Nat.le_refl _) o)
theorem Hx.new (h : Hx Mo w W l) (cs : List Value) (t : TypeId) : Hx Mo w (W.alloc (.cells cs.toArray t)) ((W.heap.size, cs) :: l) := by
  obtain ⟨h1, h2, h3⟩ := h.alloc later (.cells cs.toArray t)
  refine ⟨h1, h2, fun x hx => ?_⟩
  rcases List.mem_cons.1 hx with rfl | hx
  · exact BoxAt.new W cs t
  · exact h3 x hx
theorem Hx.ask (h : Hx Mo w W l) {f : FuncId} {args : Array Value} {R : Ending → Prop} (hc : Calls Tryd.prog f args W fun e W' => R e ∧ Below W.heap.size W W') :
    Calls Tryd.prog f args W fun e W' => R e ∧ Hx Mo w W' l := by
  refine hc.mono ?_
  rintro e w2 ⟨hr, hb⟩
  exact ⟨hr, h.call later hb⟩
end
theorem Hx.refl {Mo : World → Prop} {w : World} (h : Mo w) : Hx Mo w w [] := ⟨h, Below.refl _ _, fun _ hx => by cases hx⟩
end Go.Proofs.YtdphflbgecnhkaaDoor
