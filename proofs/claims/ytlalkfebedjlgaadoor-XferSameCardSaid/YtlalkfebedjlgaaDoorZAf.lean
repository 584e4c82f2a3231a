/- Stage 9: the question that each law asks first; the document's Check, Again, Good and Bytes. No condition but the landed package's. -/
/- Stage 9: the document's bytes of an account. No condition. -/
import Derived.Test.YtlalkfebedjlgaaDoorZBb
import Derived.Test.YtlalkfebedjlgaaDoorZTr
import Derived.Test.YtlalkfebedjlgaaDoorZPl
import Derived.Test.YtlalkfebedjlgaaDoorZAa
import Derived.Test.YtlalkfebedjlgaaDoorZEq
import Derived.Test.YtlalkfebedjlgaaDoorZSa
import Derived.Deep.RegionHeld3
import Derived.Laws.StructEq
namespace Go.Proofs.YtlalkfebedjlgaaDoor
open Go.RowKit Go.Sort Wm Cr

theorem decN_inj : ∀ (k a b : Nat), decN k a = decN k b → a % 10 ^ k = b % 10 ^ k
  | 0, a, b, _ => by simp [Nat.mod_one]
  | k + 1, a, b, h => by
    rw [decN, decN] at h
    injection h with h1 h2
    have h3 := decN_inj k a b h2
    have h4 : a / 10 ^ k % 10 = b / 10 ^ k % 10 := by
      have e := congrArg UInt8.toNat h1
      rw [digB_toNat, digB_toNat] at e
      omega
    rw [Nat.pow_succ, Nat.mod_mul, Nat.mod_mul, h3, h4]
theorem showN_inj {a b : Nat} (ha : a < big) (hb : b < big) (h : showN a = showN b) : a = b := by
  unfold showN at h
  have h1 : decN (ndN a) a = decN (ndN b) b := by
    injection h with h
    have h2 := congrArg Array.toList h
    simpa using h2
  have h2 : ndN a = ndN b := by rw [← decN_length (ndN a) a, h1, decN_length]
  rw [← h2] at h1
  have h3 := decN_inj _ _ _ h1
  rw [Nat.mod_eq_of_lt (ndN_len a ha).2.2.1, Nat.mod_eq_of_lt (by rw [h2]; exact (ndN_len b hb).2.2.1)] at h3
  exact h3
theorem show_is_most {a : Nat} (ha : a < big) : ((showN a).toList == [51, 52, 48, 50, 56, 50, 51, 54, 54, 57, 50, 48, 57, 51, 56, 52, 54, 51, 52, 54, 51, 51, 55, 52, 54, 48, 55, 52, 51, 49, 55, 54, 56, 50, 49, 49, 52, 53, 53]) = decide (a = mostN) := by
  have e : ([51, 52, 48, 50, 56, 50, 51, 54, 54, 57, 50, 48, 57, 51, 56, 52, 54, 51, 52, 54, 51, 51, 55, 52, 54, 48, 55, 52, 51, 49, 55, 54, 56, 50, 49, 49, 52, 53, 53] : List UInt8) = (showN mostN).toList := by rw [show_most_text]; decide +kernel
  rw [e, ByteArray.toList_eq, ByteArray.toList_eq]
  by_cases h : a = mostN
  · rw [decide_eq_true h, h]
    exact beq_self_eq_true _
  · rw [decide_eq_false h]
    exact beq_eq_false_iff_ne.2 (fun e => h (showN_inj ha most_lt (ByteArray.ext (Array.toList_inj.mp e))))
/-- What the world must keep, behind a first one, and blocks of known cells. -/
structure Hx (Mo : World → Prop) (w W : World) (l : List (Nat × List Value)) : Prop where
  mo : Mo W
  bel : Below w.heap.size w W
  box : ∀ x ∈ l, BoxAt W x.1 x.2
section
variable {Mo : World → Prop} {w W W' : World} {l : List (Nat × List Value)} (later : ∀ W W', Mo W → Below W.heap.size W W' → Mo W')
include later
theorem Hx.call (h : Hx Mo w W l) (hb : Below W.heap.size W W') : Hx Mo w W' l := ⟨later _ _ h.mo hb, h.bel.trans (hb.mono h.bel.size), fun x hx => (h.box x hx).later hb⟩
theorem Hx.drew (h : Hx Mo w W l) : Hx Mo w W.drew l := h.call later ((Below.refl _ _).drew)
theorem Hx.alloc (h : Hx Mo w W l) (o : Obj) : Hx Mo w (W.alloc o) l := h.call later ((Below.refl _ _).alloc (Nat.le_refl _) o)
theorem Hx.new (h : Hx Mo w W l) (cs : List Value) (t : TypeId) : Hx Mo w (W.alloc (.cells cs.toArray t)) ((W.heap.size, cs) :: l) := by
  obtain ⟨h1, h2, h3⟩ := h.alloc later (.cells cs.toArray t)
  refine ⟨h1, h2, fun x hx => ?_⟩
  rcases List.mem_cons.1 hx with rfl | hx
  · exact BoxAt.new W cs t
  · exact h3 x hx
theorem Hx.ask (h : Hx Mo w W l) {f : FuncId} {args : Array Value} {R : Ending → Prop} (hc : Calls Tryd.prog f args W fun e W' => R e ∧ Below W.heap.size W W') :
    Calls Tryd.prog f args W fun e W' => R e ∧ Hx Mo w W' l := by
  refine hc.mono ?_
  rintro e w2 ⟨hr, hb⟩
  exact ⟨hr, h.call later hb⟩
end
theorem Hx.refl {Mo : World → Prop} {w : World} (h : Mo w) : Hx Mo w w [] := ⟨h, Below.refl _ _, fun _ hx => by cases hx⟩
theorem run_neq_num0 (a : Nat) (w : World) : (binOp .neq 24 (numV a) (.agg #[.int .u64 0, .int .u64 0])).run Tryd.prog w = .ok (.bool (!decide (a = 0))) w := run_neq_num a 0 w
end Go.Proofs.YtlalkfebedjlgaaDoor
namespace Go.Proofs.YtlalkfebedjlgaaDoor
open Go.RowKit Go.Sort Wm Cr

/-- A contract asked behind a first world. -/
theorem ask_behind {W0 W : World} (h : Below W0.heap.size W0 W) {f : FuncId} {args : Array Value} {R : Ending → Prop} (hc : Calls Tryd.prog f args W fun e W' => R e ∧ Below W.heap.size W W') :
    Calls Tryd.prog f args W fun e W' => R e ∧ Below W0.heap.size W0 W' := by
  refine hc.mono ?_
  rintro e w2 ⟨hr, hb⟩
  exact ⟨hr, h.trans (hb.mono h.size)⟩
end Go.Proofs.YtlalkfebedjlgaaDoor
