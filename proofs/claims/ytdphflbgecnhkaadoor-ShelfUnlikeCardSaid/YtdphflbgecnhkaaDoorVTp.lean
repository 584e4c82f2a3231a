/- The law's own writing of items, walked out of the landed writer's contracts. -/
import Derived.Test.YtdphflbgecnhkaaDoorVTl
import Derived.WalkSpells
import Derived.WalkLawsBesides
import Derived.LoopTactic
namespace Go.Proofs.YtdphflbgecnhkaaDoor
open Go.RowKit Wm

/-- What is known while items are written. -/
structure Putting (Wr : (Nat → Prop) → World → Nat → ByteArray → Prop) (w wr : World) (l : List Item) (k : Nat) : Prop where
  own : ∃ F : Nat → Prop, Wr F wr w.heap.size (itemsB (l.take k)) ∧ ∀ j, F j → w.heap.size ≤ j
  below : Below w.heap.size w wr
theorem Putting.next {Wr : (Nat → Prop) → World → Nat → ByteArray → Prop} (K : LandedWr Wr) {w wx w2 w3 : World} {l : List Item} {k : Nat} (hk : k < l.length) {F : Nat → Prop} (hF : ∀ j, F j → w.heap.size ≤ j)
    (hb : Below w.heap.size w wx) (h : WrPost Wr F w.heap.size (itemsB (l.take k) ++ itemB l[k]) wx w2) (h3 : Below w2.heap.size w2 w3) : Putting Wr w w3 l (k + 1) := by
  obtain ⟨F', h1, h2, h4⟩ := h
  refine ⟨⟨F', by rw [itemsB_take l k hk]; exact K.later h1 h3, fun j hj => ?_⟩, ?_⟩
  · by_cases hlt : j < wx.heap.size
    · exact hF j (h4 j hlt hj)
    · have := hb.size; omega
  · exact (hb.trans (h2.to_below hb.size hF)).trans (h3.mono (by have := h2.size; have := hb.size; omega))

theorem WrPost.only {Wr : (Nat → Prop) → World → Nat → ByteArray → Prop} {F : Nat → Prop} {p : Nat} {bs : ByteArray} {W W' : World} (h : WrPost Wr F p bs W W') : Only F W W' := h.choose_spec.2.1
theorem WrPost.same {Wr : (Nat → Prop) → World → Nat → ByteArray → Prop} {F : Nat → Prop} {p : Nat} {bs : ByteArray} {W : World} (h : Wr F W p bs) : WrPost Wr F p (bs ++ ByteArray.empty) W W :=
  ⟨F, by rw [ByteArray.append_empty]; exact h, Only.refl _ _, fun _ _ e => e⟩

end Go.Proofs.YtdphflbgecnhkaaDoor
