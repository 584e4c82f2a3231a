/- The law's own writing of items, walked out of the landed writer's contracts. -/
/- What the walks of stage 3's laws ask of the landed reader; and a row of items' bytes from its end. -/
import Derived.Test.YtdphflbgecnhkaaDoorZTl
import Derived.WalkSpells
import Derived.WalkLawsBesides
import Derived.LoopTactic
namespace Go.Proofs.YtdphflbgecnhkaaDoor
open Go.RowKit Wm

/-- What is known while items are written. -/
structure Putting (Wr : (Nat → Prop) → World → Nat → ByteArray → Prop) (w wr : World) (l : List Item) (k : Nat) : Prop where
  own : ∃ F : Nat → Prop, Wr F wr w.heap.size (itemsB (l.take k)) ∧ ∀ j, F j → w.heap.size ≤ j
  below : Below w.heap.size w wr
theorem Putting.next {Wr : (Nat → Prop) → World → Nat → ByteArray → Prop} (K : LandedWr Wr) {w wx w2 w3 : World} {l : List Item} {k : Nat} (hk : k < l.length) {F : Nat → Prop} (hF : ∀ j, F j → w.heap.size ≤ j)
    (hb : Below w.heap.size w wx) (h : WrPost Wr F w.heap.size (itemsB (l.take k) ++ itemB l[k]) wx w2) (h3 : Below w2.heap.size w2 w3) : Putting Wr w w3 l (k + 1) := by
  obtain ⟨F', h1, h2, h4⟩ := h
  refine ⟨⟨F', by rw [itemsB_take l k hk]; exact K.later h1 h3, fun j hj => ?_⟩, ?_⟩
  · by_cases hlt : j < wx.heap.size
    · exact hF j (h4 j hlt hj)
    · have := hb.size; omega
  · exact (hb.trans (h2.to_below hb.size hF)).trans (h3.mono (by have := h2.size; have := hb.size; omega))

theorem WrPost.only {Wr : (Nat → Prop) → World → Nat → ByteArray → Prop} {F : Nat → Prop} {p : Nat} {bs : ByteArray} {W W' : World} (h : WrPost Wr F p bs W W') : Only F W W' := h.choose_spec.2.1
theorem WrPost.same {Wr : (Nat → Prop) → World → Nat → ByteArray → Prop} {F : Nat → Prop} {p : Nat} {bs : ByteArray} {W : World} (h : Wr F W p bs) : WrPost Wr F p (bs ++ ByteArray.empty) W W :=
  ⟨F, by rw [ByteArray.append_empty]; exact h, Only.refl _ _, fun _ _ e => e⟩

end Go.Proofs.YtdphflbgecnhkaaDoor
namespace Go.Proofs.YtdphflbgecnhkaaDoor
open Go.RowKit Wm

def RdPost (Rd : (Nat → Prop) → World → Nat → Option ByteArray → Prop) (F : Nat → Prop) (p : Nat) (st : Option ByteArray) (W W' : World) : Prop :=
  ∃ F', Rd F' W' p st ∧ Only F W W' ∧ ∀ k, k < W.heap.size → F' k → F k
/-- The landed reader. -/
structure LandedRd (Rd : (Nat → Prop) → World → Nat → Option ByteArray → Prop) : Prop where
  near : ∀ F W p st, Rd F W p st → ∀ k, F k → k < W.heap.size
  keep : ∀ F G W W' p st, Rd F W p st → Only G W W' → (∀ k, F k → ¬ G k) → Rd F W' p st
theorem LandedRd.later {Rd : (Nat → Prop) → World → Nat → Option ByteArray → Prop} (K : LandedRd Rd) {F : Nat → Prop} {W W' : World} {p : Nat} {st : Option ByteArray} (h : Rd F W p st) (hb : Below W.heap.size W W') : Rd F W' p st :=
  K.keep F (fun _ => False) W W' p st h (Only.of_below hb) (fun _ _ e => e)
theorem RdPost.only {Rd : (Nat → Prop) → World → Nat → Option ByteArray → Prop} {F : Nat → Prop} {p : Nat} {st : Option ByteArray} {W W' : World} (h : RdPost Rd F p st W W') : Only F W W' := h.choose_spec.2.1
theorem RdPost.later {Rd : (Nat → Prop) → World → Nat → Option ByteArray → Prop} (K : LandedRd Rd) {F : Nat → Prop} {p : Nat} {st : Option ByteArray} {W W1 W2 : World} (h : RdPost Rd F p st W W1) (hb : Below W1.heap.size W1 W2) : RdPost Rd F p st W W2 := by
  obtain ⟨F', h1, h2, h3⟩ := h
  exact ⟨F', K.later h1 hb, h2.later hb, h3⟩
/-- The number that so many digits are. -/
theorem valL_digits : ∀ (k n : Nat), valL ((List.range k).map fun j => n / 256 ^ j % 256) = n % 256 ^ k
  | 0, n => by simp [valL]; omega
  | k + 1, n => by
    rw [List.range_succ_eq_map, List.map_cons, List.map_map, valL]
    have e : ((fun j => n / 256 ^ j % 256) ∘ Nat.succ) = fun j => n / 256 / 256 ^ j % 256 := by
      funext j
      show n / 256 ^ (j + 1) % 256 = _
      rw [Nat.pow_succ, Nat.mul_comm, ← Nat.div_div_eq_div_mul]
    rw [e, valL_digits k (n / 256), Nat.pow_zero, Nat.div_one, Nat.pow_succ, Nat.mul_comm (256 ^ k), Nat.mod_mul]
theorem bytesN_textP (n k : Nat) : bytesN (textP n k) = (List.range k).map fun j => n / 256 ^ j % 256 := by
  unfold bytesN textP bytesP
  rw [List.toList_toArray, List.map_map]
  apply List.map_congr_left
  intro j _
  show (byteN n j).toNat = _
  rw [byteN_toNat, Nat.pow_mul]
theorem valL_textP (n k : Nat) : valL (bytesN (textP n k)) = n % 256 ^ k := by rw [bytesN_textP, valL_digits]
end Go.Proofs.YtdphflbgecnhkaaDoor
