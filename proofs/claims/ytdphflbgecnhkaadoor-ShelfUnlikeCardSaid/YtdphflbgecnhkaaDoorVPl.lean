/- What the walks of stage 4's laws ask of the landed disk, over an object that is known by its footprint; a call on both disks. -/
import Derived.Test.YtdphflbgecnhkaaDoorVPc
import Derived.Test.YtdphflbgecnhkaaDoorVPi
import Derived.Test.YtdphflbgecnhkaaDoorVCalb
import Derived.Deep.RegionHeld3
import Derived.Lib.QuietBelow
import Derived.WalkSpells
import Derived.WalkLawsBesides
import Derived.Lib.Hide
import Derived.LoopTactic
namespace Go.Proofs.YtdphflbgecnhkaaDoor
open Go.RowKit Go.Sort

def DkPost (Dk : (Nat → Prop) → World → Nat → St → Prop) (F : Nat → Prop) (p : Nat) (st : St) (W W' : World) : Prop :=
  ∃ F', Dk F' W' p st ∧ Only F W W' ∧ ∀ k, k < W.heap.size → F' k → F k
def St.armed (st : St) (n : Int) : St := { st with arm := max n 0 }
/-- The landed disk. -/
structure LandedDk (Dk : (Nat → Prop) → World → Nat → St → Prop) : Prop where
  near : ∀ F W p st, Dk F W p st → ∀ k, F k → k < W.heap.size
  keep : ∀ F G W W' p st, Dk F W p st → Only G W W' → (∀ k, F k → ¬ G k) → Dk F W' p st
section
variable {Dk : (Nat → Prop) → World → Nat → St → Prop}
theorem LandedDk.later (K : LandedDk Dk) {F : Nat → Prop} {W W' : World} {p : Nat} {st : St} (h : Dk F W p st) (hb : Below W.heap.size W W') : Dk F W' p st :=
  K.keep F (fun _ => False) W W' p st h (Only.of_below hb) (fun _ _ e => e)

/-- Both disks, apart. -/
structure Pair (Dk : (Nat → Prop) → World → Nat → St → Prop) (F G : Nat → Prop) (W : World) (p m : Nat) (st : St) : Prop where
  a : Dk F W p st
  b : RefIs G W m st
  apart : ∀ k, F k → ¬ G k
theorem Pair.later (K : LandedDk Dk) {F G : Nat → Prop} {W W1 : World} {p m : Nat} {st : St} (h : Pair Dk F G W p m st) (hb : Below W.heap.size W W1) : Pair Dk F G W1 p m st :=
  ⟨K.later h.a hb, h.b.later hb, h.apart⟩
theorem DkPost.later (K : LandedDk Dk) {F : Nat → Prop} {p : Nat} {st : St} {W W1 W2 : World} (h : DkPost Dk F p st W W1) (hb : Below W1.heap.size W1 W2) : DkPost Dk F p st W W2 := by
  obtain ⟨F', a1, a2, a3⟩ := h
  exact ⟨F', K.later a1 hb, a2.later hb, a3⟩
theorem DkPost.only {F : Nat → Prop} {p : Nat} {st : St} {W W1 : World} (h : DkPost Dk F p st W W1) : Only F W W1 := h.choose_spec.2.1
theorem RefPost.only {F : Nat → Prop} {p : Nat} {st : St} {W W1 : World} (h : RefPost F p st W W1) : Only F W W1 := h.choose_spec.2.1
end

end Go.Proofs.YtdphflbgecnhkaaDoor
