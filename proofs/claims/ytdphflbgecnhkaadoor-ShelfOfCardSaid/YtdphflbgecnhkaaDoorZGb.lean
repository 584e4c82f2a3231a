/- The document's sectors of layer 5, walked. -/
/- What the walks of stage 4's laws ask of the landed disk, over an object that is known by its footprint; a call on both disks. -/
/- The landed Bytes of a leaf. No condition but a text's size. -/
import Derived.Test.YtdphflbgecnhkaaDoorRows
import Derived.Test.YtdphflbgecnhkaaDoorZTl
import Derived.Test.YtdphflbgecnhkaaDoorZPm
import Derived.Test.YtdphflbgecnhkaaDoorZQp
import Derived.Test.YtdphflbgecnhkaaDoorZQf
import Derived.Test.YtdphflbgecnhkaaDoorZPc
import Derived.Test.YtdphflbgecnhkaaDoorZPi
import Derived.Test.YtdphflbgecnhkaaDoorZTw
import Derived.Test.YtdphflbgecnhkaaDoorZCt
import Derived.Lib.QuietBelow
import Derived.Deep.RegionHeld3
import Derived.WalkSpells
import Derived.WalkLawsBesides
import Derived.Lib.Hide
import Derived.LoopTactic
import Derived.Lib.MinMax
import Derived.Laws.StructEq
import Derived.Shelf.Strings.Repeat
namespace Go.Proofs.YtdphflbgecnhkaaDoor
open Go.RowKit Go.Sort Cr

def lenOf : Value → Nat
  | .string s => s.size
  | _ => 0
end Go.Proofs.YtdphflbgecnhkaaDoor
namespace Go.Proofs.YtdphflbgecnhkaaDoor
open Go.RowKit Go.Sort

def DkPost (Dk : (Nat → Prop) → World → Nat → St → Prop) (F : Nat → Prop) (p : Nat) (st : St) (W W' : World) : Prop :=
  ∃ F', Dk F' W' p st ∧ Only F W W' ∧ ∀ k, k < W.heap.size → F' k → F k
def St.armed (st : St) (n : Int) : St := { st with arm := max n 0 }
/-- The landed disk. -/
structure LandedDk (Dk : (Nat → Prop) → World → Nat → St → Prop) : Prop where
  near : ∀ F W p st, Dk F W p st → ∀ k, F k → k < W.heap.size
  keep : ∀ F G W W' p st, Dk F W p st → Only G W W' → (∀ k, F k → ¬ G k) → Dk F W' p st
section
variable {Dk : (Nat → Prop) → World → Nat → St → Prop}
theorem LandedDk.later (K : LandedDk Dk) {F : Nat → Prop} {W W' : World} {p : Nat} {st : St} (h : Dk F W p st) (hb : Below W.heap.size W W') : Dk F W' p st :=
  K.keep F (fun _ => False) W W' p st h (Only.of_below hb) (fun _ _ e => e)

/-- Both disks, apart. -/
structure Pair (Dk : (Nat → Prop) → World → Nat → St → Prop) (F G : Nat → Prop) (W : World) (p m : Nat) (st : St) : Prop where
  a : Dk F W p st
  b : RefIs G W m st
  apart : ∀ k, F k → ¬ G k
theorem Pair.later (K : LandedDk Dk) {F G : Nat → Prop} {W W1 : World} {p m : Nat} {st : St} (h : Pair Dk F G W p m st) (hb : Below W.heap.size W W1) : Pair Dk F G W1 p m st :=
  ⟨K.later h.a hb, h.b.later hb, h.apart⟩
theorem DkPost.later (K : LandedDk Dk) {F : Nat → Prop} {p : Nat} {st : St} {W W1 W2 : World} (h : DkPost Dk F p st W W1) (hb : Below W1.heap.size W1 W2) : DkPost Dk F p st W W2 := by
  obtain ⟨F', a1, a2, a3⟩ := h
  exact ⟨F', K.later a1 hb, a2.later hb, a3⟩
theorem DkPost.only {F : Nat → Prop} {p : Nat} {st : St} {W W1 : World} (h : DkPost Dk F p st W W1) : Only F W W1 := h.choose_spec.2.1
theorem RefPost.only {F : Nat → Prop} {p : Nat} {st : St} {W W1 : World} (h : RefPost F p st W W1) : Only F W W1 := h.choose_spec.2.1
end

end Go.Proofs.YtdphflbgecnhkaaDoor
namespace Go.Proofs.YtdphflbgecnhkaaDoor
open Go.RowKit Go.Sort Cr Wm

/-- A writer in the making, over a block of known cells that lies ahead of it. -/
structure Lw (W0 : World) (cs : List Value) (w : World) (p : Nat) (bs : ByteArray) : Prop where
  wr : ∃ F, WrIs F w p bs ∧ ∀ k, F k → W0.heap.size < k
  box : BoxAt w W0.heap.size cs
  bel : Below W0.heap.size W0 w
theorem Lw.later {W0 : World} {cs : List Value} {w w' : World} {p : Nat} {bs : ByteArray} (h : Lw W0 cs w p bs) (hb : Below w.heap.size w w') : Lw W0 cs w' p bs := by
  obtain ⟨F, h1, h2⟩ := h.wr
  exact ⟨⟨F, wrIs_later h1 hb, h2⟩, h.box.later hb, h.bel.trans (hb.mono h.bel.size)⟩
/-- A call that puts, as it is met. -/
theorem Lw.put {W0 : World} {cs : List Value} {w : World} {p : Nat} {bs : ByteArray} (h : Lw W0 cs w p bs) {f : Nat} {args : Array Value} {bs' : ByteArray} {P : Program}
    (hc : ∀ F, WrIs F w p bs → Calls P f args w fun e w' => e = .returned (.tuple #[]) ∧ WrPost WrIs F p bs' w w') :
    Calls P f args w fun e w' => e = .returned (.tuple #[]) ∧ Lw W0 cs w' p bs' := by
  obtain ⟨F, h1, h2⟩ := h.wr
  refine (hc F h1).mono ?_
  rintro e w' ⟨rfl, F', k1, k2, k3⟩
  refine ⟨rfl, ⟨F', k1, fun k hk => ?_⟩, h.box.only k2 (fun e => by have := h2 _ e; omega), h.bel.trans (k2.to_below h.bel.size (fun k hk => by have := h2 _ hk; omega))⟩
  by_cases e : k < w.heap.size
  · exact h2 k (k3 k e hk)
  · have := h.box.lt
    omega
end Go.Proofs.YtdphflbgecnhkaaDoor
