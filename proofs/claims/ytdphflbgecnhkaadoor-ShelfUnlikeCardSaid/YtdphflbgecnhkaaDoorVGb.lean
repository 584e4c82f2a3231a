/- The document's sectors of layer 5, walked. -/
/- The landed Bytes of a leaf. No condition but a text's size. -/
import Derived.Test.YtdphflbgecnhkaaDoorRows
import Derived.Test.YtdphflbgecnhkaaDoorVPm
import Derived.Test.YtdphflbgecnhkaaDoorVQp
import Derived.Test.YtdphflbgecnhkaaDoorVQf
import Derived.Test.YtdphflbgecnhkaaDoorVPl
import Derived.Test.YtdphflbgecnhkaaDoorVTw
import Derived.Test.YtdphflbgecnhkaaDoorVCt
import Derived.Lib.QuietBelow
import Derived.Lib.MinMax
import Derived.Laws.StructEq
import Derived.Shelf.Strings.Repeat
namespace Go.Proofs.YtdphflbgecnhkaaDoor
open Go.RowKit Go.Sort Cr

def lenOf : Value → Nat
  | .string s => s.size
  | _ => 0
end Go.Proofs.YtdphflbgecnhkaaDoor
namespace Go.Proofs.YtdphflbgecnhkaaDoor
open Go.RowKit Go.Sort Cr Wm

/-- A writer in the making, over a block of known cells that lies ahead of it. -/
structure Lw (W0 : World) (cs : List Value) (w : World) (p : Nat) (bs : ByteArray) : Prop where
  wr : ∃ F, WrIs F w p bs ∧ ∀ k, F k → W0.heap.size < k
  box : BoxAt w W0.heap.size cs
  bel : Below W0.heap.size W0 w
theorem Lw.later {W0 : World} {cs : List Value} {w w' : World} {p : Nat} {bs : ByteArray} (h : Lw W0 cs w p bs) (hb : Below w.heap.size w w') : Lw W0 cs w' p bs := by
  obtain ⟨F, h1, h2⟩ := h.wr
  exact ⟨⟨F, wrIs_later h1 hb, h2⟩, h.box.later hb, h.bel.trans (hb.mono h.bel.size)⟩
/-- A call that puts, as it is met. -/
theorem Lw.put {W0 : World} {cs : List Value} {w : World} {p : Nat} {bs : ByteArray} (h : Lw W0 cs w p bs) {f : Nat} {args : Array Value} {bs' : ByteArray} {P : Program}
    (hc : ∀ F, WrIs F w p bs → Calls P f args w fun e w' => e = .returned (.tuple #[]) ∧ WrPost WrIs F p bs' w w') :
    Calls P f args w fun e w' => e = .returned (.tuple #[]) ∧ Lw W0 cs w' p bs' := by
  obtain ⟨F, h1, h2⟩ := h.wr
  refine (hc F h1).mono ?_
  rintro e w' ⟨rfl, F', k1, k2, k3⟩
  refine ⟨rfl, ⟨F', k1, fun k hk => ?_⟩, h.box.only k2 (fun e => by have := h2 _ e; omega), h.bel.trans (k2.to_below h.bel.size (fun k hk => by have := h2 _ hk; omega))⟩
  by_cases e : k < w.heap.size
  · exact h2 k (k3 k e hk)
  · have := h.box.lt
    omega
end Go.Proofs.YtdphflbgecnhkaaDoor
