/- The landed Read of a sector. No condition but a text's size. -/
/- Stage 9: what is wrong with an account, its bytes, whether it is there again. Plain: no program, no condition. -/
/- Stage 9: the question that each law asks first; the document's Check, Again, Good and Bytes. No condition but the landed package's. -/
import Derived.Test.YtdphflbgecnhkaaZAv
import Derived.Test.YtdphflbgecnhkaaZWd
import Derived.Test.YtdphflbgecnhkaaZBb
import Derived.Test.YtdphflbgecnhkaaZTl
import Derived.Test.YtdphflbgecnhkaaZTp
import Derived.Test.YtdphflbgecnhkaaZTq
import Derived.Test.YtdphflbgecnhkaaZTt
import Derived.Test.YtdphflbgecnhkaaZQp
import Derived.Test.YtdphflbgecnhkaaZJb
import Derived.Test.YtdphflbgecnhkaaZGb
import Derived.Test.YtdphflbgecnhkaaZTv
import Derived.Test.YtdphflbgecnhkaaZCalb
import Derived.Test.YtdphflbgecnhkaaZEq
import Derived.Test.YtdphflbgecnhkaaZSa
import Derived.RegionTactic
import Derived.Deep.RegionWith
import Derived.Deep.RegionHeld3
namespace Go.Proofs.Ytdphflbgecnhkaa
open Go.RowKit Go.Sort Cr Wm Go.Lib

/-- A reader in use, of one's own making. -/
structure Rs (W0 w : World) (p : Nat) (st : Option ByteArray) : Prop where
  v : RdV w p st
  bel : Below W0.heap.size W0 w
  new : W0.heap.size ≤ p
theorem Rs.next {W0 w w' : World} {p : Nat} {st st' : Option ByteArray} (h : Rs W0 w p st) (k : RdQ p st' w w') : Rs W0 w' p st' :=
  ⟨k.v, h.bel.trans (k.o.to_below h.bel.size (fun j e => by have := h.new; omega)), h.new⟩
theorem Rs.later {W0 w w' : World} {p : Nat} {st : Option ByteArray} (h : Rs W0 w p st) (hb : Below w.heap.size w w') : Rs W0 w' p st :=
  ⟨h.v.only (Only.of_below (F := fun _ => False) hb) (fun e => e), h.bel.trans (hb.mono h.bel.size), h.new⟩
end Go.Proofs.Ytdphflbgecnhkaa
namespace Go.Proofs.Ytdphflbgecnhkaa
open Go Go.RowKit Wm Cr

/-- One part of a text put together. -/
theorem part_at (x pre m post : ByteArray) (i j : Nat) (h : x = pre ++ (m ++ post)) (hi : i = pre.size) (hj : j = i + m.size) : x.extract i j = m := by
  subst h
  rw [cut_right _ _ _ _ (by omega), cut_left _ _ _ _ (by omega)]
  rw [show i - pre.size = 0 by omega]
  exact cut_all _ _ (by omega)
end Go.Proofs.Ytdphflbgecnhkaa
namespace Go.Proofs.Ytdphflbgecnhkaa
open Go.RowKit Go.Sort Wm Cr

/-- What the world must keep, behind a first one, and blocks of known cells. -/
structure Hx (Mo : World → Prop) (w W : World) (l : List (Nat × List Value)) : Prop where
  mo : Mo W
  bel : Below w.heap.size w W
  box : ∀ x ∈ l, BoxAt W x.1 x.2
section
variable {Mo : World → Prop} {w W W' : World} {l : List (Nat × List Value)} (later : ∀ W W', Mo W → Below W.heap.size W W' → Mo W')
include later
theorem Hx.call (h : Hx Mo w W l) (hb : Below W.heap.size W W') : Hx Mo w W' l := ⟨later _ _ h.mo hb, h.bel.trans (hb.mono h.bel.size), fun x hx => (h.box x hx).later hb⟩
theorem Hx.drew (h : Hx Mo w W l) : Hx Mo w W.drew l := h.call later ((Below.refl _ _).drew)
theorem Hx.alloc (h : Hx Mo w W l) (o : Obj) : Hx Mo w (W.alloc o) l := h.call later ((Below.refl _ _).alloc (Nat.le_refl _) o)
theorem Hx.new (h : Hx Mo w W l) (cs : List Value) (t : TypeId) : Hx Mo w (W.alloc (.cells cs.toArray t)) ((W.heap.size, cs) :: l) := by
  obtain ⟨h1, h2, h3⟩ := h.alloc later (.cells cs.toArray t)
  refine ⟨h1, h2, fun x hx => ?_⟩
  rcases List.mem_cons.1 hx with rfl | hx
  · exact BoxAt.new W cs t
  · exact h3 x hx
theorem Hx.ask (h : Hx Mo w W l) {f : FuncId} {args : Array Value} {R : Ending → Prop} (hc : Calls Try.prog f args W fun e W' => R e ∧ Below W.heap.size W W') :
    Calls Try.prog f args W fun e W' => R e ∧ Hx Mo w W' l := by
  refine hc.mono ?_
  rintro e w2 ⟨hr, hb⟩
  exact ⟨hr, h.call later hb⟩
end
theorem Hx.refl {Mo : World → Prop} {w : World} (h : Mo w) : Hx Mo w w [] := ⟨h, Below.refl _ _, fun _ hx => by cases hx⟩
end Go.Proofs.Ytdphflbgecnhkaa
