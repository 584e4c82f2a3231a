/- What every law of layer 1 asks first: that the document's own answer is given. The greatest number lies in the program's variable. -/
/- The landed Read of a sector. No condition but a text's size. -/
/- Stage 9: what is wrong with an account, its bytes, whether it is there again. Plain: no program, no condition. -/
import Derived.Test.YtdphflbgecnhkaaDoorVAv
import Derived.Test.YtdphflbgecnhkaaDoorVWd
import Derived.Test.YtdphflbgecnhkaaDoorVTp
import Derived.Test.YtdphflbgecnhkaaDoorVTq
import Derived.Test.YtdphflbgecnhkaaDoorVTt
import Derived.Test.YtdphflbgecnhkaaDoorVQp
import Derived.Test.YtdphflbgecnhkaaDoorVJb
import Derived.Test.YtdphflbgecnhkaaDoorVGb
import Derived.Test.YtdphflbgecnhkaaDoorVTv
import Derived.RegionTactic
import Derived.Deep.RegionWith
import Derived.Deep.RegionHeld3
namespace Go.Proofs.YtdphflbgecnhkaaDoor
open Go.RowKit Go.Sort Wm

def mostN : Nat := 340282366920938463463374607431768211455
/-- The variable Most holds the greatest number. -/
structure Most (w : World) : Prop where
  m0 : w.cell? ⟨0, 0, none⟩ = some (.int .u64 ((hiN mostN : Nat) : Int))
  m1 : w.cell? ⟨0, 1, none⟩ = some (.int .u64 ((loN mostN : Nat) : Int))
  lt : 0 < w.heap.size
theorem Most.later {w w2 : World} (h : Most w) (hb : Below w.heap.size w w2) : Most w2 :=
  ⟨by rw [hb.cell (by exact h.lt)]; exact h.m0, by rw [hb.cell (by exact h.lt)]; exact h.m1, Nat.lt_of_lt_of_le h.lt hb.size⟩
end Go.Proofs.YtdphflbgecnhkaaDoor
namespace Go.Proofs.YtdphflbgecnhkaaDoor
open Go.RowKit Go.Sort Cr Wm Go.Lib

/-- A reader in use, of one's own making. -/
structure Rs (W0 w : World) (p : Nat) (st : Option ByteArray) : Prop where
  v : RdV w p st
  bel : Below W0.heap.size W0 w
  new : W0.heap.size ≤ p
theorem Rs.next {W0 w w' : World} {p : Nat} {st st' : Option ByteArray} (h : Rs W0 w p st) (k : RdQ p st' w w') : Rs W0 w' p st' :=
  ⟨k.v, h.bel.trans (k.o.to_below h.bel.size (fun j e => by have := h.new; omega)), h.new⟩
theorem Rs.later {W0 w w' : World} {p : Nat} {st : Option ByteArray} (h : Rs W0 w p st) (hb : Below w.heap.size w w') : Rs W0 w' p st :=
  ⟨h.v.only (Only.of_below (F := fun _ => False) hb) (fun e => e), h.bel.trans (hb.mono h.bel.size), h.new⟩
end Go.Proofs.YtdphflbgecnhkaaDoor
namespace Go.Proofs.YtdphflbgecnhkaaDoor
open Go Go.RowKit Wm Cr

/-- One part of a text put together. -/
theorem part_at (x pre m post : ByteArray) (i j : Nat) (h : x = pre ++ (m ++ post)) (hi : i = pre.size) (hj : j = i + m.size) : x.extract i j = m := by
  subst h
  rw [cut_right _ _ _ _ (by omega), cut_left _ _ _ _ (by omega)]
  rw [show i - pre.size = 0 by omega]
  exact cut_all _ _ (by omega)
end Go.Proofs.YtdphflbgecnhkaaDoor
