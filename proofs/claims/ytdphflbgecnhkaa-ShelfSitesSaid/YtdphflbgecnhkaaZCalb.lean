/- A block of known cells, carried along. Plain, over whatever program. No condition. -/
/- A block of known cells, as a range to be loaded whole. Plain, over whatever program. No condition. -/
import Derived.Test.YtdphflbgecnhkaaZOnly
import Derived.Test.YtdphflbgecnhkaaZCalm
import Derived.WalkKit
import Derived.Deep.WholeRow
namespace Go.Proofs.Ytdphflbgecnhkaa
open Go.RowKit

/-- The cells of a block. -/
structure BoxAt (w : World) (b : Nat) (cs : List Value) : Prop where
  spot : ∀ j v, cs[j]? = some v → w.cell? ⟨b, j, none⟩ = some v
  lt : b < w.heap.size
theorem BoxAt.new (w : World) (cs : List Value) (t : TypeId) : BoxAt (w.alloc (.cells cs.toArray t)) w.heap.size cs :=
  ⟨fun j v hj => by simpa [go_sem] using hj, by simp⟩
theorem BoxAt.later {w w2 : World} {b : Nat} {cs : List Value} (h : BoxAt w b cs) (hb : Below w.heap.size w w2) : BoxAt w2 b cs :=
  ⟨fun j v hj => by rw [hb.cell (p := ⟨b, j, none⟩) h.lt]; exact h.spot j v hj, Nat.lt_of_lt_of_le h.lt hb.size⟩
theorem BoxAt.only {F : Nat → Prop} {w w2 : World} {b : Nat} {cs : List Value} (h : BoxAt w b cs) (hb : Only F w w2) (hf : ¬ F b) : BoxAt w2 b cs :=
  ⟨fun j v hj => by rw [hb.cell (p := ⟨b, j, none⟩) h.lt hf]; exact h.spot j v hj, Nat.lt_of_lt_of_le h.lt hb.size⟩
end Go.Proofs.Ytdphflbgecnhkaa
namespace Go.Proofs.Ytdphflbgecnhkaa
open Go.RowKit

theorem BoxAt.range {W : World} {b : Nat} {cs : List Value} (h : BoxAt W b cs) : W.rangeAt b 0 cs := fun j v hj => by rw [Nat.zero_add]; exact h.spot j v hj
/-- A whole struct put into a new block. -/
theorem wpList_store_new {P : Program} {ops : Array Oper} {rest : List Oper} {op : Oper} {a : Act} {w : World} {Q : Exit → Act → World → Prop} (hgd : op.guard = none) (ty : TypeId) (x y : Operand) (ho : op.op = .store ty x y)
    (w0 : World) (c cells : Array Value) (hw : w = w0.alloc (.cells c ty)) (hx : a.eval x = .pointer (some ⟨w0.heap.size, 0, none⟩)) (hy : a.eval y = .agg cells)
    (hi : (P.info? ty).map (·.size) = some cells.size) (hc : c.size = cells.size) (h1 : cells.all (·.oneCell') = true)
    (h : wpList P ops Q rest (a.put op.dst undef) (w0.alloc (.cells cells ty))) : wpList P ops Q (op :: rest) a w :=
  wpList_plain hgd fun _ hK => by
    subst hw
    unfold Oper.wp execOp
    simp only [ho, hx, hy, Instr.storeAt, Instr.sureAddr, Sem.run_bind, Sem.run_pure, Result.andThen_ok, run_storeVar_new (P := P) w0 ty c cells hi hc h1]
    exact hK _ _ h
end Go.Proofs.Ytdphflbgecnhkaa
