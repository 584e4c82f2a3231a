/- Of a world's blocks only some have turned: an object's own. Plain, over whatever program. No condition. -/
/- A block of known cells, carried along. Plain, over whatever program. No condition. -/
/- A region that draws its order, of operations that each yield one value in every world that meets a condition, and keep the condition (loads, arithmetic, calls of known answers): it is walked in the order of its list. Plain: over whatever program. -/
/- A block of known cells, as a range to be loaded whole. Plain, over whatever program. No condition. -/
import Derived.Below
import Derived.Laws.AppendOwn
import Derived.WalkKit
import Derived.OrdersHeld
import Derived.RowKit
import Derived.Deep.MidRow
import Derived.Deep.WholeRow
namespace Go.Proofs.Ytfdanlfiaoedfaa
open Go.RowKit

/-- Of the blocks that were there only such of F have turned; the streams are as they were. -/
structure Only (F : Nat → Prop) (w w' : World) : Prop where
  os : w'.os = w.os
  tape : w'.tape = w.tape
  output : w'.output = w.output
  size : w.heap.size ≤ w'.heap.size
  block : ∀ k, k < w.heap.size → ¬ F k → w'.heap[k]? = w.heap[k]?

theorem Only.refl (F : Nat → Prop) (w : World) : Only F w w := ⟨rfl, rfl, rfl, Nat.le_refl _, fun _ _ _ => rfl⟩
/-- What turned in the second step is of F, or was new. -/
theorem Only.trans {F G : Nat → Prop} {a b c : World} (h : Only F a b) (k : Only G b c) (hg : ∀ j, j < a.heap.size → G j → F j) : Only F a c :=
  ⟨k.os.trans h.os, k.tape.trans h.tape, k.output.trans h.output, Nat.le_trans h.size k.size,
    fun i hi hf => (k.block i (Nat.lt_of_lt_of_le hi h.size) (fun e => hf (hg i hi e))).trans (h.block i hi hf)⟩
theorem Only.mono {F G : Nat → Prop} {a b : World} (h : Only F a b) (hg : ∀ j, j < a.heap.size → F j → G j) : Only G a b :=
  ⟨h.os, h.tape, h.output, h.size, fun i hi hf => h.block i hi (fun e => hf (hg i hi e))⟩
theorem Only.of_below {F : Nat → Prop} {a b : World} (h : Below a.heap.size a b) : Only F a b := ⟨h.os, h.tape, h.output, h.size, fun i hi _ => h.block i hi⟩
theorem Only.of_grown {F : Nat → Prop} {a b : World} {row : Option Nat} (h : a.grownBy b row) (hr : ∀ k, k < a.heap.size → row = some k → F k) : Only F a b :=
  ⟨h.os, h.tape, h.output, h.size, fun i hi hf => h.block i hi (fun e => hf (hr i hi e.symm))⟩
theorem Only.to_below {F : Nat → Prop} {a b : World} {B : Nat} (h : Only F a b) (hB : B ≤ a.heap.size) (hf : ∀ k, F k → B ≤ k) : Below B a b :=
  ⟨h.os, h.tape, h.output, h.size, fun i hi => h.block i (by omega) (fun e => by have := hf i e; omega)⟩
theorem Only.drew {F : Nat → Prop} {a b : World} (h : Only F a b) : Only F a b.drew := ⟨h.os, h.tape, h.output, h.size, h.block⟩
theorem Only.alloc {F : Nat → Prop} {a b : World} (h : Only F a b) (o : Obj) : Only F a (b.alloc o) :=
  h.trans (G := fun _ => False) (Only.of_below ((Below.refl _ _).alloc (Nat.le_refl _) o)) (fun _ _ e => e.elim)
theorem Only.later {F : Nat → Prop} {a b c : World} (h : Only F a b) (hb : Below b.heap.size b c) : Only F a c :=
  h.trans (G := fun _ => False) (Only.of_below hb) (fun _ _ e => e.elim)
theorem Only.setCell {F : Nat → Prop} {a b : World} (h : Only F a b) {p : Addr} (hp : p.block < a.heap.size → F p.block) (u : Value) : Only F a (b.setCell p u) :=
  ⟨h.os, h.tape, h.output, by simpa [World.setCell] using h.size, fun i hi hf => by
    rw [Below.heap_setCell _ _ _ _ (fun e => hf (by rw [e]; exact hp (by omega)))]; exact h.block i hi hf⟩
theorem Only.cell {F : Nat → Prop} {a b : World} (h : Only F a b) {p : Addr} (hp : p.block < a.heap.size) (hf : ¬ F p.block) : b.cell? p = a.cell? p :=
  World.cell?_of_block (w := a) (h.block p.block hp hf)
theorem Only.frozen {F : Nat → Prop} {a b : World} (h : Only F a b) {p : Addr} (hp : p.block < a.heap.size) (hf : ¬ F p.block) : b.frozen? p = a.frozen? p :=
  World.frozen?_of_block (w := a) (h.block p.block hp hf)
/-- A row of one's own in a world where other blocks have turned. -/
theorem Only.row {F : Nat → Prop} {a b : World} (h : Only F a b) {base : Nat} {e : TypeId} {size : Nat} {v : Value} {n : Nat} {xs : List Value}
    (hr : a.ownsRow base e size v n xs) (hf : ∀ g, v.ownBlock = some g → ¬ F g) : b.ownsRow base e size v n xs := by
  refine ⟨hr.1, ?_⟩
  rcases hr.2 with h2 | ⟨g, cap, cur, hv, hg, hh, r⟩
  · exact .inl h2
  · refine .inr ⟨g, cap, cur, hv, hg, ?_, r⟩
    rw [h.block g (Array.getElem?_eq_some_iff.1 hh).1 (hf g (by rw [hv]; rfl))]
    exact hh
end Go.Proofs.Ytfdanlfiaoedfaa
namespace Go.Proofs.Ytfdanlfiaoedfaa
open Go.RowKit

/-- The cells of a block. -/
structure BoxAt (w : World) (b : Nat) (cs : List Value) : Prop where
  spot : ∀ j v, cs[j]? = some v → w.cell? ⟨b, j, none⟩ = some v
  lt : b < w.heap.size
theorem BoxAt.new (w : World) (cs : List Value) (t : TypeId) : BoxAt (w.alloc (.cells cs.toArray t)) w.heap.size cs :=
  ⟨fun j v hj => by simpa [go_sem] using hj, by simp⟩
theorem BoxAt.later {w w2 : World} {b : Nat} {cs : List Value} (h : BoxAt w b cs) (hb : Below w.heap.size w w2) : BoxAt w2 b cs :=
  ⟨fun j v hj => by rw [hb.cell (p := ⟨b, j, none⟩) h.lt]; exact h.spot j v hj, Nat.lt_of_lt_of_le h.lt hb.size⟩
theorem BoxAt.only {F : Nat → Prop} {w w2 : World} {b : Nat} {cs : List Value} (h : BoxAt w b cs) (hb : Only F w w2) (hf : ¬ F b) : BoxAt w2 b cs :=
  ⟨fun j v hj => by rw [hb.cell (p := ⟨b, j, none⟩) h.lt hf]; exact h.spot j v hj, Nat.lt_of_lt_of_le h.lt hb.size⟩
end Go.Proofs.Ytfdanlfiaoedfaa
namespace Go.Proofs.Ytfdanlfiaoedfaa
open Go

section
variable {P : Program} {ops : Array Oper} {Q : Exit → Act → World → Prop} {md : Region.Mode} {S : World → Prop}
/-- What an operation's run comes to: the value v, and the condition holds behind it. -/
def calmEnd (P : Program) (S : World → Prop) (v : Value) : Result Next → Prop
  | .ok (.value u) w' => u = v ∧ S w'
  | .ok .skip w' => undef = v ∧ S w'
  | .ok (.enter f args) w' => Calls P f args w' fun e w'' => e = .returned v ∧ S w''
  | _ => False
/-- In every world that meets S the operation yields v, and keeps S. -/
def CalmIf (P : Program) (ops : Array Oper) (S : World → Prop) (o : Oper) (v : Value) (a : Act) : Prop :=
  (Region.wanted o (yielded ops a.tmps) = true ∧ ∀ w, S w → calmEnd P S v ((execOp a.eval o).run P w)) ∨
  (Region.wanted o (yielded ops a.tmps) = false ∧ v = undef)
theorem CalmIf.wpOp {i : Nat} {o : Oper} {v : Value} {a : Act} (hi : ops[i]? = some o) (hy : CalmIf P ops S o v a)
    {K : Act → World → Prop} {w : World} (hS : S w) (h : ∀ w', S w' → K (a.put o.dst v) w') : wpOp P ops Q i K a w := by
  unfold Go.wpOp
  simp only [hi]
  rcases hy with ⟨hw, hv⟩ | ⟨hw, rfl⟩
  · simp only [hw, if_true, Oper.wp]
    left
    have h1 := hv w hS
    generalize (execOp a.eval o).run P w = r at *
    cases r with
    | ok n w' =>
      cases n <;> simp only [Oper.upon, calmEnd] at h1 ⊢
      case value u => exact h1.1 ▸ h w' h1.2
      case skip => exact h1.1 ▸ h w' h1.2
      case enter f args =>
        refine Calls.mono h1 fun e w'' he => ?_
        obtain ⟨rfl, hs⟩ := he
        exact h w'' hs
    | halt x w' => cases x <;> exact h1.elim
  · simp only [hw, Bool.false_eq_true, if_false]; exact h w hS
/-! The steps. -/
end
end Go.Proofs.Ytfdanlfiaoedfaa
namespace Go.Proofs.Ytfdanlfiaoedfaa
open Go.RowKit

theorem BoxAt.range {W : World} {b : Nat} {cs : List Value} (h : BoxAt W b cs) : W.rangeAt b 0 cs := fun j v hj => by rw [Nat.zero_add]; exact h.spot j v hj
/-- A whole struct put into a new block. -/
theorem wpList_store_new {P : Program} {ops : Array Oper} {rest : List Oper} {op : Oper} {a : Act} {w : World} {Q : Exit → Act → World → Prop} (hgd : op.guard = none) (ty : TypeId) (x y : Operand) (ho : op.op = .store ty x y)
    (w0 : World) (c cells : Array Value) (hw : w = w0.alloc (.cells c ty)) (hx : a.eval x = .pointer (some ⟨w0.heap.size, 0, none⟩)) (hy : a.eval y = .agg cells)
    (hi : (P.info? ty).map (·.size) = some cells.size) (hc : c.size = cells.size) (h1 : cells.all (·.oneCell') = true)
    (h : wpList P ops Q rest (a.put op.dst undef) (w0.alloc (.cells cells ty))) : wpList P ops Q (op :: rest) a w :=
  wpList_plain hgd fun _ hK => by
    subst hw
    unfold Oper.wp execOp
    simp only [ho, hx, hy, Instr.storeAt, Instr.sureAddr, Sem.run_bind, Sem.run_pure, Result.andThen_ok, run_storeVar_new (P := P) w0 ty c cells hi hc h1]
    exact hK _ _ h
/-- A whole struct loaded, under a guard that holds or none. -/
theorem wpList_load_midg {P : Program} {ops : Array Oper} {rest : List Oper} {op : Oper} {a : Act} {w : World} {Q : Exit → Act → World → Prop} (hw : Region.wanted op (yielded ops a.tmps) = true) (ty : TypeId) (x : Operand) (ho : op.op = .load ty x)
    (b o : Nat) (hx : a.eval x = .pointer (some ⟨b, o, none⟩)) (cs : List Value) (d : TypeDesc) (hc : w.rangeAt b o cs)
    (hu : P.underlying ty = some d) (hd : d.isRow = true) (hi : (P.info? ty).map (·.size) = some cs.length)
    (h : wpList P ops Q rest (a.put op.dst (.agg cs.toArray)) w) : wpList P ops Q (op :: rest) a w :=
  wpList_step fun K hK => by simp only [hw, if_true]; exact wp_load_mid ty x ho b o hx cs d hc hu hd hi (hK _ _ h)
end Go.Proofs.Ytfdanlfiaoedfaa
