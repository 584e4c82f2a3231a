/- An index address, a whole struct's load, a cut, whose runs are known, as what a drawn region takes first (XNeed). Plain: over whatever program. No condition. -/
import Derived.Test.YtkahohgbcnchiaaNeed
import Derived.Deep.MidRow
import Derived.WalkKit
namespace Go.Proofs.Ytkahohgbcnchiaa
open Go

section
variable {P : Program} {ops : Array Oper} {S : World → Prop} {o : Oper} {a : Act} {ty : TypeId} {x y : Operand}
theorem yields_index (ho : o.op = .indexAddr ty x y) (vx vy v : Value) (hx : a.eval x = vx) (hy : a.eval y = vy) (hr : ∀ w, (Instr.indexAt ty vx vy).run P w = .ok v w) (hw : Region.wanted o (yielded ops a.tmps) = true := by rfl) : YieldsIf P ops S o v a :=
  .inl ⟨hw, fun w _ => by
    unfold execOp
    simp only [ho, hx, hy, Sem.run_bind, hr w, Result.andThen_ok, Sem.run_pure]⟩
theorem yields_slice {lo hi mx : Option Operand} (ho : o.op = .slice ty x lo hi mx) (vx : Value) (vl vh vm : Option Value) (v : Value) (hx : a.eval x = vx) (hl : lo.map a.eval = vl) (hh : hi.map a.eval = vh) (hm : mx.map a.eval = vm)
    (hr : ∀ w, (Instr.sliceAt ty vx vl vh vm).run P w = .ok v w) (hw : Region.wanted o (yielded ops a.tmps) = true := by rfl) : YieldsIf P ops S o v a :=
  .inl ⟨hw, fun w _ => by
    subst hl hh hm
    unfold execOp
    simp only [ho, hx, Sem.run_bind, hr w, Result.andThen_ok, Sem.run_pure]⟩
theorem yields_loads (ho : o.op = .load ty x) (b k : Nat) (hx : a.eval x = .pointer (some ⟨b, k, none⟩)) (cs : List Value) (d : TypeDesc) (hS : ∀ w, S w → w.rangeAt b k cs) (hu : P.underlying ty = some d) (hd : d.isRow = true)
    (hi : (P.info? ty).map (·.size) = some cs.length) (hw : Region.wanted o (yielded ops a.tmps) = true := by rfl) : YieldsIf P ops S o (.agg cs.toArray) a :=
  .inl ⟨hw, fun w hSw => by
    unfold execOp
    simp only [ho, hx, Instr.loadAt, Instr.sureAddr, Sem.run_bind, Sem.run_pure, Result.andThen_ok, run_loadVar_mid w b k ty cs d (hS w hSw) hu hd hi]⟩
end
end Go.Proofs.Ytkahohgbcnchiaa
