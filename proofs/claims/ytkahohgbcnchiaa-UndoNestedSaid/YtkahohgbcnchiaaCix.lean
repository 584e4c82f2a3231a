/- An index address whose run is known, among the operations of a drawn region that are walked in the order of their list. Plain, over whatever program. No condition. -/
import Derived.Test.YtkahohgbcnchiaaCalb
import Derived.WalkKit
namespace Go.Proofs.Ytkahohgbcnchiaa
open Go

theorem calm_index {P : Program} {ops : Array Oper} {S : World → Prop} {Q : Exit → Act → World → Prop} {o : Oper} {r : List Oper} {a : Act} (ty : TypeId) (x y : Operand) (vx vy v : Value) (hw : Region.wanted o (yielded ops a.tmps) = true) (ho : o.op = .indexAddr ty x y)
    (hx : a.eval x = vx) (hy : a.eval y = vy) (hr : ∀ w, (Instr.indexAt ty vx vy).run P w = .ok v w)
    (h : calmList P ops Q S r (a.put o.dst v)) : calmList P ops Q S (o :: r) a :=
  calm_pure hw (fun w => by
    unfold execOp
    simp only [ho, hx, hy, Sem.run_bind, hr w, Result.andThen_ok, Sem.run_pure]) h
end Go.Proofs.Ytkahohgbcnchiaa
