/- What the walks of stage 8's laws ask of the landed crown; a head's value; the question that each law asks first; the document's Good and Bytes. -/
import Derived.Test.YtgolddcmhjdmdaaZUa
import Derived.Test.YtgolddcmhjdmdaaZQj
import Derived.Laws.StructEq
import Derived.Deep.RegionHeld3
namespace Go.Proofs.Ytgolddcmhjdmdaa
open Go.RowKit Go.Sort Cr

def headA (h : Hd) : Value := .agg #[.int .i64 h.t, .int .i64 h.n, .int .i64 h.z, .int .i64 h.q]
def hd0 : Hd := ⟨0, 0, 0, 0⟩
def hdO : Option Hd → Hd
  | some h => h
  | none => hd0
/-- Each of its numbers is an int64. -/
structure Hd.In (h : Hd) : Prop where
  t : -9223372036854775808 ≤ h.t ∧ h.t ≤ 9223372036854775807
  n : -9223372036854775808 ≤ h.n ∧ h.n ≤ 9223372036854775807
  z : -9223372036854775808 ≤ h.z ∧ h.z ≤ 9223372036854775807
  q : -9223372036854775808 ≤ h.q ∧ h.q ≤ 9223372036854775807
theorem Hd.Ok.isIn {h : Hd} (o : h.Ok) : h.In := by
  obtain ⟨a, b, c, d⟩ := o
  exact ⟨⟨by omega, by omega⟩, ⟨by omega, by omega⟩, ⟨by omega, by omega⟩, ⟨by omega, by omega⟩⟩
def Hd.S (h : Hd) : ByteArray := if h.good = true then h.B else ⟨#[]⟩
def Hd.E (h : Hd) : Int := if h.good = true then 0 else 1
structure LandedCr (Dk : (Nat → Prop) → World → Nat → St → Prop) : Prop where
  good : ∀ (h : Hd) W, h.In → Calls Try.prog 10 #[headA h] W fun e W' => e = .returned (.bool h.good) ∧ Below W.heap.size W W'
  bytes : ∀ (h : Hd) W, h.In → Calls Try.prog 9 #[headA h] W fun e W' => e = .returned (.tuple #[.string h.S, .int .i64 h.E]) ∧ Below W.heap.size W W'
  read : ∀ (s : ByteArray) W, s.size ≤ 140737488351232 → Calls Try.prog 12 #[.string s] W fun e W' => e = .returned (.tuple #[headA (hdO (headOf s)), .bool (headOf s).isSome]) ∧ Below W.heap.size W W'
  put : ∀ F W p st (N : Int) (h : Hd), h.In → Dk F W p st → st.Room 2 →
    Calls Try.prog 15 #[.pointer (some ⟨p, 0, none⟩), .int .i64 N, headA h] W fun e W' => e = .returned (.int .i64 (st.putH N h).1) ∧ DkPost Dk F p (st.putH N h).2 W W'
  newest : ∀ F W p st, Dk F W p st → st.Ok →
    Calls Try.prog 16 #[.pointer (some ⟨p, 0, none⟩)] W fun e W' => e = .returned (.tuple #[headA (hdO st.newest), .bool st.newest.isSome]) ∧ Below W.heap.size W W'
  putNil : ∀ (h : Hd) W, h.In → Calls Try.prog 15 #[.pointer none, .int .i64 1, headA h] W fun e W' => e = .returned (.int .i64 2) ∧ Below W.heap.size W W'
section
variable {Dk : (Nat → Prop) → World → Nat → St → Prop} {w wr w2 : World} {p : Nat} {st st2 : St}
theorem Have.ask (K : LandedDk Dk) (h : Have Dk w wr p st) {f : FuncId} {args : Array Value} {R : Ending → Prop} (hc : ∀ F, Dk F wr p st → Calls Try.prog f args wr fun e W' => R e ∧ Below wr.heap.size wr W') :
    Calls Try.prog f args wr fun e w2 => R e ∧ Have Dk w w2 p st := by
  have h' := h
  obtain ⟨⟨F, h3, _⟩, _⟩ := h'
  refine (hc F h3).mono ?_
  rintro e w2 ⟨hr, hb⟩
  exact ⟨hr, h.later K hb⟩
theorem Have.op (h : Have Dk w wr p st) {f : FuncId} {args : Array Value} {R : Ending → Prop} (hc : ∀ F, Dk F wr p st → Calls Try.prog f args wr fun e W' => R e ∧ DkPost Dk F p st2 wr W') :
    Calls Try.prog f args wr fun e w2 => R e ∧ Have Dk w w2 p st2 := by
  obtain ⟨⟨F, h3, h4⟩, h5⟩ := h
  refine (hc F h3).mono ?_
  rintro e w2 ⟨hr, hp⟩
  exact ⟨hr, Have.post h4 h5 hp⟩
theorem Have.made (hb : Below w.heap.size w wr) (h : DkMade Dk st wr (.returned (.pointer (some ⟨p, 0, none⟩))) w2) : Have Dk w w2 p st := by
  obtain ⟨p2, F, he, h1, h2, h3⟩ := h
  have hp : p = p2 := by
    injection he with he
    injection he with he
    injection he with he
    injection he
  subst hp
  exact ⟨⟨F, h1, fun k hk => by have := h2 k hk; have := hb.size; omega⟩, hb.trans (h3.mono hb.size)⟩
end
/-- A head in a block of a call's own. -/
structure Bx (w wr : World) (b : Nat) (x0 x1 x2 x3 : Value) : Prop where
  box : BoxAt wr b [x0, x1, x2, x3]
  new : w.heap.size ≤ b
  bel : Below w.heap.size w wr
theorem Bx.later {w wr w2 : World} {b : Nat} {x0 x1 x2 x3 : Value} (h : Bx w wr b x0 x1 x2 x3) (hb : Below wr.heap.size wr w2) : Bx w w2 b x0 x1 x2 x3 := ⟨h.box.later hb, h.new, h.bel.trans (hb.mono h.bel.size)⟩
theorem Bx.cells {w wr : World} {b : Nat} {x0 x1 x2 x3 : Value} (h : Bx w wr b x0 x1 x2 x3) : wr.cell? ⟨b, 0, none⟩ = some x0 ∧ wr.cell? ⟨b, 1, none⟩ = some x1 ∧ wr.cell? ⟨b, 2, none⟩ = some x2 ∧ wr.cell? ⟨b, 3, none⟩ = some x3 ∧ b < wr.heap.size :=
  ⟨h.box.spot 0 _ rfl, h.box.spot 1 _ rfl, h.box.spot 2 _ rfl, h.box.spot 3 _ rfl, h.box.lt⟩
theorem Bx.made {w wr : World} (hb : Below w.heap.size w wr) (x0 x1 x2 x3 : Value) : Bx w (wr.alloc (.cells #[x0, x1, x2, x3] 23)) wr.heap.size x0 x1 x2 x3 := ⟨BoxAt.new wr [x0, x1, x2, x3] _, hb.size, hb.alloc hb.size _⟩
theorem Bx.held {w wr w2 : World} {b : Nat} {x0 x1 x2 x3 : Value} (h : Bx w wr b x0 x1 x2 x3) (hb : Below wr.heap.size wr w2) :
    w2.cell? ⟨b, 0, none⟩ = some x0 ∧ w2.cell? ⟨b, 1, none⟩ = some x1 ∧ w2.cell? ⟨b, 2, none⟩ = some x2 ∧ w2.cell? ⟨b, 3, none⟩ = some x3 ∧ Below wr.heap.size wr w2 :=
  ⟨(h.box.later hb).spot 0 _ rfl, (h.box.later hb).spot 1 _ rfl, (h.box.later hb).spot 2 _ rfl, (h.box.later hb).spot 3 _ rfl, hb⟩
theorem Bx.held2 {w wr w1 w2 : World} {b : Nat} {x0 x1 x2 x3 : Value} {A B C D : Prop} (h : Bx w wr b x0 x1 x2 x3) (hS : A ∧ B ∧ C ∧ D ∧ Below wr.heap.size wr w1) (hb : Below w1.heap.size w1 w2) :
    w2.cell? ⟨b, 0, none⟩ = some x0 ∧ w2.cell? ⟨b, 1, none⟩ = some x1 ∧ w2.cell? ⟨b, 2, none⟩ = some x2 ∧ w2.cell? ⟨b, 3, none⟩ = some x3 ∧ Below wr.heap.size wr w2 :=
  h.held (hS.2.2.2.2.trans (hb.mono hS.2.2.2.2.size))
theorem Have.ask2 {Dk : (Nat → Prop) → World → Nat → St → Prop} (K : LandedDk Dk) {w wr : World} {p b : Nat} {st : St} {x0 x1 x2 x3 : Value} (h : Have Dk w wr p st) (hX : Bx w wr b x0 x1 x2 x3) {f : FuncId} {args : Array Value} {R : Ending → Prop} (hc : ∀ F, Dk F wr p st → Calls Try.prog f args wr fun e W' => R e ∧ Below wr.heap.size wr W') :
    Calls Try.prog f args wr fun e w2 => R e ∧ Have Dk w w2 p st ∧ Bx w w2 b x0 x1 x2 x3 := by
  have h' := h
  obtain ⟨⟨F, h3, _⟩, _⟩ := h'
  refine (hc F h3).mono ?_
  rintro e w2 ⟨hr, hb⟩
  exact ⟨hr, h.later K hb, hX.later hb⟩
theorem rd_now {st : St} {i : Nat} (hi : i < st.safe.length) : rdS st (i : Int) = st.now i ∧ rdE st (i : Int) = 0 := by
  unfold rdS rdE
  rw [if_pos ⟨by omega, by omega⟩, if_pos ⟨by omega, by omega⟩, Int.toNat_natCast]
  exact ⟨rfl, rfl⟩
def h35 : Hd := ⟨3, 5, 0, 0⟩
theorem h35_ok : h35.Ok := ⟨by decide, by decide, by decide, by decide⟩
set_option maxRecDepth 100000 in
set_option maxHeartbeats 1000000 in
theorem crownAlive_any {Dk : (Nat → Prop) → World → Nat → St → Prop} (K : LandedDk Dk) (L : LandedCr Dk) (w : World) :
    Calls Try.prog 8 #[] w fun e w' => e = .returned (.bool true) ∧ Below w.heap.size w w' := by
  have hnew := Lib.hid (fun W => K.new 2 W (by decide) (by decide))
  have hC := St.Calm.new 2 (by omega)
  obtain ⟨st', hp, hC2, -, hnow⟩ := hC.putH (by omega) (N := 1) (by omega) h35_ok
  have hroom := hC.room (m := 2) (by omega) (by omega)
  have hput := Lib.hid (fun F W p h => L.put F W p (St.new ((2 : Nat) : Int)) 1 h35 h35_ok.isIn h hroom)
  have hnw : st'.newest = some h35 := by
    have e0 : standOf (st'.now 0) 0 = none := by
      rw [hnow 0 (by omega), if_neg (by decide)]
      exact stand_none (blank_at 2 0)
    have e1 : standOf (st'.now 1) 1 = some h35 := by
      rw [hnow 1 (by omega), if_pos (by decide)]
      exact stand_sec (by omega) h35_ok (by decide)
    unfold St.newest
    rw [e0, e1]; rfl
  have hok := hC2.ok (by omega) (by omega)
  have hget := Lib.hid (fun F W p h => L.newest F W p st' h hok)
  rw [hp] at hput
  rw [hnw, show hdO (some h35) = h35 from rfl, show (some h35).isSome = true from rfl] at hget
  dsimp only at hput
  unfold headA h35 at hput hget
  rw [show ((2 : Nat) : Int) = 2 from rfl] at *
  generalize St.new 2 = st0 at *
  clear hnw hok hC2 hnow hC hroom hp
  go_enter Try.func8, Try.ntmps8
  go_wp2_with fail
  refine (hnew.out _).mono ?_
  rintro e w2 hm
  obtain ⟨p, _, rfl, -⟩ := id hm
  have hT := Have.made (Below.refl _ _) hm
  replace hput := Lib.hid (hT.op (fun F h => hput.out F _ _ h))
  clear hm hnew hT
  go_wp2_with fail
  refine hput.out.mono ?_
  rintro e w3 ⟨rfl, hT⟩
  replace hget := Lib.hid (hT.ask K (fun F h => hget.out F _ _ h))
  clear hput hT
  go_wp2_with fail
  refine hget.out.mono ?_
  rintro e w4 ⟨rfl, hT⟩
  have hb := hT.below
  have hba : Below w.heap.size w (w4.alloc (.cells #[.int .i64 3, .int .i64 5, .int .i64 0, .int .i64 0] 23)) := hb.alloc hb.size _
  clear hT hget
  go_wp2
  go_ret
  exact ⟨by first | rfl | simp, hba⟩
set_option maxRecDepth 100000 in
theorem refgoodH_any (h : Hd) (_hi : h.In) (w : World) : Calls Try.prog 28 #[.int .i64 h.t, .int .i64 h.n, .int .i64 h.z, .int .i64 h.q] w fun e w' => e = .returned (.bool h.good) ∧ w = w' := by
  have hg := Lib.hid (show h.good = (decide (1 ≤ h.t) && decide (h.t ≤ 1152921504606846976) && decide (1 ≤ h.n) && decide (h.n ≤ 1152921504606846976) && decide (0 ≤ h.z) && decide (h.z ≤ 425984) && decide (0 ≤ h.q) && decide (h.q ≤ 1152921504606846976)) from rfl)
  rw [hg.out]
  obtain ⟨t, n, z, q⟩ := h
  dsimp only
  clear hg
  go_enter Try.func28, Try.ntmps28
  go_wp2
  all_goals
    go_ret
    refine ⟨?_, rfl⟩
    first
      | rfl
      | (simp; done)
      | (simp; omega)
end Go.Proofs.Ytgolddcmhjdmdaa
