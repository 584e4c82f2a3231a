/- Stage 11: what the walks of the laws ask of the landed table; the question that each law asks first. No condition but the landed package's. -/
import Derived.Test.YtpopbdladlahjaaRa
import Derived.Test.YtpopbdladlahjaaRo
import Derived.Test.YtpopbdladlahjaaEq
import Derived.Test.YtpopbdladlahjaaBox
namespace Go.Proofs.Ytpopbdladlahjaa
open Go.RowKit Go.Sort Wm

/-- A call that turns an object keeps a block that was made behind it. -/
theorem On.opBox {α : Type} {O : Kind α} (K : IsKind O) {w wr wx : World} {p b : Nat} {m m2 : α} {cs : List Value} {P : Program} (h : On O w wr p m) (hb : Below wr.heap.size wr wx) (hbx : BoxAt wx b cs) (hn : wr.heap.size ≤ b)
    {f : FuncId} {args : Array Value} {S : Ending → Prop} (hc : ∀ F, O F wx p m → Calls P f args wx fun e W' => S e ∧ PostO O F p m2 wx W') :
    Calls P f args wx fun e w2 => S e ∧ On O w w2 p m2 ∧ BoxAt w2 b cs := by
  obtain ⟨⟨F, h3, h4⟩, h5⟩ := h
  have nF := K.near _ _ _ _ h3
  have hx := K.later h3 hb
  refine (hc F hx).mono ?_
  rintro e w2 ⟨hr, hp⟩
  exact ⟨hr, On.post h4 (h5.trans (hb.mono h5.size)) hp, hbx.only hp.choose_spec.2.1 (fun e => by have := nF _ e; omega)⟩
/-- The landed table. (Of at most 1000 names at a time.) -/
structure LandedTb (Tb : Kind Tbl) : Prop extends IsKind Tb where
  new : ∀ W, Calls Try.prog 7 #[] W (MadeO Tb [] W)
  put : ∀ F W p m (k : Nat) (v : Int), Tb F W p m → k < big → m.length ≤ 1000 → -9223372036854775808 ≤ v → v ≤ 9223372036854775807 →
    Calls Try.prog 11 #[.pointer (some ⟨p, 0, none⟩), numV k, .int .i64 v] W fun e W' => e = .returned (.bool (!(getT m k).isSome)) ∧ PostO Tb F p (putT m k v) W W'
  get : ∀ F W p m (k : Nat), Tb F W p m → k < big →
    Calls Try.prog 10 #[.pointer (some ⟨p, 0, none⟩), numV k] W fun e W' => e = .returned (.tuple #[.int .i64 ((getT m k).getD 0), .bool (getT m k).isSome]) ∧ Below W.heap.size W W'
  drop : ∀ F W p m (k : Nat), Tb F W p m → k < big →
    Calls Try.prog 12 #[.pointer (some ⟨p, 0, none⟩), numV k] W fun e W' => e = .returned (.bool (getT m k).isSome) ∧ PostO Tb F p (dropT m k) W W'
  len : ∀ F W p m, Tb F W p m →
    Calls Try.prog 9 #[.pointer (some ⟨p, 0, none⟩)] W fun e W' => e = .returned (.int .i64 ((m.length : Nat) : Int)) ∧ Below W.heap.size W W'
set_option maxRecDepth 100000 in
set_option maxHeartbeats 1000000 in
theorem probeAlive_any {Tb : Kind Tbl} (K : LandedTb Tb) (w : World) :
    Calls Try.prog 6 #[] w fun e w' => e = .returned (.bool true) ∧ Below w.heap.size w w' := by
  have h5 : (5 : Nat) < big := by rw [big_eq]; omega
  have k0 := Lib.hid (fun W => K.new W)
  have k1 := Lib.hid (fun W p (h : On Tb w W p []) => h.op (fun F hF => K.put F W p [] 5 1 hF h5 (by decide) (by decide) (by decide)))
  have k2 := Lib.hid (fun W p (h : On Tb w W p [(5, 1)]) => h.op (fun F hF => K.put F W p [(5, 1)] 5 2 hF h5 (by decide) (by decide) (by decide)))
  have k3 := Lib.hid (fun W p (h : On Tb w W p [(5, 2)]) => h.ask K.toIsKind (fun F hF => K.get F W p [(5, 2)] 5 hF h5))
  have k4 := Lib.hid (fun W p (h : On Tb w W p [(5, 2)]) => h.ask K.toIsKind (fun F hF => K.len F W p [(5, 2)] hF))
  rw [show putT [] 5 1 = [(5, 1)] from rfl, show (!(getT [] 5).isSome) = true from rfl] at k1
  rw [show putT [(5, 1)] 5 2 = [(5, 2)] from rfl, show (!(getT [(5, 1)] 5).isSome) = false from rfl] at k2
  rw [show getT [(5, 2)] 5 = some 2 from rfl, show (some (2 : Int)).getD 0 = 2 from rfl, show (some (2 : Int)).isSome = true from rfl] at k3
  rw [show ([((5 : Nat), (2 : Int))].length : Int) = 1 from rfl] at k4
  have e5 : numV 5 = .agg #[.int .u64 0, .int .u64 5] := rfl
  rw [e5] at k1 k2 k3
  clear h5 e5
  go_enter Try.func6, Try.ntmps6
  go_wp2_with fail
  refine (k0.out _).mono ?_
  rintro e w1 hm
  obtain ⟨p, _, rfl, -⟩ := id hm
  have hT := On.made (Below.refl _ _) hm
  clear hm k0
  go_wp2_with fail
  refine (k1.out _ _ hT).mono ?_
  rintro e w2 ⟨rfl, hT⟩
  go_wp2_with fail
  refine (k2.out _ _ hT).mono ?_
  rintro e w3 ⟨rfl, hT⟩
  go_wp2_with fail
  refine (k3.out _ _ hT).mono ?_
  rintro e w4 ⟨rfl, hT⟩
  go_wp2_with fail
  trace_state
  refine (k4.out _ _ hT).mono ?_
  rintro e w5 ⟨rfl, hT⟩
  go_wp2
  go_ret
  exact ⟨rfl, hT.below⟩
end Go.Proofs.Ytpopbdladlahjaa
