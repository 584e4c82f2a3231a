/- Stage 12: what the walks of the laws ask of the landed list; the question that each law asks first; a call on both lists. No condition but the landed package's. -/
import Derived.Test.YtgpjbacggcfcmaaOe
import Derived.Test.YtgpjbacggcfcmaaOv
import Derived.Laws.StructEq
namespace Go.Proofs.Ytgpjbacggcfcmaa
open Go.RowKit Wm

/-- An empty list's cells. (As the landed type has them.) -/
def zeroOr : List Value := [.slice none 0 0]
/-- Pairs in memory. -/
structure PrsAt (W : World) (ao : Option Addr) (l : Zbl) : Prop where
  spot : ∀ i (h : i < l.length), ∃ g o, ao = some ⟨g, o, none⟩ ∧ g < W.heap.size ∧ W.cell? ⟨g, o + i * 2, none⟩ = some (.int .i64 (l[i]).1) ∧ W.cell? ⟨g, o + i * 2 + 1, none⟩ = some (.int .i64 (l[i]).2)
theorem PrsAt.later {W W' : World} {ao : Option Addr} {l : Zbl} (h : PrsAt W ao l) (hb : Below W.heap.size W W') : PrsAt W' ao l := ⟨fun i hi => by
  obtain ⟨g, o, e, hg, h1, h2⟩ := h.spot i hi
  exact ⟨g, o, e, Nat.lt_of_lt_of_le hg hb.size, (hb.cell (p := ⟨g, o + i * 2, none⟩) hg).trans h1, (hb.cell (p := ⟨g, o + i * 2 + 1, none⟩) hg).trans h2⟩⟩
/-- Behind a call that answers pairs: new memory. -/
def PrsOut (l : Zbl) (W : World) (e : Ending) (W' : World) : Prop :=
  ∃ ao cap, e = .returned (.slice ao l.length cap) ∧ PrsAt W' ao l ∧ Below W.heap.size W W' ∧ ∀ g o, ao = some ⟨g, o, none⟩ → W.heap.size ≤ g ∧ ∀ j, W'.frozen? ⟨g, j, none⟩ = false
/-- The landed list. (Of at most 1000 stamps at a time.) -/
structure LandedOr (Od : Kind Zbl) : Prop extends IsKind Od where
  new : ∀ W : World, Od (fun k => k = W.heap.size) (W.alloc (.cells zeroOr.toArray 27)) W.heap.size []
  put : ∀ F W p m (k v : Int), Od F W p m → m.length ≤ 1000 → -9223372036854775808 ≤ k → k ≤ 9223372036854775807 → -9223372036854775808 ≤ v → v ≤ 9223372036854775807 →
    Calls Try.prog 14 #[.pointer (some ⟨p, 0, none⟩), .int .i64 k, .int .i64 v] W fun e W' => e = .returned (.bool (!(getZ m k).isSome)) ∧ PostO Od F p (putZ m k v) W W'
  drop : ∀ F W p m (k : Int), Od F W p m → -9223372036854775808 ≤ k → k ≤ 9223372036854775807 →
    Calls Try.prog 15 #[.pointer (some ⟨p, 0, none⟩), .int .i64 k] W fun e W' => e = .returned (.bool (getZ m k).isSome) ∧ PostO Od F p (dropZ m k) W W'
  range : ∀ F W p m (a b : Int) (fl : Bool), Od F W p m → -9223372036854775808 ≤ a → a ≤ 9223372036854775807 → -9223372036854775808 ≤ b → b ≤ 9223372036854775807 →
    Calls Try.prog 12 #[.pointer (some ⟨p, 0, none⟩), .int .i64 a, .int .i64 b, .bool fl] W (PrsOut (rangeZ m a b fl) W)
  len : ∀ F W p m, Od F W p m → Calls Try.prog 9 #[.pointer (some ⟨p, 0, none⟩)] W fun e W' => e = .returned (.int .i64 ((m.length : Nat) : Int)) ∧ Below W.heap.size W W'
  last : ∀ F W p m, Od F W p m → Calls Try.prog 13 #[.pointer (some ⟨p, 0, none⟩)] W fun e W' => e = .returned (.int .i64 (lastZ m)) ∧ Below W.heap.size W W'
theorem On.fresh {α : Type} {O : Kind α} {w wr : World} {m : α} {cs : List Value} {t : TypeId} (hb : Below w.heap.size w wr) (h : O (fun k => k = wr.heap.size) (wr.alloc (.cells cs.toArray t)) wr.heap.size m) : On O w (wr.alloc (.cells cs.toArray t)) wr.heap.size m :=
  ⟨⟨_, h, fun k hk => by rw [hk]; exact hb.size⟩, hb.alloc hb.size _⟩
theorem run_eql_pair (a b : Int) (w : World) : (binOp .eql 44 (.agg #[.int .i64 a, .int .i64 b]) (.agg #[.int .i64 a, .int .i64 b])).run Try.prog w = .ok (.bool true) w := by
  have h : (Op.equalIn 10000 44 (.agg #[.int .i64 a, .int .i64 b]) (.agg #[.int .i64 a, .int .i64 b])).run Try.prog w = .ok true w := by simp [go_sem]
  rw [run_eql_struct, h]; rfl
set_option maxRecDepth 100000 in
set_option maxHeartbeats 1000000 in
theorem orderAlive_any {Od : Kind Zbl} (K : LandedOr Od) (w : World) :
    Calls Try.prog 7 #[] w fun e w' => e = .returned (.bool true) ∧ Below w.heap.size w w' := by
  have k1 := Lib.hid (fun W p (h : On Od w W p []) => h.op (fun F hF => K.put F W p [] 5 1 hF (by decide) (by decide) (by decide) (by decide) (by decide)))
  have k2 := Lib.hid (fun W p (h : On Od w W p [(5, 1)]) => h.op (fun F hF => K.put F W p [(5, 1)] 3 2 hF (by decide) (by decide) (by decide) (by decide) (by decide)))
  have k3 := Lib.hid (fun W p (h : On Od w W p [(5, 1), (3, 2)]) => (show Calls Try.prog 12 #[.pointer (some ⟨p, 0, none⟩), .int .i64 0, .int .i64 0, .bool false] W (PrsOut [(3, 2), (5, 1)] W) from by
    obtain ⟨⟨F, hF, _⟩, _⟩ := h
    exact K.range F W p _ 0 0 false hF (by decide) (by decide) (by decide) (by decide)))
  have k4 := Lib.hid (fun W p (h : On Od w W p [(5, 1), (3, 2)]) => h.ask K.toIsKind (fun F hF => K.last F W p _ hF))
  have hlat := Lib.hid (fun W W2 p (h : On Od w W p [(5, 1), (3, 2)]) (hb : Below W.heap.size W W2) => h.later K.toIsKind hb)
  rw [show putZ [] 5 1 = [(5, 1)] from rfl, show (!(getZ [] 5).isSome) = true from rfl] at k1
  rw [show putZ [(5, 1)] 3 2 = [(5, 1), (3, 2)] from rfl, show (!(getZ [(5, 1)] 3).isSome) = true from rfl] at k2
  rw [show lastZ [(5, 1), (3, 2)] = 5 from rfl] at k4
  have hT0 := On.fresh (O := Od) (Below.refl w.heap.size w) (K.new w)
  have hq := fun W => run_eql_pair 3 2 W
  have hz : zeroOr.toArray = #[.slice none 0 0] := rfl
  rw [hz] at hT0
  clear hz
  go_enter Try.func7, Try.ntmps7
  go_wp2_with fail
  refine (k1.out _ _ hT0).mono ?_
  rintro e w2 ⟨rfl, hT2⟩
  go_wp2_with fail
  refine (k2.out _ _ hT2).mono ?_
  rintro e w3 ⟨rfl, hT3⟩
  go_wp2_with fail
  refine (k3.out _ _ hT3).mono ?_
  rintro e w4 ⟨ao, cap, rfl, hp4, hb4, -⟩
  have hT4 := hlat.out _ _ _ hT3 hb4
  obtain ⟨g, o, rfl, hg, x0, x1⟩ := hp4.spot 0 (by decide)
  have x0' : w4.cell? ⟨g, o, none⟩ = some (.int .i64 3) := x0
  have x1' : w4.cell? ⟨g, o + 1, none⟩ = some (.int .i64 2) := x1
  clear x0 x1
  go_wp2_with fail
  refine (k4.out _ _ hT4).mono ?_
  rintro e w5 ⟨rfl, hT5⟩
  go_wp2
  go_ret
  exact ⟨rfl, hT5.below⟩
end Go.Proofs.Ytgpjbacggcfcmaa
