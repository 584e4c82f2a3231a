/- Plain arithmetic for layer 1: a number of 128 bits as its two words, bit by bit sums and differences. No condition. -/
/- The contracts of the document's own sums and order (bit by bit) and of layer 1's order. Numbers below 2^128. -/
/- Item: an argument of the type bondstorelaw03.Item, and of slices of it: what its cells hold. No condition. -/
import Derived.Test.YtgolddcmhjdmdaaRows
import Derived.Laws.Bits64
import Derived.RowKit
import Derived.WalkKit
import Derived.Shelf.Bits.Mul64
import Derived.WalkSpells
import Derived.WalkLawsBesides
import Derived.Lib.QuietBelow
import Derived.Lib.Hide
import Derived.BigQuiet
import Derived.Laws.Externs
import Derived.Shelf.Spec.BitsCarry
import Derived.Deep.Slices
import Derived.ChangeArms
import Derived.ChangeSame
import Derived.OpenShut
import Derived.SizedLaws
import Derived.Below
import Derived.KernelRfl
namespace Go.Proofs.Ytgolddcmhjdmdaa.Wm
open Go Go.RowKit

/-- The two words of a number below 2^128. -/
def hiN (n : Nat) : Nat := n / 18446744073709551616
def loN (n : Nat) : Nat := n % 18446744073709551616
def num (h l : Nat) : Nat := h * 18446744073709551616 + l
def big : Nat := 340282366920938463463374607431768211456

theorem wrap_u64_small (n : Nat) (h : n < 18446744073709551616) : IntKind.u64.wrap (n : Int) = (n : Int) := by rw [IntKind.wrap_u64]; omega
/-- The lowest k decimal digits, the highest first, as bytes. -/
def digB (n : Nat) : UInt8 := UInt8.ofNat (48 + n % 10)
def decN : Nat → Nat → List UInt8
  | 0, _ => []
  | k + 1, n => digB (n / 10 ^ k) :: decN k n
theorem decN_length : ∀ k n, (decN k n).length = k
  | 0, _ => rfl
  | k + 1, n => by simp [decN, decN_length k n]
end Go.Proofs.Ytgolddcmhjdmdaa.Wm
namespace Go.Proofs.Ytgolddcmhjdmdaa
open Go.RowKit Go.Sort Wm

/-- Two numbers that a call has boxed. -/
structure Two (w wr : World) (a b : Nat) : Prop where
  c0 : wr.cell? ⟨w.heap.size, 0, none⟩ = some (.int .u64 ((hiN a : Nat) : Int))
  c1 : wr.cell? ⟨w.heap.size, 1, none⟩ = some (.int .u64 ((loN a : Nat) : Int))
  c2 : wr.cell? ⟨w.heap.size + 1, 0, none⟩ = some (.int .u64 ((hiN b : Nat) : Int))
  c3 : wr.cell? ⟨w.heap.size + 1, 1, none⟩ = some (.int .u64 ((loN b : Nat) : Int))
  size : w.heap.size + 2 ≤ wr.heap.size
  below : Below w.heap.size w wr
theorem Two.later {w wr w2 : World} {a b : Nat} (h : Two w wr a b) (hb : Below wr.heap.size wr w2) : Two w w2 a b :=
  have hs := h.size
  ⟨(hb.cell (by show w.heap.size < _; omega)).trans h.c0, (hb.cell (by show w.heap.size < _; omega)).trans h.c1, (hb.cell (by show w.heap.size + 1 < _; omega)).trans h.c2, (hb.cell (by show w.heap.size + 1 < _; omega)).trans h.c3,
    Nat.le_trans h.size hb.size, h.below.trans (hb.mono (by omega))⟩

/-- Two boxed numbers, a result's cell and a number that is gathered. -/
structure Gath (w wr : World) (g a b o : Nat) : Prop where
  two : Two w wr a b
  r0 : ∃ v, wr.cell? ⟨w.heap.size + 1 + 1, 0, none⟩ = some v
  r1 : ∃ v, wr.cell? ⟨w.heap.size + 1 + 1, 1, none⟩ = some v
  f0 : wr.frozen? ⟨w.heap.size + 1 + 1, 0, none⟩ = false
  f1 : wr.frozen? ⟨w.heap.size + 1 + 1, 1, none⟩ = false
  o0 : wr.cell? ⟨g, 0, none⟩ = some (.int .u64 ((hiN o : Nat) : Int))
  o1 : wr.cell? ⟨g, 1, none⟩ = some (.int .u64 ((loN o : Nat) : Int))
  g0 : wr.frozen? ⟨g, 0, none⟩ = false
  g1 : wr.frozen? ⟨g, 1, none⟩ = false
  lt : w.heap.size + 1 + 1 < g
  size : g < wr.heap.size
theorem Gath.later {w wr w2 : World} {g a b o : Nat} (h : Gath w wr g a b o) (hb : Below wr.heap.size wr w2) : Gath w w2 g a b o :=
  have hs := h.size
  have hl := h.lt
  have c2 : ∀ j, w2.cell? ⟨w.heap.size + 1 + 1, j, none⟩ = wr.cell? ⟨w.heap.size + 1 + 1, j, none⟩ := fun j => hb.cell (by show w.heap.size + 1 + 1 < _; omega)
  have c3 : ∀ j, w2.cell? ⟨g, j, none⟩ = wr.cell? ⟨g, j, none⟩ := fun j => hb.cell (by show g < _; omega)
  have f2 : ∀ j, w2.frozen? ⟨w.heap.size + 1 + 1, j, none⟩ = wr.frozen? ⟨w.heap.size + 1 + 1, j, none⟩ := fun j => hb.frozen (by show w.heap.size + 1 + 1 < _; omega)
  have f3 : ∀ j, w2.frozen? ⟨g, j, none⟩ = wr.frozen? ⟨g, j, none⟩ := fun j => hb.frozen (by show g < _; omega)
  ⟨h.two.later hb, by rw [c2]; exact h.r0, by rw [c2]; exact h.r1, by rw [f2]; exact h.f0, by rw [f2]; exact h.f1, by rw [c3]; exact h.o0, by rw [c3]; exact h.o1, by rw [f3]; exact h.g0, by rw [f3]; exact h.g1, h.lt, Nat.lt_of_lt_of_le h.size hb.size⟩

theorem cell_put0 {W : World} {b : Nat} {x y u v : Value} (h : W.cell? ⟨b, 0, none⟩ = some u) (_k : W.cell? ⟨b, 1, none⟩ = some v) : ((W.setCell ⟨b, 0, none⟩ x).setCell ⟨b, 1, none⟩ y).cell? ⟨b, 0, none⟩ = some x := by
  rw [World.cell?_setCell_other (h := by simp), World.cell?_setCell_same (h := h)]
theorem cell_put1 {W : World} {b : Nat} {x y u v : Value} (_h : W.cell? ⟨b, 0, none⟩ = some u) (k : W.cell? ⟨b, 1, none⟩ = some v) : ((W.setCell ⟨b, 0, none⟩ x).setCell ⟨b, 1, none⟩ y).cell? ⟨b, 1, none⟩ = some y := by
  rw [World.cell?_setCell_same (u := v)]
  rw [World.cell?_setCell_other (h := by simp)]; exact k
theorem cell_put_far {W : World} {b c j : Nat} {x y : Value} (h : c ≠ b) : ((W.setCell ⟨b, 0, none⟩ x).setCell ⟨b, 1, none⟩ y).cell? ⟨c, j, none⟩ = W.cell? ⟨c, j, none⟩ := by
  rw [World.cell?_setCell_other, World.cell?_setCell_other]
  all_goals (intro e; injection e with e1 _ _; exact h e1.symm)
theorem Two.put {w wr : World} {a b : Nat} (h : Two w wr a b) {c : Nat} (x y : Value) (hc : w.heap.size + 1 < c) : Two w ((wr.setCell ⟨c, 0, none⟩ x).setCell ⟨c, 1, none⟩ y) a b :=
  ⟨by rw [cell_put_far (by omega)]; exact h.c0, by rw [cell_put_far (by omega)]; exact h.c1, by rw [cell_put_far (by omega)]; exact h.c2, by rw [cell_put_far (by omega)]; exact h.c3, by simpa using h.size,
    (h.below.setCell (by show _ ≤ c; omega) _).setCell (by show _ ≤ c; omega) _⟩
theorem Gath.put {w wr : World} {g a b o o' : Nat} (h : Gath w wr g a b o) : Gath w ((wr.setCell ⟨g, 0, none⟩ (.int .u64 ((hiN o' : Nat) : Int))).setCell ⟨g, 1, none⟩ (.int .u64 ((loN o' : Nat) : Int))) g a b o' :=
  have hl := h.lt
  ⟨h.two.put _ _ (by omega), by rw [cell_put_far (by omega)]; exact h.r0, by rw [cell_put_far (by omega)]; exact h.r1, by simpa using h.f0, by simpa using h.f1, cell_put0 h.o0 h.o1, cell_put1 h.o0 h.o1, by simpa using h.g0, by simpa using h.g1, h.lt, by simpa using h.size⟩
/-- Two boxed numbers and a result's cell. -/
structure Res (w wr : World) (a b : Nat) : Prop where
  two : Two w wr a b
  r0 : ∃ v, wr.cell? ⟨w.heap.size + 1 + 1, 0, none⟩ = some v
  r1 : ∃ v, wr.cell? ⟨w.heap.size + 1 + 1, 1, none⟩ = some v
  f0 : wr.frozen? ⟨w.heap.size + 1 + 1, 0, none⟩ = false
  f1 : wr.frozen? ⟨w.heap.size + 1 + 1, 1, none⟩ = false
  size : w.heap.size + 1 + 1 < wr.heap.size
theorem Res.later {w wr w2 : World} {a b : Nat} (h : Res w wr a b) (hb : Below wr.heap.size wr w2) : Res w w2 a b :=
  have hs := h.size
  have c2 : ∀ j, w2.cell? ⟨w.heap.size + 1 + 1, j, none⟩ = wr.cell? ⟨w.heap.size + 1 + 1, j, none⟩ := fun j => hb.cell (by show w.heap.size + 1 + 1 < _; omega)
  have f2 : ∀ j, w2.frozen? ⟨w.heap.size + 1 + 1, j, none⟩ = wr.frozen? ⟨w.heap.size + 1 + 1, j, none⟩ := fun j => hb.frozen (by show w.heap.size + 1 + 1 < _; omega)
  ⟨h.two.later hb, by rw [c2]; exact h.r0, by rw [c2]; exact h.r1, by rw [f2]; exact h.f0, by rw [f2]; exact h.f1, Nat.lt_of_lt_of_le h.size hb.size⟩
theorem bl_put {w wr : World} {c : Nat} {x y : Value} (h : Below w.heap.size w wr) (hc : w.heap.size ≤ c) : Below w.heap.size w ((wr.setCell ⟨c, 0, none⟩ x).setCell ⟨c, 1, none⟩ y) :=
  (h.setCell (by show _ ≤ c; omega) _).setCell (by show _ ≤ c; omega) _

/-- One boxed number and a result's cell behind it. -/
structure One (w wr : World) (n : Nat) : Prop where
  c0 : wr.cell? ⟨w.heap.size, 0, none⟩ = some (.int .u64 ((hiN n : Nat) : Int))
  c1 : wr.cell? ⟨w.heap.size, 1, none⟩ = some (.int .u64 ((loN n : Nat) : Int))
  r0 : ∃ v, wr.cell? ⟨w.heap.size + 1, 0, none⟩ = some v
  r1 : ∃ v, wr.cell? ⟨w.heap.size + 1, 1, none⟩ = some v
  f0 : wr.frozen? ⟨w.heap.size + 1, 0, none⟩ = false
  f1 : wr.frozen? ⟨w.heap.size + 1, 1, none⟩ = false
  size : w.heap.size + 1 < wr.heap.size
  below : Below w.heap.size w wr
theorem One.later {w wr w2 : World} {n : Nat} (h : One w wr n) (hb : Below wr.heap.size wr w2) : One w w2 n :=
  have hs := h.size
  have c1 : ∀ j, w2.cell? ⟨w.heap.size, j, none⟩ = wr.cell? ⟨w.heap.size, j, none⟩ := fun j => hb.cell (by show w.heap.size < _; omega)
  have c2 : ∀ j, w2.cell? ⟨w.heap.size + 1, j, none⟩ = wr.cell? ⟨w.heap.size + 1, j, none⟩ := fun j => hb.cell (by show w.heap.size + 1 < _; omega)
  have f2 : ∀ j, w2.frozen? ⟨w.heap.size + 1, j, none⟩ = wr.frozen? ⟨w.heap.size + 1, j, none⟩ := fun j => hb.frozen (by show w.heap.size + 1 < _; omega)
  ⟨by rw [c1]; exact h.c0, by rw [c1]; exact h.c1, by rw [c2]; exact h.r0, by rw [c2]; exact h.r1, by rw [f2]; exact h.f0, by rw [f2]; exact h.f1, Nat.lt_of_lt_of_le h.size hb.size, h.below.trans (hb.mono (by omega))⟩
end Go.Proofs.Ytgolddcmhjdmdaa
namespace Go.Proofs.Ytgolddcmhjdmdaa
open Go.RowKit Go.ChangeShapes Go.WideShapes Go.Deep Wm

structure Item where
  kind : Int
  size : Int
  n : Int
  wide : Nat
  yes : Bool
  text : ByteArray
  deriving Inhabited
/-- Its cells. -/
def Item.cells (x : Item) : List Value := [.int .i64 x.kind, .int .i64 x.size, .int .i64 x.n, .int .u64 ((hiN x.wide : Nat) : Int), .int .u64 ((loN x.wide : Nat) : Int), .bool x.yes, .string x.text]
theorem Item.cells_length (x : Item) : x.cells.length = 7 := rfl
structure Item.Wf (x : Item) : Prop where
  kind : -9223372036854775808 ≤ x.kind ∧ x.kind ≤ 9223372036854775807
  size : -9223372036854775808 ≤ x.size ∧ x.size ≤ 9223372036854775807
  n : -9223372036854775808 ≤ x.n ∧ x.n ≤ 9223372036854775807
  wide : x.wide < big
  text : x.text.size ≤ 140737488351232

section
variable {H : Type} {enc : TypeId × Value → H} {w : World} {base : Nat} {spare : Nat → Bool} {held : Bool}
end

/-- A slice of them in memory. -/
structure ItemsAt (w : World) (ao : Option Addr) (l : List Item) : Prop where
  spot : ∀ k (h : k < l.length), ∃ b off, ao = some ⟨b, off, none⟩ ∧ b < w.heap.size ∧ ∀ j v, (l[k]).cells[j]? = some v → w.cell? ⟨b, off + k * 7 + j, none⟩ = some v
theorem ItemsAt.later {w w2 : World} {ao : Option Addr} {l : List Item} (h : ItemsAt w ao l) (hb : Below w.heap.size w w2) : ItemsAt w2 ao l :=
  ⟨fun k hk => by
    obtain ⟨b, off, e, hlt, hc⟩ := h.spot k hk
    exact ⟨b, off, e, Nat.lt_of_lt_of_le hlt hb.size, fun j v hj => by rw [hb.cell (p := ⟨b, off + k * 7 + j, none⟩) hlt]; exact hc j v hj⟩⟩
theorem ItemsAt.below {B : Nat} {w w2 : World} {ao : Option Addr} {l : List Item} (h : ItemsAt w ao l) (hb : Below B w w2) (hB : w.heap.size ≤ B) : ItemsAt w2 ao l := h.later (hb.mono hB)
section
variable {H : Type} {enc : TypeId × Value → H} {w : World} {base : Nat} {spare : Nat → Bool} {held : Bool}
end
end Go.Proofs.Ytgolddcmhjdmdaa
