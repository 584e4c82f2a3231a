/- Item: an argument of the type bondstorelaw03.Item, and of slices of it: what its cells hold. No condition. -/
/- What the walks of stage 3's laws ask of the landed writer and reader, as lists of contracts over an object that is known by its footprint; and the law's own row of bytes. -/
/- The law's own writing of items, walked out of the landed writer's contracts. -/
import Derived.Test.YtlalkfebedjlgaaDoorRows
import Derived.Test.YtlalkfebedjlgaaDoorZWa
import Derived.Test.YtlalkfebedjlgaaDoorZTr
import Derived.Test.YtlalkfebedjlgaaDoorZPl
import Derived.Deep.Slices
import Derived.ChangeArms
import Derived.ChangeSame
import Derived.OpenShut
import Derived.SizedLaws
import Derived.Below
import Derived.WalkKit
import Derived.KernelRfl
import Derived.WalkSpells
import Derived.WalkLawsBesides
import Derived.Lib.Hide
import Derived.LoopTactic
namespace Go.Proofs.YtlalkfebedjlgaaDoor
open Go.RowKit Go.ChangeShapes Go.WideShapes Go.Deep Wm

structure Item where
  kind : Int
  size : Int
  n : Int
  wide : Nat
  yes : Bool
  text : ByteArray
  deriving Inhabited
/-- Its cells. -/
def Item.cells (x : Item) : List Value := [.int .i64 x.kind, .int .i64 x.size, .int .i64 x.n, .int .u64 ((hiN x.wide : Nat) : Int), .int .u64 ((loN x.wide : Nat) : Int), .bool x.yes, .string x.text]
theorem Item.cells_length (x : Item) : x.cells.length = 7 := rfl
structure Item.Wf (x : Item) : Prop where
  kind : -9223372036854775808 ≤ x.kind ∧ x.kind ≤ 9223372036854775807
  size : -9223372036854775808 ≤ x.size ∧ x.size ≤ 9223372036854775807
  n : -9223372036854775808 ≤ x.n ∧ x.n ≤ 9223372036854775807
  wide : x.wide < big
  text : x.text.size ≤ 140737488351232

section
variable {H : Type} {enc : TypeId × Value → H} {w : World} {base : Nat} {spare : Nat → Bool} {held : Bool}
end

/-- A slice of them in memory. -/
structure ItemsAt (w : World) (ao : Option Addr) (l : List Item) : Prop where
  spot : ∀ k (h : k < l.length), ∃ b off, ao = some ⟨b, off, none⟩ ∧ b < w.heap.size ∧ ∀ j v, (l[k]).cells[j]? = some v → w.cell? ⟨b, off + k * 7 + j, none⟩ = some v
theorem ItemsAt.later {w w2 : World} {ao : Option Addr} {l : List Item} (h : ItemsAt w ao l) (hb : Below w.heap.size w w2) : ItemsAt w2 ao l :=
  ⟨fun k hk => by
    obtain ⟨b, off, e, hlt, hc⟩ := h.spot k hk
    exact ⟨b, off, e, Nat.lt_of_lt_of_le hlt hb.size, fun j v hj => by rw [hb.cell (p := ⟨b, off + k * 7 + j, none⟩) hlt]; exact hc j v hj⟩⟩
theorem ItemsAt.below {B : Nat} {w w2 : World} {ao : Option Addr} {l : List Item} (h : ItemsAt w ao l) (hb : Below B w w2) (hB : w.heap.size ≤ B) : ItemsAt w2 ao l := h.later (hb.mono hB)
section
variable {H : Type} {enc : TypeId × Value → H} {w : World} {base : Nat} {spare : Nat → Bool} {held : Bool}
end
end Go.Proofs.YtlalkfebedjlgaaDoor
namespace Go.Proofs.YtlalkfebedjlgaaDoor
open Go.RowKit Wm

/-- An item's bytes, and a list's. -/
def yesB (b : Bool) : ByteArray := if b then ⟨#[1]⟩ else ⟨#[0]⟩
def numB (n : Nat) : ByteArray := ⟨(bytesL n).toArray⟩
theorem numB_size (n : Nat) : (numB n).size = 16 := by
  show (bytesL n).toArray.size = 16
  simp [bytesL_length]
def itemB (x : Item) : ByteArray :=
  if x.kind = 0 then intB x.size x.n else if x.kind = 1 then numB x.wide else if x.kind = 2 then yesB x.yes else if x.kind = 3 then x.text else ByteArray.empty
def itemsB (l : List Item) : ByteArray := l.foldl (fun s x => s ++ itemB x) ByteArray.empty
theorem itemsB_take (l : List Item) (k : Nat) (h : k < l.length) : itemsB (l.take (k + 1)) = itemsB (l.take k) ++ itemB l[k] := by
  unfold itemsB
  rw [List.take_succ_eq_append_getElem h, List.foldl_append]
  rfl
/-- What a call of the writer leaves. -/
def WrPost (Wr : (Nat → Prop) → World → Nat → ByteArray → Prop) (F : Nat → Prop) (p : Nat) (bs : ByteArray) (W W' : World) : Prop :=
  ∃ F', Wr F' W' p bs ∧ Only F W W' ∧ ∀ k, k < W.heap.size → F' k → F k
/-- The landed writer. -/
structure LandedWr (Wr : (Nat → Prop) → World → Nat → ByteArray → Prop) : Prop where
  near : ∀ F W p bs, Wr F W p bs → ∀ k, F k → k < W.heap.size
  keep : ∀ F G W W' p bs, Wr F W p bs → Only G W W' → (∀ k, F k → ¬ G k) → Wr F W' p bs
  new : ∀ W : World, Wr (fun k => k = W.heap.size) (W.alloc (.cells #[.slice none 0 0] 39)) W.heap.size ByteArray.empty
  int : ∀ F W p bs (size n : Int), Wr F W p bs → bs.size ≤ 16384 → -9223372036854775808 ≤ n → n ≤ 9223372036854775807 →
    Calls Tryd.prog 40 #[.pointer (some ⟨p, 0, none⟩), .int .i64 size, .int .i64 n] W fun e W' => e = .returned (.tuple #[]) ∧ WrPost Wr F p (bs ++ intB size n) W W'
  num : ∀ F W p bs (n : Nat), Wr F W p bs → bs.size ≤ 16384 → n < big →
    Calls Tryd.prog 39 #[.pointer (some ⟨p, 0, none⟩), numV n] W fun e W' => e = .returned (.tuple #[]) ∧ WrPost Wr F p (bs ++ numB n) W W'
  raw : ∀ F W p bs (s : ByteArray), Wr F W p bs → bs.size ≤ 16384 → s.size ≤ 16384 →
    Calls Tryd.prog 49 #[.pointer (some ⟨p, 0, none⟩), .string s] W fun e W' => e = .returned (.tuple #[]) ∧ WrPost Wr F p (bs ++ s) W W'
  len : ∀ F W p bs, Wr F W p bs → bs.size ≤ 32768 →
    Calls Tryd.prog 26 #[.pointer (some ⟨p, 0, none⟩)] W fun e W' => e = .returned (.int .i64 ((bs.size : Nat) : Int)) ∧ Below W.heap.size W W'
  str : ∀ F W p bs, Wr F W p bs → bs.size ≤ 32768 →
    Calls Tryd.prog 22 #[.pointer (some ⟨p, 0, none⟩)] W fun e W' => e = .returned (.string bs) ∧ Below W.heap.size W W'
theorem LandedWr.later {Wr : (Nat → Prop) → World → Nat → ByteArray → Prop} (K : LandedWr Wr) {F : Nat → Prop} {W W' : World} {p : Nat} {bs : ByteArray} (h : Wr F W p bs) (hb : Below W.heap.size W W') : Wr F W' p bs :=
  K.keep F (fun _ => False) W W' p bs h (Only.of_below hb) (fun _ _ e => e)
end Go.Proofs.YtlalkfebedjlgaaDoor
namespace Go.Proofs.YtlalkfebedjlgaaDoor
open Go.RowKit Wm

/-- What is known while items are written. -/
structure Putting (Wr : (Nat → Prop) → World → Nat → ByteArray → Prop) (w wr : World) (l : List Item) (k : Nat) : Prop where
  own : ∃ F : Nat → Prop, Wr F wr w.heap.size (itemsB (l.take k)) ∧ ∀ j, F j → w.heap.size ≤ j
  below : Below w.heap.size w wr
theorem Putting.next {Wr : (Nat → Prop) → World → Nat → ByteArray → Prop} (K : LandedWr Wr) {w wx w2 w3 : World} {l : List Item} {k : Nat} (hk : k < l.length) {F : Nat → Prop} (hF : ∀ j, F j → w.heap.size ≤ j)
    (hb : Below w.heap.size w wx) (h : WrPost Wr F w.heap.size (itemsB (l.take k) ++ itemB l[k]) wx w2) (h3 : Below w2.heap.size w2 w3) : Putting Wr w w3 l (k + 1) := by
  obtain ⟨F', h1, h2, h4⟩ := h
  refine ⟨⟨F', by rw [itemsB_take l k hk]; exact K.later h1 h3, fun j hj => ?_⟩, ?_⟩
  · by_cases hlt : j < wx.heap.size
    · exact hF j (h4 j hlt hj)
    · have := hb.size; omega
  · exact (hb.trans (h2.to_below hb.size hF)).trans (h3.mono (by have := h2.size; have := hb.size; omega))

theorem refbytesN_any (n : Nat) (w : World) :
    Calls Tryd.prog 44 #[numV n] w fun e w' => e = .returned (.string (numB n)) ∧ Below w.heap.size w w' := refbytes_any n w
theorem WrPost.only {Wr : (Nat → Prop) → World → Nat → ByteArray → Prop} {F : Nat → Prop} {p : Nat} {bs : ByteArray} {W W' : World} (h : WrPost Wr F p bs W W') : Only F W W' := h.choose_spec.2.1
theorem WrPost.same {Wr : (Nat → Prop) → World → Nat → ByteArray → Prop} {F : Nat → Prop} {p : Nat} {bs : ByteArray} {W : World} (h : Wr F W p bs) : WrPost Wr F p (bs ++ ByteArray.empty) W W :=
  ⟨F, by rw [ByteArray.append_empty]; exact h, Only.refl _ _, fun _ _ e => e⟩

end Go.Proofs.YtlalkfebedjlgaaDoor
