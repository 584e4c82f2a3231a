/- The document's Int and Back: a number's lowest bytes, and the number that bytes are. No condition but at most eight bytes. -/
/- A block of known cells, carried along. Plain, over whatever program. No condition. -/
/- What the walks of stage 3's laws ask of the landed writer and reader, as lists of contracts over an object that is known by its footprint; and the law's own row of bytes. -/
import Derived.Test.YtdphflbgecnhkaaDoorZBc
import Derived.Test.YtdphflbgecnhkaaDoorZTi
import Derived.Test.YtdphflbgecnhkaaDoorZOnly
import Derived.Lib.MinMax
import Derived.BigQuiet
import Derived.WalkKit
import Derived.WalkSpells
import Derived.WalkLawsBesides
import Derived.Lib.Hide
import Derived.LoopTactic
namespace Go.Proofs.YtdphflbgecnhkaaDoor
open Go.RowKit Wm

/-- How many bytes; the number without a sign. -/
def sizeK (size : Int) : Nat := (min (max size 1) 8).toNat
def u64N (n : Int) : Nat := (n % 18446744073709551616).toNat
theorem u64N_lt (n : Int) : u64N n < 18446744073709551616 := by unfold u64N; omega
/-- The bytes of a number. -/
def intB (size n : Int) : ByteArray := textP (u64N n) (sizeK size)
theorem intB_size (size n : Int) : (intB size n).size = sizeK size := textP_size _ _
/-- The number that bytes are, the lowest first. -/
def valL : List Nat → Nat
  | [] => 0
  | b :: r => b + 256 * valL r
/-- A text's bytes as numbers. -/
def bytesN (s : ByteArray) : List Nat := s.data.toList.map UInt8.toNat
theorem bytesN_length (s : ByteArray) : (bytesN s).length = s.size := by unfold bytesN; rw [List.length_map]; rfl
theorem bytesN_lt (s : ByteArray) : ∀ b ∈ bytesN s, b < 256 := by
  intro b hb
  unfold bytesN at hb
  obtain ⟨x, _, rfl⟩ := List.mem_map.mp hb
  exact UInt8.toNat_lt x
theorem valL_lt : ∀ (l : List Nat), (∀ b ∈ l, b < 256) → valL l < 256 ^ l.length
  | [], _ => by simp [valL]
  | b :: r, h => by
    have h1 := valL_lt r (fun x hx => h x (List.mem_cons_of_mem _ hx))
    have h2 := h b (List.mem_cons_self ..)
    simp only [valL, List.length_cons, Nat.pow_succ]
    omega
end Go.Proofs.YtdphflbgecnhkaaDoor
namespace Go.Proofs.YtdphflbgecnhkaaDoor
open Go.RowKit

/-- The cells of a block. -/
structure BoxAt (w : World) (b : Nat) (cs : List Value) : Prop where
  spot : ∀ j v, cs[j]? = some v → w.cell? ⟨b, j, none⟩ = some v
  lt : b < w.heap.size
theorem BoxAt.new (w : World) (cs : List Value) (t : TypeId) : BoxAt (w.alloc (.cells cs.toArray t)) w.heap.size cs :=
  ⟨fun j v hj => by simpa [go_sem] using hj, by simp⟩
theorem BoxAt.later {w w2 : World} {b : Nat} {cs : List Value} (h : BoxAt w b cs) (hb : Below w.heap.size w w2) : BoxAt w2 b cs :=
  ⟨fun j v hj => by rw [hb.cell (p := ⟨b, j, none⟩) h.lt]; exact h.spot j v hj, Nat.lt_of_lt_of_le h.lt hb.size⟩
theorem BoxAt.only {F : Nat → Prop} {w w2 : World} {b : Nat} {cs : List Value} (h : BoxAt w b cs) (hb : Only F w w2) (hf : ¬ F b) : BoxAt w2 b cs :=
  ⟨fun j v hj => by rw [hb.cell (p := ⟨b, j, none⟩) h.lt hf]; exact h.spot j v hj, Nat.lt_of_lt_of_le h.lt hb.size⟩
end Go.Proofs.YtdphflbgecnhkaaDoor
namespace Go.Proofs.YtdphflbgecnhkaaDoor
open Go.RowKit Wm

/-- An item's bytes, and a list's. -/
def yesB (b : Bool) : ByteArray := if b then ⟨#[1]⟩ else ⟨#[0]⟩
def numB (n : Nat) : ByteArray := ⟨(bytesL n).toArray⟩
theorem numB_size (n : Nat) : (numB n).size = 16 := by
  show (bytesL n).toArray.size = 16
  simp [bytesL_length]
def itemB (x : Item) : ByteArray :=
  if x.kind = 0 then intB x.size x.n else if x.kind = 1 then numB x.wide else if x.kind = 2 then yesB x.yes else if x.kind = 3 then x.text else ByteArray.empty
def itemsB (l : List Item) : ByteArray := l.foldl (fun s x => s ++ itemB x) ByteArray.empty
theorem itemsB_take (l : List Item) (k : Nat) (h : k < l.length) : itemsB (l.take (k + 1)) = itemsB (l.take k) ++ itemB l[k] := by
  unfold itemsB
  rw [List.take_succ_eq_append_getElem h, List.foldl_append]
  rfl
/-- What a call of the writer leaves. -/
def WrPost (Wr : (Nat → Prop) → World → Nat → ByteArray → Prop) (F : Nat → Prop) (p : Nat) (bs : ByteArray) (W W' : World) : Prop :=
  ∃ F', Wr F' W' p bs ∧ Only F W W' ∧ ∀ k, k < W.heap.size → F' k → F k
/-- The landed writer. -/
structure LandedWr (Wr : (Nat → Prop) → World → Nat → ByteArray → Prop) : Prop where
  near : ∀ F W p bs, Wr F W p bs → ∀ k, F k → k < W.heap.size
  keep : ∀ F G W W' p bs, Wr F W p bs → Only G W W' → (∀ k, F k → ¬ G k) → Wr F W' p bs
theorem LandedWr.later {Wr : (Nat → Prop) → World → Nat → ByteArray → Prop} (K : LandedWr Wr) {F : Nat → Prop} {W W' : World} {p : Nat} {bs : ByteArray} (h : Wr F W p bs) (hb : Below W.heap.size W W') : Wr F W' p bs :=
  K.keep F (fun _ => False) W W' p bs h (Only.of_below hb) (fun _ _ e => e)
end Go.Proofs.YtdphflbgecnhkaaDoor
