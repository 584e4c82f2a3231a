/- What the walks of stage 3's laws ask of the landed writer and reader, as lists of contracts over an object that is known by its footprint; and the law's own row of bytes. -/
import Derived.Test.YtpccoachpilfkaaTr
import Derived.Test.YtpccoachpilfkaaTg
import Derived.Test.YtpccoachpilfkaaBox
namespace Go.Proofs.Ytpccoachpilfkaa
open Go.RowKit Wm

/-- An item's bytes, and a list's. -/
def yesB (b : Bool) : ByteArray := if b then ⟨#[1]⟩ else ⟨#[0]⟩
def numB (n : Nat) : ByteArray := ⟨(bytesL n).toArray⟩
theorem numB_size (n : Nat) : (numB n).size = 16 := by
  show (bytesL n).toArray.size = 16
  simp [bytesL_length]
def itemB (x : Item) : ByteArray :=
  if x.kind = 0 then intB x.size x.n else if x.kind = 1 then numB x.wide else if x.kind = 2 then yesB x.yes else if x.kind = 3 then x.text else ByteArray.empty
def itemsB (l : List Item) : ByteArray := l.foldl (fun s x => s ++ itemB x) ByteArray.empty
theorem itemsB_take (l : List Item) (k : Nat) (h : k < l.length) : itemsB (l.take (k + 1)) = itemsB (l.take k) ++ itemB l[k] := by
  unfold itemsB
  rw [List.take_succ_eq_append_getElem h, List.foldl_append]
  rfl
theorem itemB_size (x : Item) : (itemB x).size ≤ 16 + x.text.size := by
  unfold itemB
  split
  · rw [intB_size]; have := sizeK_le x.size; omega
  · split
    · rw [numB_size]; omega
    · split
      · unfold yesB; split <;> (show 1 ≤ _; omega)
      · split
        · omega
        · show 0 ≤ _; omega
theorem itemsB_size (l : List Item) : ∀ k, k ≤ l.length → (itemsB (l.take k)).size ≤ 16 * k + textSum (l.take k)
  | 0, _ => by show 0 ≤ _; omega
  | k + 1, h => by
    have h1 := itemsB_size l k (by omega)
    have h2 := itemB_size l[k]
    rw [itemsB_take l k (by omega), ByteArray.size_append, textSum_take l k (by omega)]
    omega

/-- What a call of the writer leaves. -/
def WrPost (Wr : (Nat → Prop) → World → Nat → ByteArray → Prop) (F : Nat → Prop) (p : Nat) (bs : ByteArray) (W W' : World) : Prop :=
  ∃ F', Wr F' W' p bs ∧ Only F W W' ∧ ∀ k, k < W.heap.size → F' k → F k
/-- The landed writer. -/
structure LandedWr (Wr : (Nat → Prop) → World → Nat → ByteArray → Prop) : Prop where
  near : ∀ F W p bs, Wr F W p bs → ∀ k, F k → k < W.heap.size
  keep : ∀ F G W W' p bs, Wr F W p bs → Only G W W' → (∀ k, F k → ¬ G k) → Wr F W' p bs
  new : ∀ W : World, Wr (fun k => k = W.heap.size) (W.alloc (.cells #[.slice none 0 0] 48)) W.heap.size ByteArray.empty
  int : ∀ F W p bs (size n : Int), Wr F W p bs → bs.size ≤ 16384 → -9223372036854775808 ≤ n → n ≤ 9223372036854775807 →
    Calls Try.prog 23 #[.pointer (some ⟨p, 0, none⟩), .int .i64 size, .int .i64 n] W fun e W' => e = .returned (.tuple #[]) ∧ WrPost Wr F p (bs ++ intB size n) W W'
  num : ∀ F W p bs (n : Nat), Wr F W p bs → bs.size ≤ 16384 → n < big →
    Calls Try.prog 24 #[.pointer (some ⟨p, 0, none⟩), numV n] W fun e W' => e = .returned (.tuple #[]) ∧ WrPost Wr F p (bs ++ numB n) W W'
  flag : ∀ F W p bs (b : Bool), Wr F W p bs → bs.size ≤ 16384 →
    Calls Try.prog 25 #[.pointer (some ⟨p, 0, none⟩), .bool b] W fun e W' => e = .returned (.tuple #[]) ∧ WrPost Wr F p (bs ++ yesB b) W W'
  raw : ∀ F W p bs (s : ByteArray), Wr F W p bs → bs.size ≤ 16384 → s.size ≤ 16384 →
    Calls Try.prog 26 #[.pointer (some ⟨p, 0, none⟩), .string s] W fun e W' => e = .returned (.tuple #[]) ∧ WrPost Wr F p (bs ++ s) W W'
  len : ∀ F W p bs, Wr F W p bs → bs.size ≤ 32768 →
    Calls Try.prog 11 #[.pointer (some ⟨p, 0, none⟩)] W fun e W' => e = .returned (.int .i64 ((bs.size : Nat) : Int)) ∧ Below W.heap.size W W'
  str : ∀ F W p bs, Wr F W p bs → bs.size ≤ 32768 →
    Calls Try.prog 10 #[.pointer (some ⟨p, 0, none⟩)] W fun e W' => e = .returned (.string bs) ∧ Below W.heap.size W W'
theorem LandedWr.later {Wr : (Nat → Prop) → World → Nat → ByteArray → Prop} (K : LandedWr Wr) {F : Nat → Prop} {W W' : World} {p : Nat} {bs : ByteArray} (h : Wr F W p bs) (hb : Below W.heap.size W W') : Wr F W' p bs :=
  K.keep F (fun _ => False) W W' p bs h (Only.of_below hb) (fun _ _ e => e)
end Go.Proofs.Ytpccoachpilfkaa
