/- The document's Int and Back: a number's lowest bytes, and the number that bytes are. No condition but at most eight bytes. -/
/- Item: an argument of the type bondstorelaw03.Item, and of slices of it: what its cells hold. No condition. -/
/- What the walks of stage 3's laws ask of the landed writer and reader, as lists of contracts over an object that is known by its footprint; and the law's own row of bytes. -/
/- The law's own writing of items, walked out of the landed writer's contracts. -/
import Derived.Test.YtfdanlfiaoedfaaRows
import Derived.Test.YtfdanlfiaoedfaaZAv
import Derived.Test.YtfdanlfiaoedfaaZBc
import Derived.Test.YtfdanlfiaoedfaaZCalb
import Derived.Lib.MinMax
import Derived.BigQuiet
import Derived.Deep.Slices
import Derived.ChangeArms
import Derived.ChangeSame
import Derived.OpenShut
import Derived.SizedLaws
import Derived.Below
import Derived.WalkKit
import Derived.KernelRfl
import Derived.WalkSpells
import Derived.WalkLawsBesides
import Derived.Lib.Hide
import Derived.LoopTactic
namespace Go.Proofs.Ytfdanlfiaoedfaa
open Go.RowKit Wm

/-- How many bytes; the number without a sign. -/
def sizeK (size : Int) : Nat := (min (max size 1) 8).toNat
def u64N (n : Int) : Nat := (n % 18446744073709551616).toNat
theorem sizeK_le (size : Int) : 1 ≤ sizeK size ∧ sizeK size ≤ 8 := by unfold sizeK; omega
theorem sizeK_int (size : Int) : min (max size 1) 8 = ((sizeK size : Nat) : Int) := by unfold sizeK; omega
theorem u64N_lt (n : Int) : u64N n < 18446744073709551616 := by unfold u64N; omega
theorem u64N_int (n : Int) : n % 18446744073709551616 = ((u64N n : Nat) : Int) := by unfold u64N; omega
theorem u64N_wrap (n : Int) : IntKind.u64.wrap n = ((u64N n : Nat) : Int) := by rw [← u64N_int]; simp [IntKind.wrap, IntKind.bits, IntKind.signed]
/-- The bytes of a number. -/
def intB (size n : Int) : ByteArray := textP (u64N n) (sizeK size)
theorem intB_size (size n : Int) : (intB size n).size = sizeK size := textP_size _ _
theorem byte_form (U m : Nat) : ((U / 2 ^ (8 * m) : Nat) : Int) % 256 = (((byteN U m).toNat : Nat) : Int) := by
  rw [byteN_toNat]; exact (Int.natCast_emod _ _).symm
theorem div_form (U m : Nat) : ((U / 2 ^ (8 * m) : Nat) : Int) / 256 = ((U / 2 ^ (8 * (m + 1)) : Nat) : Int) := by
  rw [show 8 * (m + 1) = 8 * m + 8 by omega, Nat.pow_add, ← Nat.div_div_eq_div_mul]
  exact (Int.natCast_ediv _ _).symm
theorem part_lt (U m : Nat) (h : U < 18446744073709551616) : U / 2 ^ (8 * m) < 18446744073709551616 := Nat.lt_of_le_of_lt (Nat.div_le_self _ _) h

set_option maxRecDepth 100000 in
set_option maxHeartbeats 1000000 in
theorem refint_any (size n : Int) (w : World) :
    Calls Try.prog 37 #[.int .i64 size, .int .i64 n] w fun e w' => e = .returned (.string (intB size n)) ∧ Below w.heap.size w w' := by
  have hk := sizeK_le size
  have hki := Lib.hid (sizeK_int size)
  have hU := u64N_lt n
  have hUi := Lib.hid (u64N_int n)
  have hUw := Lib.hid (u64N_wrap n)
  have hB := Lib.hid (show intB size n = textP (u64N n) (sizeK size) from rfl)
  go_enter Try.func37, Try.ntmps37
  go_wp2
  rw [hki.out, hUw.out]
  generalize sizeK size = k at *
  generalize u64N n = U at *
  go_loopw [6, 7, 8] (fun u s i wr => ∃ m : Nat, m ≤ k ∧ i = .int .i64 m ∧ u = .int .u64 ((U / 2 ^ (8 * m) : Nat) : Int) ∧ s = .string (textP U m) ∧ Below w.heap.size w wr) (fun _ _ i _ => (k - RowKit.intOf i).toNat)
  case atStart => exact ⟨0, by omega, rfl, by simp, rfl, Below.refl _ _⟩
  case round =>
    obtain ⟨m, hm, rfl, rfl, rfl, hb⟩ := hrel
    by_cases hlt : m < k
    · have hsz := textP_size U m
      have hs1 := byteT_size (byteN U m)
      have hsu := Lib.hid (textP_succ U m)
      have hcv := conv1 (byteN U m)
      have hbf := byte_form U m
      have hdf := Lib.hid (div_form U m)
      have hpl := part_lt U m hU
      generalize U / 2 ^ (8 * m) = V at *
      go_wp2
      exact ⟨⟨m + 1, by omega, by go_num, by rw [hdf.out], by rw [hsu.out], hb.alloc hb.size _⟩, by simp [RowKit.intOf]; omega⟩
    · obtain rfl : m = k := by omega
      go_wp2
      go_ret
      exact ⟨by rw [hB.out]; rfl, hb⟩

/-- The number that bytes are, the lowest first. -/
def valL : List Nat → Nat
  | [] => 0
  | b :: r => b + 256 * valL r
/-- A text's bytes as numbers. -/
def bytesN (s : ByteArray) : List Nat := s.data.toList.map UInt8.toNat
theorem bytesN_length (s : ByteArray) : (bytesN s).length = s.size := by unfold bytesN; rw [List.length_map]; rfl
theorem bytesN_lt (s : ByteArray) : ∀ b ∈ bytesN s, b < 256 := by
  intro b hb
  unfold bytesN at hb
  obtain ⟨x, _, rfl⟩ := List.mem_map.mp hb
  exact UInt8.toNat_lt x
theorem bytesN_get (s : ByteArray) (i : Nat) (h : i < s.size) : (bytesN s)[i]'(by rw [bytesN_length]; exact h) = s[i].toNat := by
  unfold bytesN; rw [List.getElem_map]; rfl
theorem valL_lt : ∀ (l : List Nat), (∀ b ∈ l, b < 256) → valL l < 256 ^ l.length
  | [], _ => by simp [valL]
  | b :: r, h => by
    have h1 := valL_lt r (fun x hx => h x (List.mem_cons_of_mem _ hx))
    have h2 := h b (List.mem_cons_self ..)
    simp only [valL, List.length_cons, Nat.pow_succ]
    omega
/-- What Back answers of at most eight bytes. -/
def backZ (s : ByteArray) : Int := wrap64 ((valL (bytesN s) : Nat) : Int)

end Go.Proofs.Ytfdanlfiaoedfaa
namespace Go.Proofs.Ytfdanlfiaoedfaa
open Go.RowKit Go.ChangeShapes Go.WideShapes Go.Deep Wm

structure Item where
  kind : Int
  size : Int
  n : Int
  wide : Nat
  yes : Bool
  text : ByteArray
  deriving Inhabited
/-- Its cells. -/
def Item.cells (x : Item) : List Value := [.int .i64 x.kind, .int .i64 x.size, .int .i64 x.n, .int .u64 ((hiN x.wide : Nat) : Int), .int .u64 ((loN x.wide : Nat) : Int), .bool x.yes, .string x.text]
theorem Item.cells_length (x : Item) : x.cells.length = 7 := rfl
structure Item.Wf (x : Item) : Prop where
  kind : -9223372036854775808 ≤ x.kind ∧ x.kind ≤ 9223372036854775807
  size : -9223372036854775808 ≤ x.size ∧ x.size ≤ 9223372036854775807
  n : -9223372036854775808 ≤ x.n ∧ x.n ≤ 9223372036854775807
  wide : x.wide < big
  text : x.text.size ≤ 140737488351232

section
variable {H : Type} {enc : TypeId × Value → H} {w : World} {base : Nat} {spare : Nat → Bool} {held : Bool}
end

/-- A slice of them in memory. -/
structure ItemsAt (w : World) (ao : Option Addr) (l : List Item) : Prop where
  spot : ∀ k (h : k < l.length), ∃ b off, ao = some ⟨b, off, none⟩ ∧ b < w.heap.size ∧ ∀ j v, (l[k]).cells[j]? = some v → w.cell? ⟨b, off + k * 7 + j, none⟩ = some v
theorem ItemsAt.later {w w2 : World} {ao : Option Addr} {l : List Item} (h : ItemsAt w ao l) (hb : Below w.heap.size w w2) : ItemsAt w2 ao l :=
  ⟨fun k hk => by
    obtain ⟨b, off, e, hlt, hc⟩ := h.spot k hk
    exact ⟨b, off, e, Nat.lt_of_lt_of_le hlt hb.size, fun j v hj => by rw [hb.cell (p := ⟨b, off + k * 7 + j, none⟩) hlt]; exact hc j v hj⟩⟩
theorem ItemsAt.below {B : Nat} {w w2 : World} {ao : Option Addr} {l : List Item} (h : ItemsAt w ao l) (hb : Below B w w2) (hB : w.heap.size ≤ B) : ItemsAt w2 ao l := h.later (hb.mono hB)
section
variable {H : Type} {enc : TypeId × Value → H} {w : World} {base : Nat} {spare : Nat → Bool} {held : Bool}
end
end Go.Proofs.Ytfdanlfiaoedfaa
namespace Go.Proofs.Ytfdanlfiaoedfaa
open Go.RowKit Wm

/-- An item's bytes, and a list's. -/
def yesB (b : Bool) : ByteArray := if b then ⟨#[1]⟩ else ⟨#[0]⟩
def numB (n : Nat) : ByteArray := ⟨(bytesL n).toArray⟩
theorem numB_size (n : Nat) : (numB n).size = 16 := by
  show (bytesL n).toArray.size = 16
  simp [bytesL_length]
def itemB (x : Item) : ByteArray :=
  if x.kind = 0 then intB x.size x.n else if x.kind = 1 then numB x.wide else if x.kind = 2 then yesB x.yes else if x.kind = 3 then x.text else ByteArray.empty
def itemsB (l : List Item) : ByteArray := l.foldl (fun s x => s ++ itemB x) ByteArray.empty
theorem itemsB_take (l : List Item) (k : Nat) (h : k < l.length) : itemsB (l.take (k + 1)) = itemsB (l.take k) ++ itemB l[k] := by
  unfold itemsB
  rw [List.take_succ_eq_append_getElem h, List.foldl_append]
  rfl
/-- What a call of the writer leaves. -/
def WrPost (Wr : (Nat → Prop) → World → Nat → ByteArray → Prop) (F : Nat → Prop) (p : Nat) (bs : ByteArray) (W W' : World) : Prop :=
  ∃ F', Wr F' W' p bs ∧ Only F W W' ∧ ∀ k, k < W.heap.size → F' k → F k
/-- The landed writer. -/
structure LandedWr (Wr : (Nat → Prop) → World → Nat → ByteArray → Prop) : Prop where
  near : ∀ F W p bs, Wr F W p bs → ∀ k, F k → k < W.heap.size
  keep : ∀ F G W W' p bs, Wr F W p bs → Only G W W' → (∀ k, F k → ¬ G k) → Wr F W' p bs
  new : ∀ W : World, Wr (fun k => k = W.heap.size) (W.alloc (.cells #[.slice none 0 0] 65)) W.heap.size ByteArray.empty
  int : ∀ F W p bs (size n : Int), Wr F W p bs → bs.size ≤ 16384 → -9223372036854775808 ≤ n → n ≤ 9223372036854775807 →
    Calls Try.prog 51 #[.pointer (some ⟨p, 0, none⟩), .int .i64 size, .int .i64 n] W fun e W' => e = .returned (.tuple #[]) ∧ WrPost Wr F p (bs ++ intB size n) W W'
  num : ∀ F W p bs (n : Nat), Wr F W p bs → bs.size ≤ 16384 → n < big →
    Calls Try.prog 57 #[.pointer (some ⟨p, 0, none⟩), numV n] W fun e W' => e = .returned (.tuple #[]) ∧ WrPost Wr F p (bs ++ numB n) W W'
  flag : ∀ F W p bs (b : Bool), Wr F W p bs → bs.size ≤ 16384 →
    Calls Try.prog 78 #[.pointer (some ⟨p, 0, none⟩), .bool b] W fun e W' => e = .returned (.tuple #[]) ∧ WrPost Wr F p (bs ++ yesB b) W W'
  raw : ∀ F W p bs (s : ByteArray), Wr F W p bs → bs.size ≤ 16384 → s.size ≤ 16384 →
    Calls Try.prog 76 #[.pointer (some ⟨p, 0, none⟩), .string s] W fun e W' => e = .returned (.tuple #[]) ∧ WrPost Wr F p (bs ++ s) W W'
  str : ∀ F W p bs, Wr F W p bs → bs.size ≤ 32768 →
    Calls Try.prog 27 #[.pointer (some ⟨p, 0, none⟩)] W fun e W' => e = .returned (.string bs) ∧ Below W.heap.size W W'
theorem LandedWr.later {Wr : (Nat → Prop) → World → Nat → ByteArray → Prop} (K : LandedWr Wr) {F : Nat → Prop} {W W' : World} {p : Nat} {bs : ByteArray} (h : Wr F W p bs) (hb : Below W.heap.size W W') : Wr F W' p bs :=
  K.keep F (fun _ => False) W W' p bs h (Only.of_below hb) (fun _ _ e => e)
end Go.Proofs.Ytfdanlfiaoedfaa
namespace Go.Proofs.Ytfdanlfiaoedfaa
open Go.RowKit Wm

/-- What is known while items are written. -/
structure Putting (Wr : (Nat → Prop) → World → Nat → ByteArray → Prop) (w wr : World) (l : List Item) (k : Nat) : Prop where
  own : ∃ F : Nat → Prop, Wr F wr w.heap.size (itemsB (l.take k)) ∧ ∀ j, F j → w.heap.size ≤ j
  below : Below w.heap.size w wr
theorem Putting.next {Wr : (Nat → Prop) → World → Nat → ByteArray → Prop} (K : LandedWr Wr) {w wx w2 w3 : World} {l : List Item} {k : Nat} (hk : k < l.length) {F : Nat → Prop} (hF : ∀ j, F j → w.heap.size ≤ j)
    (hb : Below w.heap.size w wx) (h : WrPost Wr F w.heap.size (itemsB (l.take k) ++ itemB l[k]) wx w2) (h3 : Below w2.heap.size w2 w3) : Putting Wr w w3 l (k + 1) := by
  obtain ⟨F', h1, h2, h4⟩ := h
  refine ⟨⟨F', by rw [itemsB_take l k hk]; exact K.later h1 h3, fun j hj => ?_⟩, ?_⟩
  · by_cases hlt : j < wx.heap.size
    · exact hF j (h4 j hlt hj)
    · have := hb.size; omega
  · exact (hb.trans (h2.to_below hb.size hF)).trans (h3.mono (by have := h2.size; have := hb.size; omega))

theorem refbytesN_any (n : Nat) (w : World) :
    Calls Try.prog 40 #[numV n] w fun e w' => e = .returned (.string (numB n)) ∧ Below w.heap.size w w' := refbytes_any n w
theorem WrPost.only {Wr : (Nat → Prop) → World → Nat → ByteArray → Prop} {F : Nat → Prop} {p : Nat} {bs : ByteArray} {W W' : World} (h : WrPost Wr F p bs W W') : Only F W W' := h.choose_spec.2.1
theorem WrPost.same {Wr : (Nat → Prop) → World → Nat → ByteArray → Prop} {F : Nat → Prop} {p : Nat} {bs : ByteArray} {W : World} (h : Wr F W p bs) : WrPost Wr F p (bs ++ ByteArray.empty) W W :=
  ⟨F, by rw [ByteArray.append_empty]; exact h, Only.refl _ _, fun _ _ e => e⟩

end Go.Proofs.Ytfdanlfiaoedfaa
