/- Acct: an argument of the type api.Account, and of slices of it: what its cells hold. No condition. -/
/- The landed Read of a sector. No condition but a text's size. -/
/- Stage 6: a record read: what its first sector tells, and what is taken. Plain: no program, no condition. -/
/- Stage 9: what is wrong with an account, its bytes, whether it is there again. Plain: no program, no condition. -/
import Derived.Test.YtlalkfebedjlgaaDoorRows
import Derived.Test.YtlalkfebedjlgaaDoorZWa
import Derived.Test.YtlalkfebedjlgaaDoorZTp
import Derived.Test.YtlalkfebedjlgaaDoorZTt
import Derived.Test.YtlalkfebedjlgaaDoorZJb
import Derived.Test.YtlalkfebedjlgaaDoorZGb
import Derived.Test.YtlalkfebedjlgaaDoorZTv
import Derived.Test.YtlalkfebedjlgaaDoorZPk
import Derived.Deep.Slices
import Derived.ChangeArms
import Derived.ChangeSame
import Derived.OpenShut
import Derived.SizedLaws
import Derived.Below
import Derived.WalkKit
import Derived.KernelRfl
namespace Go.Proofs.YtlalkfebedjlgaaDoor
open Go.RowKit Go.ChangeShapes Go.WideShapes Go.Deep Wm

structure Acct where
  Id : Nat
  DebitsPending : Nat
  DebitsPosted : Nat
  CreditsPending : Nat
  CreditsPosted : Nat
  Ledger : Int
  Code : Int
  Flags : Int
  Stamp : Int
  deriving Inhabited
/-- Its cells. -/
def Acct.cells (x : Acct) : List Value := [.int .u64 ((hiN x.Id : Nat) : Int), .int .u64 ((loN x.Id : Nat) : Int), .int .u64 ((hiN x.DebitsPending : Nat) : Int), .int .u64 ((loN x.DebitsPending : Nat) : Int), .int .u64 ((hiN x.DebitsPosted : Nat) : Int), .int .u64 ((loN x.DebitsPosted : Nat) : Int), .int .u64 ((hiN x.CreditsPending : Nat) : Int), .int .u64 ((loN x.CreditsPending : Nat) : Int), .int .u64 ((hiN x.CreditsPosted : Nat) : Int), .int .u64 ((loN x.CreditsPosted : Nat) : Int), .int .i64 x.Ledger, .int .i64 x.Code, .int .i64 x.Flags, .int .i64 x.Stamp]
theorem Acct.cells_length (x : Acct) : x.cells.length = 14 := rfl
structure Acct.Wf (x : Acct) : Prop where
  Id : x.Id < big
  DebitsPending : x.DebitsPending < big
  DebitsPosted : x.DebitsPosted < big
  CreditsPending : x.CreditsPending < big
  CreditsPosted : x.CreditsPosted < big
  Ledger : -9223372036854775808 ≤ x.Ledger ∧ x.Ledger ≤ 9223372036854775807
  Code : -9223372036854775808 ≤ x.Code ∧ x.Code ≤ 9223372036854775807
  Flags : -9223372036854775808 ≤ x.Flags ∧ x.Flags ≤ 9223372036854775807
  Stamp : -9223372036854775808 ≤ x.Stamp ∧ x.Stamp ≤ 9223372036854775807

section
variable {H : Type} {enc : TypeId × Value → H} {w : World} {base : Nat} {spare : Nat → Bool} {held : Bool}
end

/-- A slice of them in memory. -/
structure AcctsAt (w : World) (ao : Option Addr) (l : List Acct) : Prop where
  spot : ∀ k (h : k < l.length), ∃ b off, ao = some ⟨b, off, none⟩ ∧ b < w.heap.size ∧ ∀ j v, (l[k]).cells[j]? = some v → w.cell? ⟨b, off + k * 14 + j, none⟩ = some v
theorem AcctsAt.later {w w2 : World} {ao : Option Addr} {l : List Acct} (h : AcctsAt w ao l) (hb : Below w.heap.size w w2) : AcctsAt w2 ao l :=
  ⟨fun k hk => by
    obtain ⟨b, off, e, hlt, hc⟩ := h.spot k hk
    exact ⟨b, off, e, Nat.lt_of_lt_of_le hlt hb.size, fun j v hj => by rw [hb.cell (p := ⟨b, off + k * 14 + j, none⟩) hlt]; exact hc j v hj⟩⟩
theorem AcctsAt.below {B : Nat} {w w2 : World} {ao : Option Addr} {l : List Acct} (h : AcctsAt w ao l) (hb : Below B w w2) (hB : w.heap.size ≤ B) : AcctsAt w2 ao l := h.later (hb.mono hB)
section
variable {H : Type} {enc : TypeId × Value → H} {w : World} {base : Nat} {spare : Nat → Bool} {held : Bool}
end
end Go.Proofs.YtlalkfebedjlgaaDoor
namespace Go.Proofs.YtlalkfebedjlgaaDoor
open Go.RowKit Go.Sort Cr Wm Go.Lib

/-- A reader in use, of one's own making. -/
structure Rs (W0 w : World) (p : Nat) (st : Option ByteArray) : Prop where
  v : RdV w p st
  bel : Below W0.heap.size W0 w
  new : W0.heap.size ≤ p
theorem Rs.next {W0 w w' : World} {p : Nat} {st st' : Option ByteArray} (h : Rs W0 w p st) (k : RdQ p st' w w') : Rs W0 w' p st' :=
  ⟨k.v, h.bel.trans (k.o.to_below h.bel.size (fun j e => by have := h.new; omega)), h.new⟩
theorem Rs.later {W0 w w' : World} {p : Nat} {st : Option ByteArray} (h : Rs W0 w p st) (hb : Below w.heap.size w w') : Rs W0 w' p st :=
  ⟨h.v.only (Only.of_below (F := fun _ => False) hb) (fun e => e), h.bel.trans (hb.mono h.bel.size), h.new⟩
end Go.Proofs.YtlalkfebedjlgaaDoor
namespace Go.Proofs.YtlalkfebedjlgaaDoor
open Go Go.RowKit Cr Wm

theorem valL_inj : ∀ (l l' : List Nat), l.length = l'.length → (∀ b ∈ l, b < 256) → (∀ b ∈ l', b < 256) → valL l = valL l' → l = l'
  | [], [], _, _, _, _ => rfl
  | [], b :: r, h, _, _, _ => by simp at h
  | b :: r, [], h, _, _, _ => by simp at h
  | a :: r, b :: r', h, h1, h2, e => by
    have a1 := h1 a (List.mem_cons_self ..)
    have b1 := h2 b (List.mem_cons_self ..)
    have e' : a + 256 * valL r = b + 256 * valL r' := e
    rw [List.length_cons, List.length_cons] at h
    have := valL_inj r r' (by omega) (fun x hx => h1 x (List.mem_cons_of_mem _ hx)) (fun x hx => h2 x (List.mem_cons_of_mem _ hx)) (by omega)
    rw [this, show a = b by omega]
theorem bytesN_same {s t : ByteArray} (h : bytesN s = bytesN t) : s = t := by
  unfold bytesN at h
  apply ByteArray.ext
  apply Array.toList_inj.mp
  exact (List.map_inj_right (fun a b e => UInt8.toNat_inj.mp e)).mp h
theorem intB_back (size : Int) (k : Nat) (hk : sizeK size = k) (h8 : k ≤ 8) {b : ByteArray} (h : b.size = k) : intB size (backZ b) = b := by
  apply bytesN_same
  refine valL_inj _ _ (by rw [bytesN_length, bytesN_length, intB_size, hk, h]) (bytesN_lt _) (bytesN_lt _) ?_
  unfold intB
  rw [valL_textP, hk]
  have hl := valL_lt (bytesN b) (bytesN_lt b)
  rw [bytesN_length, h] at hl
  have hp : (256 : Nat) ^ k ≤ 256 ^ 8 := Nat.pow_le_pow_right (by decide) h8
  have e : u64N (backZ b) = valL (bytesN b) := by
    unfold u64N backZ wrap64
    generalize valL (bytesN b) = v at *
    generalize (256 : Nat) ^ k = q at *
    rw [show (256 : Nat) ^ 8 = 18446744073709551616 from rfl] at hp
    omega
  rw [e]
  exact Nat.mod_eq_of_lt hl
end Go.Proofs.YtlalkfebedjlgaaDoor
namespace Go.Proofs.YtlalkfebedjlgaaDoor
open Go Go.RowKit Wm Cr

/-- Has a number that isn't below 0 a flag? -/
def bitZ (f b : Int) : Bool := decide (f / b % 2 = 1)
theorem back_small (s : ByteArray) (k : Nat) (h : s.size = k) (hk : k ≤ 7) : 0 ≤ backZ s ∧ backZ s < ((256 ^ k : Nat) : Int) := by
  have h1 := valL_lt (bytesN s) (bytesN_lt s)
  rw [bytesN_length, h] at h1
  have h2 : 256 ^ k ≤ 256 ^ 7 := Nat.pow_le_pow_right (by decide) hk
  unfold backZ
  rw [show (256 : Nat) ^ 7 = 72057594037927936 from rfl] at h2
  generalize 256 ^ k = m at *
  unfold wrap64
  omega
/-- One part of a text put together. -/
theorem part_at (x pre m post : ByteArray) (i j : Nat) (h : x = pre ++ (m ++ post)) (hi : i = pre.size) (hj : j = i + m.size) : x.extract i j = m := by
  subst h
  rw [cut_right _ _ _ _ (by omega), cut_left _ _ _ _ (by omega)]
  rw [show i - pre.size = 0 by omega]
  exact cut_all _ _ (by omega)
theorem backZ_intB {size n : Int} {k : Nat} (hk : sizeK size = k) (h7 : k ≤ 7) (h0 : 0 ≤ n) (h1 : n < ((256 ^ k : Nat) : Int)) : backZ (intB size n) = n := by
  have h2 : 256 ^ k ≤ 256 ^ 7 := Nat.pow_le_pow_right (by decide) h7
  rw [show (256 : Nat) ^ 7 = 72057594037927936 from rfl] at h2
  unfold backZ intB
  rw [valL_textP, hk]
  generalize 256 ^ k = m at *
  unfold u64N
  rw [Int.emod_eq_of_lt h0 (by omega), Nat.mod_eq_of_lt (by omega)]
  unfold wrap64
  omega
theorem backZ_int8all {n : Int} (h : -9223372036854775808 ≤ n ∧ n ≤ 9223372036854775807) : backZ (intB 8 n) = n := by
  unfold backZ intB
  rw [show sizeK 8 = 8 from rfl, valL_textP]
  unfold u64N
  rw [show (256 : Nat) ^ 8 = 18446744073709551616 from rfl]
  unfold wrap64
  omega
end Go.Proofs.YtlalkfebedjlgaaDoor
