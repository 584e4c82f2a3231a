/- Plain arithmetic for layer 1: a number of 128 bits as its two words, bit by bit sums and differences. No condition. -/
/- Acct: an argument of the type api.Account, and of slices of it: what its cells hold. No condition. -/
/- Idn: an argument of the type api.Num, and of slices of it: what its cells hold. No condition. -/
/- Flt: an argument of the type api.Filter, and of slices of it: what its cells hold. No condition. -/
/- The contracts of layer 1's small functions. No condition but the words' sizes. -/
import Derived.Test.YtfdanlfiaoedfaaRows
import Derived.Laws.Bits64
import Derived.RowKit
import Derived.WalkKit
import Derived.Laws.Bits64b
import Derived.Deep.Slices
import Derived.ChangeArms
import Derived.ChangeSame
import Derived.OpenShut
import Derived.SizedLaws
import Derived.Below
import Derived.KernelRfl
import Derived.WalkSpells
import Derived.WalkLawsBesides
import Derived.Lib.QuietBelow
import Derived.Lib.Hide
import Derived.BigQuiet
import Derived.Laws.Externs
import Derived.Shelf.Spec.BitsCarry
namespace Go.Proofs.Ytfdanlfiaoedfaa.Wm
open Go Go.RowKit

/-- The two words of a number below 2^128. -/
def hiN (n : Nat) : Nat := n / 18446744073709551616
def loN (n : Nat) : Nat := n % 18446744073709551616
def num (h l : Nat) : Nat := h * 18446744073709551616 + l
/-- What a 128-bit number is as a value. -/
abbrev numV (n : Nat) : Value := .agg #[.int .u64 ((hiN n : Nat) : Int), .int .u64 ((loN n : Nat) : Int)]
def big : Nat := 340282366920938463463374607431768211456

theorem big_eq : big = 340282366920938463463374607431768211456 := rfl
theorem hiN_lt {n : Nat} (h : n < big) : hiN n < 18446744073709551616 := by unfold hiN; rw [big_eq] at h; omega
theorem loN_lt (n : Nat) : loN n < 18446744073709551616 := by unfold loN; omega
theorem num_hi_lo (n : Nat) : num (hiN n) (loN n) = n := by unfold num hiN loN; omega
theorem hiN_num {h l : Nat} (hl : l < 18446744073709551616) : hiN (num h l) = h := by unfold hiN num; omega
theorem loN_num {h l : Nat} (hl : l < 18446744073709551616) : loN (num h l) = l := by unfold loN num; omega
theorem num_lt {h l : Nat} (hh : h < 18446744073709551616) (hl : l < 18446744073709551616) : num h l < big := by unfold num; rw [big_eq]; omega
theorem num_inj {a b : Nat} (h1 : hiN a = hiN b) (h2 : loN a = loN b) : a = b := by
  rw [← num_hi_lo a, ← num_hi_lo b, h1, h2]

theorem two_pow_split (i : Nat) (h : 64 ≤ i) : 2 ^ i = 18446744073709551616 * 2 ^ (i - 64) := by
  have : i = 64 + (i - 64) := by omega
  rw [this, Nat.pow_add]
  simp
theorem two_pow_split' (i : Nat) (h : i < 64) : 18446744073709551616 = 2 ^ i * (2 ^ (63 - i) * 2) := by
  have e : (2 : Nat) ^ 64 = 2 ^ i * 2 ^ (63 - i) * 2 := by
    rw [← Nat.pow_add, ← Nat.pow_succ]; congr 1; omega
  rw [← Nat.mul_assoc, ← e]

/-- Bit i of a number. -/
def bitN (n i : Nat) : Nat := n / 2 ^ i % 2
theorem bitN_lt (n i : Nat) : bitN n i < 2 := by unfold bitN; omega
theorem bitN_hi (n i : Nat) (h : 64 ≤ i) : hiN n / 2 ^ (i - 64) % 2 = bitN n i := by
  unfold bitN hiN
  rw [two_pow_split i h, Nat.div_div_eq_div_mul]
theorem bitN_lo (n i : Nat) (h : i < 64) : loN n / 2 ^ i % 2 = bitN n i := by
  have e := two_pow_split' i h
  have hp : 0 < 2 ^ i := Nat.two_pow_pos i
  have hn : n = loN n + 2 ^ i * (2 ^ (63 - i) * 2 * hiN n) := by
    have h1 : n = loN n + 18446744073709551616 * hiN n := by unfold loN hiN; omega
    rw [← Nat.mul_assoc, ← e]; exact h1
  unfold bitN
  conv => rhs; rw [hn, Nat.add_mul_div_left _ _ hp]
  have : 2 ^ (63 - i) * 2 * hiN n = 2 * (2 ^ (63 - i) * hiN n) := by
    rw [Nat.mul_comm (2 ^ (63 - i)) 2, Nat.mul_assoc]
  rw [this]
  omega

theorem wrap64_small (n : Nat) (h : n < 9223372036854775808) : wrap64 (n : Int) = (n : Int) := by unfold wrap64; omega
theorem tmod_two (a : Nat) : ((a : Int)).tmod 2 = ((a % 2 : Nat) : Int) := by rw [Int.tmod_eq_emod_of_nonneg (by omega)]; omega
theorem cast_div_pow (a k : Nat) : (a : Int) / 2 ^ k = ((a / 2 ^ k : Nat) : Int) := by
  rw [Int.natCast_ediv, Int.natCast_pow]; rfl
/-- The spellings that the walk gives to one bit. -/
theorem walk_bit_hi (n i : Nat) (h : 64 ≤ i) : wrap64 ((((hiN n : Nat) : Int) / 2 ^ (i - 64)).tmod 2) = ((bitN n i : Nat) : Int) := by
  rw [cast_div_pow, tmod_two, bitN_hi n i h, wrap64_small _ (by have := bitN_lt n i; omega)]
theorem walk_bit_lo (n i : Nat) (h : i < 64) : wrap64 ((((loN n : Nat) : Int) / 2 ^ i).tmod 2) = ((bitN n i : Nat) : Int) := by
  rw [cast_div_pow, tmod_two, bitN_lo n i h, wrap64_small _ (by have := bitN_lt n i; omega)]

theorem wrap_u64_small (n : Nat) (h : n < 18446744073709551616) : IntKind.u64.wrap (n : Int) = (n : Int) := by rw [IntKind.wrap_u64]; omega
/-- The lowest k decimal digits, the highest first, as bytes. -/
def digB (n : Nat) : UInt8 := UInt8.ofNat (48 + n % 10)
def decN : Nat → Nat → List UInt8
  | 0, _ => []
  | k + 1, n => digB (n / 10 ^ k) :: decN k n
theorem decN_length : ∀ k n, (decN k n).length = k
  | 0, _ => rfl
  | k + 1, n => by simp [decN, decN_length k n]
end Go.Proofs.Ytfdanlfiaoedfaa.Wm
namespace Go.Proofs.Ytfdanlfiaoedfaa
open Go.RowKit Go.ChangeShapes Go.WideShapes Go.Deep Wm

structure Acct where
  Id : Nat
  DebitsPending : Nat
  DebitsPosted : Nat
  CreditsPending : Nat
  CreditsPosted : Nat
  Ledger : Int
  Code : Int
  Flags : Int
  Stamp : Int
  deriving Inhabited
/-- Its cells. -/
def Acct.cells (x : Acct) : List Value := [.int .u64 ((hiN x.Id : Nat) : Int), .int .u64 ((loN x.Id : Nat) : Int), .int .u64 ((hiN x.DebitsPending : Nat) : Int), .int .u64 ((loN x.DebitsPending : Nat) : Int), .int .u64 ((hiN x.DebitsPosted : Nat) : Int), .int .u64 ((loN x.DebitsPosted : Nat) : Int), .int .u64 ((hiN x.CreditsPending : Nat) : Int), .int .u64 ((loN x.CreditsPending : Nat) : Int), .int .u64 ((hiN x.CreditsPosted : Nat) : Int), .int .u64 ((loN x.CreditsPosted : Nat) : Int), .int .i64 x.Ledger, .int .i64 x.Code, .int .i64 x.Flags, .int .i64 x.Stamp]
theorem Acct.cells_length (x : Acct) : x.cells.length = 14 := rfl
structure Acct.Wf (x : Acct) : Prop where
  Id : x.Id < big
  DebitsPending : x.DebitsPending < big
  DebitsPosted : x.DebitsPosted < big
  CreditsPending : x.CreditsPending < big
  CreditsPosted : x.CreditsPosted < big
  Ledger : -9223372036854775808 ≤ x.Ledger ∧ x.Ledger ≤ 9223372036854775807
  Code : -9223372036854775808 ≤ x.Code ∧ x.Code ≤ 9223372036854775807
  Flags : -9223372036854775808 ≤ x.Flags ∧ x.Flags ≤ 9223372036854775807
  Stamp : -9223372036854775808 ≤ x.Stamp ∧ x.Stamp ≤ 9223372036854775807

theorem weightsAll_mem_acct {H : Type} {P : Program} {e : TypeId} : ∀ {l : List (DataW H)} {d : DataW H}, d ∈ l → ∀ n ∈ d.weights P e, n ∈ DataW.weightsAll P e l
  | d0 :: l, d, hd, n, hn => by
    simp only [DataW.weightsAll, List.mem_append]
    rcases List.mem_cons.mp hd with rfl | hd
    · exact .inl hn
    · exact .inr (weightsAll_mem_acct hd n hn)
  | [], _, hd, _, _ => by simp at hd
section
variable {H : Type} {enc : TypeId × Value → H} {w : World} {base : Nat} {spare : Nat → Bool} {held : Bool}
set_option maxRecDepth 100000 in
theorem acct_num {fuel : Nat} {cs : List Value} {x : DataW H × List MemPlace} (h : DataW.trod enc Try.prog w base spare held fuel 27 cs = some x) :
    ∃ n : Nat, n < big ∧ cs = [.int .u64 ((hiN n : Nat) : Int), .int .u64 ((loN n : Nat) : Int)] := by
  obtain ⟨xs, m, _, _, hlen, hxl, hf⟩ := DataW.trod_struct Try.underlying27 h
  have hC : Try.prog.cellsOf 27 = 2 := by kernel_rfl
  have hU : Try.prog.cellsOf 25 = 1 := by kernel_rfl
  rw [hC] at hlen
  match cs, hlen with
  | [c0, c1], _ =>
    match xs, hxl with
    | [x0, x1], _ =>
      have f0 := hf 0 _ rfl
      have f1 := hf 1 _ rfl
      simp [hU] at f0 f1
      obtain ⟨a, e0, _, wa⟩ := DataW.trod_int Try.underlying25 f0
      obtain ⟨b, e1, _, wb⟩ := DataW.trod_int Try.underlying25 f1
      simp at e0 e1
      subst e0 e1
      have ba := bounds_u64 wa
      have bb := bounds_u64 wb
      obtain ⟨y, rfl⟩ := Int.eq_ofNat_of_zero_le ba.1
      obtain ⟨z, rfl⟩ := Int.eq_ofNat_of_zero_le bb.1
      have hy : y < 18446744073709551616 := by omega
      have hz : z < 18446744073709551616 := by omega
      exact ⟨num y z, num_lt hy hz, by rw [hiN_num hz, loN_num hz]⟩
set_option maxRecDepth 100000 in
/-- One, opened. -/
theorem acct_open {fuel : Nat} {cs : List Value} {x : DataW H × List MemPlace} (h : DataW.trod enc Try.prog w base spare held fuel 58 cs = some x)
    (hz : ∀ n ∈ x.1.weights Try.prog 58, n ≤ reachBytes) : ∃ y : Acct, cs = y.cells ∧ y.Wf := by
  obtain ⟨xs, m, _, hx, hlen, hxl, hf⟩ := DataW.trod_struct Try.underlying58 h
  have hC : Try.prog.cellsOf 58 = 14 := by kernel_rfl
  have hU0 : Try.prog.cellsOf 27 = 2 := by kernel_rfl
  have hU1 : Try.prog.cellsOf 3 = 1 := by kernel_rfl
  rw [hC] at hlen
  subst hx
  match cs, hlen with
  | [c0, c1, c2, c3, c4, c5, c6, c7, c8, c9, c10, c11, c12, c13], _ =>
    match xs, hxl with
    | [x0, x1, x2, x3, x4, x5, x6, x7, x8], _ =>
      replace hz : ∀ n ∈ DataW.weightsEach Try.prog [27, 27, 27, 27, 27, 3, 3, 3, 3] [x0.1, x1.1, x2.1, x3.1, x4.1, x5.1, x6.1, x7.1, x8.1], n ≤ reachBytes := by
        intro n hn
        exact hz n (by simpa [DataW.weights, Try.underlying58] using hn)
      have f0 := hf 0 _ rfl
      simp [hU0] at f0
      have f1 := hf 1 _ rfl
      simp [hU0] at f1
      have f2 := hf 2 _ rfl
      simp [hU0] at f2
      have f3 := hf 3 _ rfl
      simp [hU0] at f3
      have f4 := hf 4 _ rfl
      simp [hU0] at f4
      have f5 := hf 5 _ rfl
      simp [hU1] at f5
      have f6 := hf 6 _ rfl
      simp [hU1] at f6
      have f7 := hf 7 _ rfl
      simp [hU1] at f7
      have f8 := hf 8 _ rfl
      simp [hU1] at f8
      obtain ⟨v0, n0, e0⟩ := acct_num f0
      simp at e0
      obtain ⟨rfl, rfl⟩ := e0
      obtain ⟨v1, n1, e1⟩ := acct_num f1
      simp at e1
      obtain ⟨rfl, rfl⟩ := e1
      obtain ⟨v2, n2, e2⟩ := acct_num f2
      simp at e2
      obtain ⟨rfl, rfl⟩ := e2
      obtain ⟨v3, n3, e3⟩ := acct_num f3
      simp at e3
      obtain ⟨rfl, rfl⟩ := e3
      obtain ⟨v4, n4, e4⟩ := acct_num f4
      simp at e4
      obtain ⟨rfl, rfl⟩ := e4
      obtain ⟨v5, e5, _, w5⟩ := DataW.trod_int Try.underlying3 f5
      simp at e5
      subst e5
      have b5 := bounds_i64 w5
      obtain ⟨v6, e6, _, w6⟩ := DataW.trod_int Try.underlying3 f6
      simp at e6
      subst e6
      have b6 := bounds_i64 w6
      obtain ⟨v7, e7, _, w7⟩ := DataW.trod_int Try.underlying3 f7
      simp at e7
      subst e7
      have b7 := bounds_i64 w7
      obtain ⟨v8, e8, _, w8⟩ := DataW.trod_int Try.underlying3 f8
      simp at e8
      subst e8
      have b8 := bounds_i64 w8
      exact ⟨⟨v0, v1, v2, v3, v4, v5, v6, v7, v8⟩, rfl, ⟨n0, n1, n2, n3, n4, b5, b6, b7, b8⟩⟩
end

/-- A slice of them in memory. -/
structure AcctsAt (w : World) (ao : Option Addr) (l : List Acct) : Prop where
  spot : ∀ k (h : k < l.length), ∃ b off, ao = some ⟨b, off, none⟩ ∧ b < w.heap.size ∧ ∀ j v, (l[k]).cells[j]? = some v → w.cell? ⟨b, off + k * 14 + j, none⟩ = some v
theorem AcctsAt.later {w w2 : World} {ao : Option Addr} {l : List Acct} (h : AcctsAt w ao l) (hb : Below w.heap.size w w2) : AcctsAt w2 ao l :=
  ⟨fun k hk => by
    obtain ⟨b, off, e, hlt, hc⟩ := h.spot k hk
    exact ⟨b, off, e, Nat.lt_of_lt_of_le hlt hb.size, fun j v hj => by rw [hb.cell (p := ⟨b, off + k * 14 + j, none⟩) hlt]; exact hc j v hj⟩⟩
theorem AcctsAt.below {B : Nat} {w w2 : World} {ao : Option Addr} {l : List Acct} (h : AcctsAt w ao l) (hb : Below B w w2) (hB : w.heap.size ≤ B) : AcctsAt w2 ao l := h.later (hb.mono hB)
section
variable {H : Type} {enc : TypeId × Value → H} {w : World} {base : Nat} {spare : Nat → Bool} {held : Bool}
end
end Go.Proofs.Ytfdanlfiaoedfaa
namespace Go.Proofs.Ytfdanlfiaoedfaa
open Go.RowKit Go.ChangeShapes Go.WideShapes Go.Deep Wm

structure Idn where
  N : Nat
  deriving Inhabited
/-- Its cells. -/
def Idn.cells (x : Idn) : List Value := [.int .u64 ((hiN x.N : Nat) : Int), .int .u64 ((loN x.N : Nat) : Int)]
theorem Idn.cells_length (x : Idn) : x.cells.length = 2 := rfl
structure Idn.Wf (x : Idn) : Prop where
  N : x.N < big

section
variable {H : Type} {enc : TypeId × Value → H} {w : World} {base : Nat} {spare : Nat → Bool} {held : Bool}
end

/-- A slice of them in memory. -/
structure IdnsAt (w : World) (ao : Option Addr) (l : List Idn) : Prop where
  spot : ∀ k (h : k < l.length), ∃ b off, ao = some ⟨b, off, none⟩ ∧ b < w.heap.size ∧ ∀ j v, (l[k]).cells[j]? = some v → w.cell? ⟨b, off + k * 2 + j, none⟩ = some v
theorem IdnsAt.later {w w2 : World} {ao : Option Addr} {l : List Idn} (h : IdnsAt w ao l) (hb : Below w.heap.size w w2) : IdnsAt w2 ao l :=
  ⟨fun k hk => by
    obtain ⟨b, off, e, hlt, hc⟩ := h.spot k hk
    exact ⟨b, off, e, Nat.lt_of_lt_of_le hlt hb.size, fun j v hj => by rw [hb.cell (p := ⟨b, off + k * 2 + j, none⟩) hlt]; exact hc j v hj⟩⟩
theorem IdnsAt.below {B : Nat} {w w2 : World} {ao : Option Addr} {l : List Idn} (h : IdnsAt w ao l) (hb : Below B w w2) (hB : w.heap.size ≤ B) : IdnsAt w2 ao l := h.later (hb.mono hB)
section
variable {H : Type} {enc : TypeId × Value → H} {w : World} {base : Nat} {spare : Nat → Bool} {held : Bool}
end
end Go.Proofs.Ytfdanlfiaoedfaa
namespace Go.Proofs.Ytfdanlfiaoedfaa
open Go.RowKit Go.ChangeShapes Go.WideShapes Go.Deep Wm

structure Flt where
  Account : Nat
  From : Int
  To : Int
  Debits : Bool
  Credits : Bool
  Latest : Bool
  Limit : Int
  deriving Inhabited
/-- Its cells. -/
def Flt.cells (x : Flt) : List Value := [.int .u64 ((hiN x.Account : Nat) : Int), .int .u64 ((loN x.Account : Nat) : Int), .int .i64 x.From, .int .i64 x.To, .bool x.Debits, .bool x.Credits, .bool x.Latest, .int .i64 x.Limit]
theorem Flt.cells_length (x : Flt) : x.cells.length = 8 := rfl
structure Flt.Wf (x : Flt) : Prop where
  Account : x.Account < big
  From : -9223372036854775808 ≤ x.From ∧ x.From ≤ 9223372036854775807
  To : -9223372036854775808 ≤ x.To ∧ x.To ≤ 9223372036854775807
  Limit : -9223372036854775808 ≤ x.Limit ∧ x.Limit ≤ 9223372036854775807

section
variable {H : Type} {enc : TypeId × Value → H} {w : World} {base : Nat} {spare : Nat → Bool} {held : Bool}
end

/-- A slice of them in memory. -/
structure FltsAt (w : World) (ao : Option Addr) (l : List Flt) : Prop where
  spot : ∀ k (h : k < l.length), ∃ b off, ao = some ⟨b, off, none⟩ ∧ b < w.heap.size ∧ ∀ j v, (l[k]).cells[j]? = some v → w.cell? ⟨b, off + k * 8 + j, none⟩ = some v
theorem FltsAt.later {w w2 : World} {ao : Option Addr} {l : List Flt} (h : FltsAt w ao l) (hb : Below w.heap.size w w2) : FltsAt w2 ao l :=
  ⟨fun k hk => by
    obtain ⟨b, off, e, hlt, hc⟩ := h.spot k hk
    exact ⟨b, off, e, Nat.lt_of_lt_of_le hlt hb.size, fun j v hj => by rw [hb.cell (p := ⟨b, off + k * 8 + j, none⟩) hlt]; exact hc j v hj⟩⟩
theorem FltsAt.below {B : Nat} {w w2 : World} {ao : Option Addr} {l : List Flt} (h : FltsAt w ao l) (hb : Below B w w2) (hB : w.heap.size ≤ B) : FltsAt w2 ao l := h.later (hb.mono hB)
section
variable {H : Type} {enc : TypeId × Value → H} {w : World} {base : Nat} {spare : Nat → Bool} {held : Bool}
end
end Go.Proofs.Ytfdanlfiaoedfaa
namespace Go.Proofs.Ytfdanlfiaoedfaa
open Go.RowKit Go.Sort Wm

theorem bit_any (n i : Nat) (hi : i < 128) (w : World) :
    Calls Try.prog 67 #[numV n, .int .i64 i] w fun e w' => e = .returned (.int .i64 ((bitN n i : Nat) : Int)) ∧ Below w.heap.size w w' := by
  by_cases h1 : 64 ≤ i
  · have hb := Lib.hid (walk_bit_hi n i h1)
    go_enter Try.func67, Try.ntmps67
    go_wp2
    go_ret
    exact ⟨by simp [hb.out], (Below.refl _ _).alloc (Nat.le_refl _) _⟩
  · have h2 : i < 64 := by omega
    have hb := Lib.hid (walk_bit_lo n i h2)
    clear h1
    go_enter Try.func67, Try.ntmps67
    go_wp2
    go_ret
    exact ⟨by simp [hb.out], (Below.refl _ _).alloc (Nat.le_refl _) _⟩

end Go.Proofs.Ytfdanlfiaoedfaa
