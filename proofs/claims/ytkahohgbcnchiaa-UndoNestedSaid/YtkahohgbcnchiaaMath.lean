/- Plain arithmetic for layer 1: a number of 128 bits as its two words, bit by bit sums and differences. No condition. -/
import Derived.Laws.Bits64
import Derived.RowKit
import Derived.WalkKit
import Derived.Laws.Bits64b
namespace Go.Proofs.Ytkahohgbcnchiaa.Wm
open Go Go.RowKit

/-- The two words of a number below 2^128. -/
def hiN (n : Nat) : Nat := n / 18446744073709551616
def loN (n : Nat) : Nat := n % 18446744073709551616
def num (h l : Nat) : Nat := h * 18446744073709551616 + l
/-- What a 128-bit number is as a value. -/
abbrev numV (n : Nat) : Value := .agg #[.int .u64 ((hiN n : Nat) : Int), .int .u64 ((loN n : Nat) : Int)]
def big : Nat := 340282366920938463463374607431768211456

theorem big_eq : big = 340282366920938463463374607431768211456 := rfl
theorem hiN_lt {n : Nat} (h : n < big) : hiN n < 18446744073709551616 := by unfold hiN; rw [big_eq] at h; omega
theorem loN_lt (n : Nat) : loN n < 18446744073709551616 := by unfold loN; omega
theorem num_hi_lo (n : Nat) : num (hiN n) (loN n) = n := by unfold num hiN loN; omega
theorem hiN_num {h l : Nat} (hl : l < 18446744073709551616) : hiN (num h l) = h := by unfold hiN num; omega
theorem loN_num {h l : Nat} (hl : l < 18446744073709551616) : loN (num h l) = l := by unfold loN num; omega
theorem num_lt {h l : Nat} (hh : h < 18446744073709551616) (hl : l < 18446744073709551616) : num h l < big := by unfold num; rw [big_eq]; omega
theorem num_inj {a b : Nat} (h1 : hiN a = hiN b) (h2 : loN a = loN b) : a = b := by
  rw [← num_hi_lo a, ← num_hi_lo b, h1, h2]

theorem two_pow_split (i : Nat) (h : 64 ≤ i) : 2 ^ i = 18446744073709551616 * 2 ^ (i - 64) := by
  have : i = 64 + (i - 64) := by omega
  rw [this, Nat.pow_add]
  simp
theorem two_pow_split' (i : Nat) (h : i < 64) : 18446744073709551616 = 2 ^ i * (2 ^ (63 - i) * 2) := by
  have e : (2 : Nat) ^ 64 = 2 ^ i * 2 ^ (63 - i) * 2 := by
    rw [← Nat.pow_add, ← Nat.pow_succ]; congr 1; omega
  rw [← Nat.mul_assoc, ← e]

/-- Bit i of a number. -/
def bitN (n i : Nat) : Nat := n / 2 ^ i % 2
theorem bitN_lt (n i : Nat) : bitN n i < 2 := by unfold bitN; omega
theorem bitN_hi (n i : Nat) (h : 64 ≤ i) : hiN n / 2 ^ (i - 64) % 2 = bitN n i := by
  unfold bitN hiN
  rw [two_pow_split i h, Nat.div_div_eq_div_mul]
theorem bitN_lo (n i : Nat) (h : i < 64) : loN n / 2 ^ i % 2 = bitN n i := by
  have e := two_pow_split' i h
  have hp : 0 < 2 ^ i := Nat.two_pow_pos i
  have hn : n = loN n + 2 ^ i * (2 ^ (63 - i) * 2 * hiN n) := by
    have h1 : n = loN n + 18446744073709551616 * hiN n := by unfold loN hiN; omega
    rw [← Nat.mul_assoc, ← e]; exact h1
  unfold bitN
  conv => rhs; rw [hn, Nat.add_mul_div_left _ _ hp]
  have : 2 ^ (63 - i) * 2 * hiN n = 2 * (2 ^ (63 - i) * hiN n) := by
    rw [Nat.mul_comm (2 ^ (63 - i)) 2, Nat.mul_assoc]
  rw [this]
  omega

theorem wrap64_small (n : Nat) (h : n < 9223372036854775808) : wrap64 (n : Int) = (n : Int) := by unfold wrap64; omega
theorem tmod_two (a : Nat) : ((a : Int)).tmod 2 = ((a % 2 : Nat) : Int) := by rw [Int.tmod_eq_emod_of_nonneg (by omega)]; omega
theorem cast_div_pow (a k : Nat) : (a : Int) / 2 ^ k = ((a / 2 ^ k : Nat) : Int) := by
  rw [Int.natCast_ediv, Int.natCast_pow]; rfl
/-- The spellings that the walk gives to one bit. -/
theorem walk_bit_hi (n i : Nat) (h : 64 ≤ i) : wrap64 ((((hiN n : Nat) : Int) / 2 ^ (i - 64)).tmod 2) = ((bitN n i : Nat) : Int) := by
  rw [cast_div_pow, tmod_two, bitN_hi n i h, wrap64_small _ (by have := bitN_lt n i; omega)]
theorem walk_bit_lo (n i : Nat) (h : i < 64) : wrap64 ((((loN n : Nat) : Int) / 2 ^ i).tmod 2) = ((bitN n i : Nat) : Int) := by
  rw [cast_div_pow, tmod_two, bitN_lo n i h, wrap64_small _ (by have := bitN_lt n i; omega)]

theorem wrap_u64_small (n : Nat) (h : n < 18446744073709551616) : IntKind.u64.wrap (n : Int) = (n : Int) := by rw [IntKind.wrap_u64]; omega
theorem pow_lt_M (i : Nat) (h : i < 64) : 2 ^ i < 18446744073709551616 := by
  have : (2 : Nat) ^ i < 2 ^ 64 := Nat.pow_lt_pow_right (by omega) h
  simpa using this
theorem cast_pow (k : Nat) : (2 : Int) ^ k = ((2 ^ k : Nat) : Int) := by rw [Int.natCast_pow]; rfl
theorem pow_lt_big (i : Nat) (h : i < 128) : 2 ^ i < big := by
  have : (2 : Nat) ^ i < 2 ^ 128 := Nat.pow_lt_pow_right (by omega) h
  rw [big_eq]; simpa using this
/-- One more bit, above all others. -/
theorem set_lo (o i : Nat) (h : i < 64) (ho : o < 2 ^ i) :
    IntKind.u64.wrap (((loN o : Nat) : Int) + IntKind.u64.wrap (2 ^ i)) = ((loN (o + 2 ^ i) : Nat) : Int) ∧ hiN (o + 2 ^ i) = hiN o := by
  have e := two_pow_split' i h
  have hp := pow_lt_M i h
  have hq : 0 < 2 ^ (63 - i) := Nat.two_pow_pos _
  have hle : 2 ^ i * 2 ≤ 18446744073709551616 := by
    rw [e]; exact Nat.mul_le_mul_left _ (Nat.le_mul_of_pos_left _ hq)
  rw [cast_pow, wrap_u64_small _ hp]
  have hlo : loN o = o := by unfold loN; omega
  rw [hlo]
  have e1 : ((o : Nat) : Int) + ((2 ^ i : Nat) : Int) = ((o + 2 ^ i : Nat) : Int) := by omega
  rw [e1, wrap_u64_small _ (by omega)]
  unfold loN hiN
  constructor
  · congr 1; omega
  · omega
theorem set_hi (o i : Nat) (h : 64 ≤ i) (h2 : i < 128) (ho : o < 2 ^ i) :
    IntKind.u64.wrap (((hiN o : Nat) : Int) + IntKind.u64.wrap (2 ^ (i - 64))) = ((hiN (o + 2 ^ i) : Nat) : Int) ∧ loN (o + 2 ^ i) = loN o := by
  have hs := two_pow_split i h
  have hp := pow_lt_M (i - 64) (by omega)
  have hle : 2 ^ (i - 64) * 2 ≤ 18446744073709551616 := by
    have := two_pow_split' (i - 64) (by omega)
    have hq : 0 < 2 ^ (63 - (i - 64)) := Nat.two_pow_pos _
    rw [this]; exact Nat.mul_le_mul_left _ (Nat.le_mul_of_pos_left _ hq)
  rw [cast_pow, wrap_u64_small _ hp]
  generalize 2 ^ (i - 64) = p at *
  rw [hs] at ho ⊢
  have h1 : hiN o < p := by unfold hiN; omega
  have e1 : ((hiN o : Nat) : Int) + ((p : Nat) : Int) = ((hiN o + p : Nat) : Int) := by omega
  rw [e1, wrap_u64_small _ (by omega)]
  unfold loN hiN
  constructor
  · congr 1; omega
  · omega

/-- The sum bit by bit: what was gathered, and what is carried. -/
def accN (a b k : Nat) : Nat := (a % 2 ^ k + b % 2 ^ k) % 2 ^ k
def carN (a b k : Nat) : Nat := (a % 2 ^ k + b % 2 ^ k) / 2 ^ k
theorem accN_lt (a b k : Nat) : accN a b k < 2 ^ k := Nat.mod_lt _ (Nat.two_pow_pos k)
theorem accN_zero (a b : Nat) : accN a b 0 = 0 := by unfold accN; simp; omega
theorem carN_zero (a b : Nat) : carN a b 0 = 0 := by unfold carN; simp; omega
theorem carN_lt (a b k : Nat) : carN a b k < 2 := by
  have h1 := Nat.mod_lt a (Nat.two_pow_pos k)
  have h2 := Nat.mod_lt b (Nat.two_pow_pos k)
  unfold carN
  exact Nat.div_lt_of_lt_mul (by omega)
theorem acc_car (a b k : Nat) : accN a b k + 2 ^ k * carN a b k = a % 2 ^ k + b % 2 ^ k := by
  unfold accN carN; exact Nat.mod_add_div _ _
theorem mod_succ (a k : Nat) : a % 2 ^ (k + 1) = a % 2 ^ k + 2 ^ k * bitN a k := by
  rw [Nat.pow_succ, Nat.mod_mul]; rfl
theorem step_sum (a b k n : Nat) (hn : n = bitN a k + bitN b k + carN a b k) :
    accN a b (k + 1) = accN a b k + 2 ^ k * (n % 2) ∧ carN a b (k + 1) = n / 2 := by
  have h := acc_car a b k
  have hl := accN_lt a b k
  have e : a % 2 ^ (k + 1) + b % 2 ^ (k + 1) = accN a b k + 2 ^ k * n := by
    rw [mod_succ, mod_succ, hn, Nat.mul_add, Nat.mul_add]; omega
  have hn2 : n = n % 2 + 2 * (n / 2) := by omega
  have hp : 0 < 2 ^ k := Nat.two_pow_pos k
  have e2 : a % 2 ^ (k + 1) + b % 2 ^ (k + 1) = (accN a b k + 2 ^ k * (n % 2)) + 2 ^ (k + 1) * (n / 2) := by
    rw [e, Nat.pow_succ, Nat.mul_assoc, Nat.add_assoc, ← Nat.mul_add, ← hn2]
  have hlt : accN a b k + 2 ^ k * (n % 2) < 2 ^ (k + 1) := by
    have : n % 2 = 0 ∨ n % 2 = 1 := by omega
    rw [Nat.pow_succ]
    rcases this with h0 | h0 <;> rw [h0] <;> omega
  have hp1 : 0 < 2 ^ (k + 1) := Nat.two_pow_pos _
  constructor
  · rw [show accN a b (k + 1) = (a % 2 ^ (k + 1) + b % 2 ^ (k + 1)) % 2 ^ (k + 1) from rfl, e2, Nat.add_mul_mod_self_left, Nat.mod_eq_of_lt hlt]
  · rw [show carN a b (k + 1) = (a % 2 ^ (k + 1) + b % 2 ^ (k + 1)) / 2 ^ (k + 1) from rfl, e2, Nat.add_mul_div_left _ _ hp1, Nat.div_eq_of_lt hlt, Nat.zero_add]
theorem pow128 : (2 : Nat) ^ 128 = big := by rw [big_eq]
/-- What Add answers. -/
def sumOk (a b : Nat) : Bool := decide (a + b < big)
def sumN (a b : Nat) : Nat := if a + b < big then a + b else 0
theorem acc_end (a b : Nat) (ha : a < big) (hb : b < big) : accN a b 128 = (a + b) % big ∧ carN a b 128 = (a + b) / big := by
  unfold accN carN
  rw [pow128, Nat.mod_eq_of_lt ha, Nat.mod_eq_of_lt hb]
  exact ⟨rfl, rfl⟩

/-- The difference bit by bit: what was gathered, and what was borrowed. -/
def borN (a b k : Nat) : Nat := if a % 2 ^ k < b % 2 ^ k then 1 else 0
def disN (a b k : Nat) : Nat := a % 2 ^ k + 2 ^ k * borN a b k - b % 2 ^ k
theorem borN_zero (a b : Nat) : borN a b 0 = 0 := by unfold borN; rw [if_neg]; simp; omega
theorem disN_zero (a b : Nat) : disN a b 0 = 0 := by unfold disN; rw [borN_zero]; simp; omega
theorem borN_lt (a b k : Nat) : borN a b k < 2 := by unfold borN; split <;> omega
theorem dis_eq (a b k : Nat) : disN a b k + b % 2 ^ k = a % 2 ^ k + 2 ^ k * borN a b k ∧ disN a b k < 2 ^ k := by
  have h1 := Nat.mod_lt a (Nat.two_pow_pos k)
  have h2 := Nat.mod_lt b (Nat.two_pow_pos k)
  unfold disN borN
  split <;> omega
theorem step_dis_1 (a b k : Nat) (hc : bitN a k < bitN b k + borN a b k) :
    borN a b (k + 1) = 1 ∧ disN a b (k + 1) = disN a b k + 2 ^ k * (bitN a k + 2 - (bitN b k + borN a b k)) := by
  obtain ⟨h1, h2⟩ := dis_eq a b k
  have ba := bitN_lt a k
  have bb := bitN_lt b k
  have bo := borN_lt a b k
  have hA := Nat.mod_lt a (Nat.two_pow_pos k)
  have hB := Nat.mod_lt b (Nat.two_pow_pos k)
  have e1 : borN a b (k + 1) = 1 := by
    unfold borN
    rw [mod_succ, mod_succ]
    rw [if_pos]
    generalize hbo : borN a b k = c at *
    generalize bitN a k = x at *
    generalize bitN b k = y at *
    generalize 2 ^ k = p at *
    have hx : x = 0 ∨ x = 1 := by omega
    have hy : y = 0 ∨ y = 1 := by omega
    have hcc : c = 0 ∨ c = 1 := by omega
    rcases hx with rfl | rfl <;> rcases hy with rfl | rfl <;> rcases hcc with rfl | rfl <;> omega
  refine ⟨e1, ?_⟩
  obtain ⟨h3, h4⟩ := dis_eq a b (k + 1)
  rw [e1, mod_succ, mod_succ] at h3
  rw [Nat.pow_succ] at h3 h4
  generalize borN a b k = c at *
  generalize bitN a k = x at *
  generalize bitN b k = y at *
  generalize 2 ^ k = p at *
  have hx : x = 0 ∨ x = 1 := by omega
  have hy : y = 0 ∨ y = 1 := by omega
  have hcc : c = 0 ∨ c = 1 := by omega
  rcases hx with rfl | rfl <;> rcases hy with rfl | rfl <;> rcases hcc with rfl | rfl <;> simp at h1 h3 ⊢ <;> omega
theorem step_dis_0 (a b k : Nat) (hc : bitN b k + borN a b k ≤ bitN a k) :
    borN a b (k + 1) = 0 ∧ disN a b (k + 1) = disN a b k + 2 ^ k * (bitN a k - (bitN b k + borN a b k)) := by
  obtain ⟨h1, h2⟩ := dis_eq a b k
  have ba := bitN_lt a k
  have bb := bitN_lt b k
  have bo := borN_lt a b k
  have hA := Nat.mod_lt a (Nat.two_pow_pos k)
  have hB := Nat.mod_lt b (Nat.two_pow_pos k)
  have e1 : borN a b (k + 1) = 0 := by
    unfold borN
    rw [mod_succ, mod_succ]
    rw [if_neg]
    generalize hbo : borN a b k = c at *
    generalize bitN a k = x at *
    generalize bitN b k = y at *
    generalize 2 ^ k = p at *
    have hx : x = 0 ∨ x = 1 := by omega
    have hy : y = 0 ∨ y = 1 := by omega
    have hcc : c = 0 ∨ c = 1 := by omega
    rcases hx with rfl | rfl <;> rcases hy with rfl | rfl <;> rcases hcc with rfl | rfl <;> omega
  refine ⟨e1, ?_⟩
  obtain ⟨h3, h4⟩ := dis_eq a b (k + 1)
  rw [e1, mod_succ, mod_succ] at h3
  rw [Nat.pow_succ] at h4
  generalize borN a b k = c at *
  generalize bitN a k = x at *
  generalize bitN b k = y at *
  generalize 2 ^ k = p at *
  have hx : x = 0 ∨ x = 1 := by omega
  have hy : y = 0 ∨ y = 1 := by omega
  have hcc : c = 0 ∨ c = 1 := by omega
  rcases hx with rfl | rfl <;> rcases hy with rfl | rfl <;> rcases hcc with rfl | rfl <;> simp at h1 h3 ⊢ <;> omega
/-- What Sub answers. -/
def difOk (a b : Nat) : Bool := decide (b ≤ a)
def difN (a b : Nat) : Nat := if b ≤ a then a - b else 0
theorem dis_end (a b : Nat) (ha : a < big) (hb : b < big) (h : b ≤ a) : disN a b 128 = a - b := by
  have e := (dis_eq a b 128).1
  have e0 : borN a b 128 = 0 := by
    unfold borN; rw [pow128, Nat.mod_eq_of_lt ha, Nat.mod_eq_of_lt hb, if_neg (by omega)]
  rw [e0, pow128, Nat.mod_eq_of_lt ha, Nat.mod_eq_of_lt hb] at e
  omega

/-- The words of a sum, as the carry makes them. -/
theorem add_words (a b : Nat) (_ha : a < big) (_hb : b < big) :
    loN (a + b) = (loN a + loN b) % 18446744073709551616 ∧ hiN ((a + b) % big) = (hiN a + hiN b + (loN a + loN b) / 18446744073709551616) % 18446744073709551616 ∧ (a + b) / big = (hiN a + hiN b + (loN a + loN b) / 18446744073709551616) / 18446744073709551616 := by
  unfold loN hiN; rw [big_eq] at *; omega
theorem sub_words (a b : Nat) (_ha : a < big) (_hb : b < big) (h : b ≤ a) :
    loN (a - b) = (loN a + 18446744073709551616 - loN b) % 18446744073709551616 ∧ hiN (a - b) = (hiN a + 18446744073709551616 - hiN b - (if loN a < loN b then 1 else 0)) % 18446744073709551616 := by
  unfold loN hiN; rw [big_eq] at *
  split <;> omega
theorem sub_below (a b : Nat) (_ha : a < big) (_hb : b < big) : (if hiN a < hiN b + (if loN a < loN b then 1 else 0) then 1 else 0 : Nat) = if a < b then 1 else 0 := by
  unfold loN hiN; rw [big_eq] at *
  by_cases h1 : a % 18446744073709551616 < b % 18446744073709551616
  · rw [if_pos h1]; split <;> split <;> omega
  · rw [if_neg h1]; split <;> split <;> omega

/-- The carry of the lower words, behind a name. -/
def carL (x y : Nat) : Nat := (x + y) / 18446744073709551616
def borL (x y : Nat) : Nat := if x < y then 1 else 0
theorem carL_le {x y : Nat} (hx : x < 18446744073709551616) (hy : y < 18446744073709551616) : carL x y ≤ 1 := by unfold carL; omega
theorem borL_le (x y : Nat) : borL x y ≤ 1 := by unfold borL; split <;> omega
theorem sumN_yes {a b : Nat} (h : a + b < big) : sumN a b = a + b := if_pos h
theorem sumN_no {a b : Nat} (h : ¬ a + b < big) : sumN a b = 0 := if_neg h
theorem sumOk_yes {a b : Nat} (h : a + b < big) : sumOk a b = true := decide_eq_true h
theorem sumOk_no {a b : Nat} (h : ¬ a + b < big) : sumOk a b = false := decide_eq_false h
theorem difN_yes {a b : Nat} (h : b ≤ a) : difN a b = a - b := if_pos h
theorem difN_no {a b : Nat} (h : ¬ b ≤ a) : difN a b = 0 := if_neg h
theorem difOk_yes {a b : Nat} (h : b ≤ a) : difOk a b = true := decide_eq_true h
theorem difOk_no {a b : Nat} (h : ¬ b ≤ a) : difOk a b = false := decide_eq_false h
theorem sumN_lt (a b : Nat) : sumN a b < big := by unfold sumN; split; assumption; rw [big_eq]; omega
theorem difN_lt {a b : Nat} (ha : a < big) : difN a b < big := by unfold difN; split <;> omega
theorem hiN_zero : hiN 0 = 0 := rfl
theorem loN_zero : loN 0 = 0 := rfl

def subL (x y : Nat) : Nat := (x + 18446744073709551616 - y - 0) % 18446744073709551616
def subH (x y c : Nat) : Nat := (x + 18446744073709551616 - y - c) % 18446744073709551616
/-- What Compare answers. -/
def cmpN (a b : Nat) : Int := if a < b then -1 else if a = b then 0 else 1
theorem cmpN_lt {a b : Nat} (h : a < b) : cmpN a b = -1 := if_pos h
theorem cmpN_eq {a b : Nat} (h : a = b) : cmpN a b = 0 := by unfold cmpN; rw [if_neg (by omega), if_pos h]
theorem cmpN_gt {a b : Nat} (h : b < a) : cmpN a b = 1 := by unfold cmpN; rw [if_neg (by omega), if_neg (by omega)]
theorem cmpN_lo {a b : Nat} (h : hiN a = hiN b) : cmpN (loN a) (loN b) = cmpN a b := by
  unfold hiN at h; unfold cmpN loN; split <;> split <;> (try split) <;> (try split) <;> omega
theorem cmpN_hi {a b : Nat} (h : ¬ hiN a = hiN b) : cmpN (hiN a) (hiN b) = cmpN a b := by
  unfold hiN at *; unfold cmpN; split <;> split <;> (try split) <;> (try split) <;> omega

def lessN (a b : Nat) : Bool := decide (a < b)
theorem cmpN_neg (a b : Nat) : decide (cmpN a b < 0) = lessN a b := by
  unfold lessN cmpN; split <;> (try split) <;> simp <;> omega
theorem zero_iff (a : Nat) : (hiN a = 0 ∧ loN a = 0) ↔ a = 0 := by unfold hiN loN; omega

theorem wrap3 {x y z : Nat} (hx : x < 2) (hy : y < 2) (hz : z < 2) : IntKind.i64.wrap (IntKind.i64.wrap ((x : Int) + (y : Int)) + (z : Int)) = ((x + y + z : Nat) : Int) := by
  have e : ∀ n : Int, 0 ≤ n → n < 100 → IntKind.i64.wrap n = n := fun n h1 h2 => by simp [IntKind.wrap, IntKind.bits, IntKind.signed]; omega
  rw [e ((x : Int) + (y : Int)) (by omega) (by omega), e _ (by omega) (by omega)]; omega
theorem quo_two (n : Nat) : ((n : Nat) : Int).tdiv 2 = ((n / 2 : Nat) : Int) := by rw [Int.tdiv_eq_ediv_of_nonneg (by omega)]; omega

/-- One step of the difference, as the walk writes it: what is left is -2, -1, 0 or 1. -/
theorem step_dis (a b k : Nat) :
    (IntKind.i64.wrap (IntKind.i64.wrap (((bitN a k : Nat) : Int) - ((bitN b k : Nat) : Int)) - ((borN a b k : Nat) : Int)) = -2 ∧ borN a b (k + 1) = 1 ∧ disN a b (k + 1) = disN a b k) ∨
    (IntKind.i64.wrap (IntKind.i64.wrap (((bitN a k : Nat) : Int) - ((bitN b k : Nat) : Int)) - ((borN a b k : Nat) : Int)) = -1 ∧ borN a b (k + 1) = 1 ∧ disN a b (k + 1) = disN a b k + 2 ^ k) ∨
    (IntKind.i64.wrap (IntKind.i64.wrap (((bitN a k : Nat) : Int) - ((bitN b k : Nat) : Int)) - ((borN a b k : Nat) : Int)) = 0 ∧ borN a b (k + 1) = 0 ∧ disN a b (k + 1) = disN a b k) ∨
    (IntKind.i64.wrap (IntKind.i64.wrap (((bitN a k : Nat) : Int) - ((bitN b k : Nat) : Int)) - ((borN a b k : Nat) : Int)) = 1 ∧ borN a b (k + 1) = 0 ∧ disN a b (k + 1) = disN a b k + 2 ^ k) := by
  have e : ∀ n : Int, -100 ≤ n → n < 100 → IntKind.i64.wrap n = n := fun n h1 h2 => by simp [IntKind.wrap, IntKind.bits, IntKind.signed]; omega
  have ba := bitN_lt a k
  have bb := bitN_lt b k
  have bo := borN_lt a b k
  rw [e (((bitN a k : Nat) : Int) - ((bitN b k : Nat) : Int)) (by omega) (by omega), e _ (by omega) (by omega)]
  by_cases hc : bitN a k < bitN b k + borN a b k
  · obtain ⟨h1, h2⟩ := step_dis_1 a b k hc
    by_cases h3 : bitN a k + 2 - (bitN b k + borN a b k) = 0
    · exact Or.inl ⟨by omega, h1, by rw [h2, h3]; simp⟩
    · exact Or.inr (Or.inl ⟨by omega, h1, by rw [h2, show bitN a k + 2 - (bitN b k + borN a b k) = 1 by omega]; simp⟩)
  · obtain ⟨h1, h2⟩ := step_dis_0 a b k (by omega)
    by_cases h3 : bitN a k - (bitN b k + borN a b k) = 0
    · exact Or.inr (Or.inr (Or.inl ⟨by omega, h1, by rw [h2, h3]; simp⟩))
    · exact Or.inr (Or.inr (Or.inr ⟨by omega, h1, by rw [h2, show bitN a k - (bitN b k + borN a b k) = 1 by omega]; simp⟩))

/-- The school division by ten, in base 2^32, as Go's library does it: the divisor's lower half is 0. -/
def u32N (hi lo : Nat) : Nat := hi * 1152921504606846976 + lo / 16
def u1N (lo : Nat) : Nat := lo % 16 * 268435456
theorem or_words (hi lo : Nat) (_h : hi < 10) (hl : lo < 18446744073709551616) : bits .or .u64 ((hi : Int) * 1152921504606846976) ((lo : Int) / 16) = ((u32N hi lo : Nat) : Int) := by
  have e1 : (hi : Int) * 1152921504606846976 = ((2 ^ 60 * hi : Nat) : Int) := by omega
  have e2 : (lo : Int) / 16 = ((lo / 16 : Nat) : Int) := by omega
  rw [e1, e2, bits_or_u64_nat _ _ (by omega) (by omega), ← Nat.two_pow_add_eq_or_of_lt (by omega)]
  unfold u32N; congr 1; omega
theorem low_words (lo : Nat) : IntKind.u64.wrap ((lo : Int) * 1152921504606846976) / 4294967296 = ((u1N lo : Nat) : Int) := by
  rw [IntKind.wrap_u64]; unfold u1N; omega
/-- The low half of a word, masked out. -/
theorem mask32 (a : Nat) (ha : a < 18446744073709551616) : bits .and .u64 (a : Int) 4294967295 = ((a % 4294967296 : Nat) : Int) := by
  have h := bits_and_u64_nat a 4294967295 ha (by omega)
  have e : a &&& 4294967295 = a % 4294967296 := Nat.and_two_pow_sub_one_eq_mod a 32
  rw [e] at h
  exact h
theorem low_low (lo : Nat) : bits .and .u64 (IntKind.u64.wrap ((lo : Int) * 1152921504606846976)) 4294967295 = 0 := by
  have e : IntKind.u64.wrap ((lo : Int) * 1152921504606846976) = ((lo % 16 * 1152921504606846976 : Nat) : Int) := by rw [IntKind.wrap_u64]; omega
  rw [e, mask32 _ (by omega)]; omega
theorem u32_lt (hi lo : Nat) (h : hi < 10) (hl : lo < 18446744073709551616) : u32N hi lo < 11529215046068469760 := by unfold u32N; omega
theorem u1_lt (lo : Nat) : u1N lo < 4294967296 := by unfold u1N; omega

theorem and_const : bits .and .u64 11529215046068469760 4294967295 = 0 := by
  have := mask32 11529215046068469760 (by omega)
  exact this
theorem quo_step (U : Nat) (h : U < 11529215046068469760) : IntKind.u64.wrap (((U : Nat) : Int).tdiv 2684354560) = ((U / 2684354560 : Nat) : Int) := by
  rw [Int.tdiv_eq_ediv_of_nonneg (by omega), IntKind.wrap_u64]; omega
theorem rem_step (U : Nat) (_h : U < 11529215046068469760) : IntKind.u64.wrap (((U : Nat) : Int) - IntKind.u64.wrap (((U / 2684354560 : Nat) : Int) * 2684354560)) = ((U % 2684354560 : Nat) : Int) := by
  simp only [IntKind.wrap_u64]; omega

theorem quo_step' (U : Nat) (h : U < 11529215046068469760) : IntKind.u64.wrap (((U : Nat) : Int) / 2684354560) = ((U / 2684354560 : Nat) : Int) := by
  rw [IntKind.wrap_u64]; omega
theorem not_neg (n : Int) : decide (IntKind.u64.wrap n < 0) = false := decide_eq_false (by rw [IntKind.wrap_u64]; omega)
theorem mid_step (U q r u : Nat) (hq : U / 2684354560 = q) (hr : U % 2684354560 = r) (_hU : U < 11529215046068469760) (hu : u < 4294967296) :
    IntKind.u64.wrap (IntKind.u64.wrap (IntKind.u64.wrap (((U : Nat) : Int) * 4294967296) + ((u : Nat) : Int)) - IntKind.u64.wrap (((q : Nat) : Int) * 11529215046068469760)) = ((r * 4294967296 + u : Nat) : Int) := by
  simp only [IntKind.wrap_u64]; omega

def quoN (hi lo : Nat) : Nat := (hi * 18446744073709551616 + lo) / 10
def remN (hi lo : Nat) : Nat := (hi * 18446744073709551616 + lo) % 10
theorem div_d1 (hi lo : Nat) : u32N hi lo * 4294967296 + u1N lo = (hi * 18446744073709551616 + lo) * 268435456 := by unfold u32N u1N; omega
theorem div_d2 {U q r : Nat} (hq : U / 2684354560 = q) (hr : U % 2684354560 = r) : U = q * 2684354560 + r ∧ r < 2684354560 := by omega
theorem div_d3 {N U u q r v x z : Nat} (h1 : U * 4294967296 + u = N * 268435456) (h2 : U = q * 2684354560 + r) (h3 : r * 4294967296 + u = v) (h4 : v = x * 2684354560 + z) :
    N * 268435456 = (q * 4294967296 + x) * 2684354560 + z := by
  rw [← h1, h2, Nat.add_mul, Nat.add_assoc, h3, h4, Nat.add_mul, Nat.mul_right_comm, Nat.add_assoc]
theorem div_d4 {N Q z : Nat} (h : N * 268435456 = Q * 2684354560 + z) (hz : z < 2684354560) : N / 10 = Q ∧ z = 268435456 * (N % 10) := by omega
theorem div_d5 {q x : Nat} (hq : q < 4294967296) (hx : x < 4294967296) : IntKind.u64.wrap (IntKind.u64.wrap (((q : Nat) : Int) * 4294967296) + ((x : Nat) : Int)) = ((q * 4294967296 + x : Nat) : Int) := by
  rw [IntKind.wrap_u64 (((q : Nat) : Int) * 4294967296), Int.emod_eq_of_lt (by omega) (by omega), IntKind.wrap_u64, Int.emod_eq_of_lt (by omega) (by omega)]; omega
theorem div_d6 {v x z m : Nat} (h4 : v = x * 2684354560 + z) (hz : z = 268435456 * m) (hm : m < 10) :
    IntKind.u64.wrap (IntKind.u64.wrap (IntKind.u64.wrap (((v : Nat) : Int) * 4294967296)) - IntKind.u64.wrap (((x : Nat) : Int) * 11529215046068469760)) / 1152921504606846976 = ((m : Nat) : Int) := by
  rw [IntKind.wrap_u64 (((v : Nat) : Int) * 4294967296), IntKind.wrap_u64 (((x : Nat) : Int) * 11529215046068469760), IntKind.wrap_u64, IntKind.wrap_u64, Int.emod_emod, ← Int.sub_emod]
  have e : ((v : Nat) : Int) * 4294967296 - ((x : Nat) : Int) * 11529215046068469760 = (m : Int) * 1152921504606846976 := by omega
  rw [e, Int.emod_eq_of_lt (by omega) (by omega)]; omega
theorem div_end (hi lo q r u v x z : Nat) (hQ : u32N hi lo / 2684354560 = q) (hR : u32N hi lo % 2684354560 = r) (hO : u1N lo = u)
    (hq : q < 4294967296) (hx : x < 4294967296) (hV : r * 4294967296 + u = v) (hX : v / 2684354560 = x) (hZ : v % 2684354560 = z) :
    IntKind.u64.wrap (IntKind.u64.wrap (((q : Nat) : Int) * 4294967296) + ((x : Nat) : Int)) = ((quoN hi lo : Nat) : Int) ∧
    IntKind.u64.wrap (IntKind.u64.wrap (IntKind.u64.wrap (((v : Nat) : Int) * 4294967296)) - IntKind.u64.wrap (((x : Nat) : Int) * 11529215046068469760)) / 1152921504606846976 = ((remN hi lo : Nat) : Int) := by
  have a1 := div_d1 hi lo
  rw [hO] at a1
  obtain ⟨a2, _⟩ := div_d2 hQ hR
  obtain ⟨a4, a5⟩ := div_d2 hX hZ
  obtain ⟨b1, b2⟩ := div_d4 (div_d3 a1 a2 hV a4) a5
  rw [show quoN hi lo = q * 4294967296 + x from b1]
  exact ⟨div_d5 hq hx, div_d6 a4 b2 (Nat.mod_lt _ (by omega))⟩
theorem tenth_words (n : Nat) : hiN (n / 10) = hiN n / 10 ∧ loN (n / 10) = quoN (hiN n % 10) (loN n) ∧ n % 10 = remN (hiN n % 10) (loN n) := by
  unfold hiN loN quoN remN; omega

/-- The lowest k decimal digits, the highest first, as bytes. -/
def digB (n : Nat) : UInt8 := UInt8.ofNat (48 + n % 10)
def decN : Nat → Nat → List UInt8
  | 0, _ => []
  | k + 1, n => digB (n / 10 ^ k) :: decN k n
theorem decN_length : ∀ k n, (decN k n).length = k
  | 0, _ => rfl
  | k + 1, n => by simp [decN, decN_length k n]
theorem digB_toNat (n : Nat) : (digB n).toNat = 48 + n % 10 := by
  unfold digB
  rw [UInt8.toNat_ofNat']
  omega
/-- How many digits a number has. -/
def ndF : Nat → Nat → Nat
  | 0, _ => 0
  | f + 1, n => if n < 10 then 1 else ndF f (n / 10) + 1
def ndN (n : Nat) : Nat := ndF 39 n
theorem ndF_len : ∀ (f n : Nat), n < 10 ^ (f + 1) → 1 ≤ ndF (f + 1) n ∧ ndF (f + 1) n ≤ f + 1 ∧ n < 10 ^ ndF (f + 1) n ∧ (ndF (f + 1) n = 1 ∨ 10 ^ (ndF (f + 1) n - 1) ≤ n)
  | 0, n, h => by
    have h' : n < 10 := by simpa using h
    simp [ndF, h']
  | f + 1, n, h => by
    by_cases h' : n < 10
    · rw [show ndF (f + 1 + 1) n = 1 by rw [ndF, if_pos h']]; omega
    · have hd : n / 10 < 10 ^ (f + 1) := by rw [Nat.pow_succ] at h; omega
      obtain ⟨a1, a2, a3, a4⟩ := ndF_len f (n / 10) hd
      rw [show ndF (f + 1 + 1) n = ndF (f + 1) (n / 10) + 1 by rw [ndF, if_neg h']]
      refine ⟨by omega, by omega, by rw [Nat.pow_succ]; omega, Or.inr ?_⟩
      rcases a4 with a4 | a4
      · rw [a4]; simp; omega
      · rw [show ndF (f + 1) (n / 10) + 1 - 1 = ndF (f + 1) (n / 10) - 1 + 1 by omega, Nat.pow_succ]; omega
theorem big_lt : big < 10 ^ 39 := by rw [big_eq]; decide +kernel
theorem ndN_len (n : Nat) (h : n < big) : 1 ≤ ndN n ∧ ndN n ≤ 39 ∧ n < 10 ^ ndN n ∧ (ndN n = 1 ∨ 10 ^ (ndN n - 1) ≤ n) :=
  ndF_len 38 n (Nat.lt_trans h big_lt)
theorem ndN_eq {n k : Nat} (h : n < big) (h1 : 1 ≤ k) (h2 : n < 10 ^ k) (h3 : k = 1 ∨ 10 ^ (k - 1) ≤ n) : ndN n = k := by
  obtain ⟨a1, a2, a3, a4⟩ := ndN_len n h
  have mono : ∀ i j : Nat, i ≤ j → 10 ^ i ≤ 10 ^ j := fun i j hij => Nat.pow_le_pow_right (by omega) hij
  rcases Nat.lt_trichotomy (ndN n) k with hlt | he | hgt
  · have := mono (ndN n) (k - 1) (by omega)
    rcases h3 with h3 | h3 <;> omega
  · exact he
  · have := mono k (ndN n - 1) (by omega)
    rcases a4 with a4 | a4 <;> omega
def showN (n : Nat) : ByteArray := ⟨(decN (ndN n) n).toArray⟩
/-- The number's digits that are left. -/
def restN (n k : Nat) : Nat := n / 10 ^ k
theorem restN_zero (n : Nat) : restN n 0 = n := by unfold restN; simp
theorem restN_succ (n k : Nat) : restN n k / 10 = restN n (k + 1) := by unfold restN; rw [Nat.pow_succ, Nat.div_div_eq_div_mul]
theorem decN_succ (n k : Nat) : decN (k + 1) n = digB (restN n k) :: decN k n := rfl
theorem restN_lt {n k : Nat} (h : n < big) : restN n k < big := Nat.lt_of_le_of_lt (Nat.div_le_self _ _) h
theorem restN_pos {n k : Nat} (h : n < big) (hp : restN n k ≠ 0) : k < 39 := by
  apply Nat.lt_of_not_le
  intro hk
  have h1 : (10 : Nat) ^ 39 ≤ 10 ^ k := Nat.pow_le_pow_right (by omega) hk
  have h2 := big_lt
  exact hp (Nat.div_eq_of_lt (by omega))
theorem ndN_stop {n k : Nat} (h : n < big) (h1 : restN n (k + 1) = 0) (h2 : k = 0 ∨ restN n k ≠ 0) : ndN n = k + 1 := by
  have hp : 0 < 10 ^ (k + 1) := Nat.pow_pos (by omega)
  have hq : 0 < 10 ^ k := Nat.pow_pos (by omega)
  refine ndN_eq h (by omega) ?_ ?_
  · unfold restN at h1
    exact (Nat.div_eq_zero_iff.1 h1).resolve_left (by omega)
  · rcases h2 with h2 | h2
    · left; omega
    · right
      unfold restN at h2
      rw [Nat.add_sub_cancel]
      exact Nat.le_of_not_lt fun hl => h2 (Nat.div_eq_of_lt hl)

/-- The first bit, from the top, at which two numbers part. -/
theorem mod_eq_of_bits (a b k : Nat) (ha : a / 2 ^ k = b / 2 ^ k) : (a < b ↔ a % 2 ^ k < b % 2 ^ k) := by
  have h1 := Nat.div_add_mod a (2 ^ k)
  have h2 := Nat.div_add_mod b (2 ^ k)
  rw [ha] at h1
  omega
theorem div_step (a k : Nat) : a / 2 ^ k = 2 * (a / 2 ^ (k + 1)) + bitN a k := by
  rw [Nat.pow_succ, ← Nat.div_div_eq_div_mul]; unfold bitN; omega
theorem lt_of_bit (a b k : Nat) (h : a / 2 ^ (k + 1) = b / 2 ^ (k + 1)) (hb : bitN a k ≠ bitN b k) : (a < b ↔ bitN a k < bitN b k) := by
  have h1 := div_step a k
  have h2 := div_step b k
  have ba := bitN_lt a k
  have bb := bitN_lt b k
  rw [h] at h1
  have hp := Nat.two_pow_pos k
  constructor
  · intro hlt
    have : a / 2 ^ k ≤ b / 2 ^ k := Nat.div_le_div_right (Nat.le_of_lt hlt)
    omega
  · intro hlt
    have hd : a / 2 ^ k < b / 2 ^ k := by omega
    exact Nat.lt_of_not_le fun hle => by
      have : b / 2 ^ k ≤ a / 2 ^ k := Nat.div_le_div_right hle
      omega
theorem eq_of_bits (a b k : Nat) (h : a / 2 ^ (k + 1) = b / 2 ^ (k + 1)) (hb : bitN a k = bitN b k) : a / 2 ^ k = b / 2 ^ k := by
  rw [div_step a k, div_step b k, h, hb]
theorem top_zero (a : Nat) (ha : a < big) : a / 2 ^ 128 = 0 := by rw [pow128]; exact Nat.div_eq_of_lt ha
end Go.Proofs.Ytkahohgbcnchiaa.Wm
