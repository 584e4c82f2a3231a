/- Plain arithmetic for the document's own digits: doubled digit by digit. No condition. -/
import Derived.Test.YtlalkfebedjlgaaDoorZWa
namespace Go.Proofs.YtlalkfebedjlgaaDoor.Wm
open Go Go.RowKit

/-- Digit e of a number, counted from the lowest. -/
def digE (X e : Nat) : Nat := X / 10 ^ e % 10
theorem digE_lt (X e : Nat) : digE X e < 10 := Nat.mod_lt _ (by omega)
/-- What is carried when the q lowest digits have been doubled, and a bit was put in. -/
def caryN (X bit q : Nat) : Nat := (2 * (X % 10 ^ q) + bit) / 10 ^ q
theorem caryN_zero (X bit : Nat) (_h : bit < 2) : caryN X bit 0 = bit := by
  unfold caryN; simp only [Nat.pow_zero, Nat.div_one]; omega
theorem caryN_lt (X bit q : Nat) (h : bit < 2) : caryN X bit q < 2 := by
  have hp : 0 < 10 ^ q := Nat.pow_pos (by omega)
  have ht := Nat.mod_lt X hp
  unfold caryN
  exact Nat.div_lt_of_lt_mul (by omega)
theorem cary_step (X bit q : Nat) : (2 * digE X q + caryN X bit q) % 10 = digE (2 * X + bit) q ∧ (2 * digE X q + caryN X bit q) / 10 = caryN X bit (q + 1) := by
  have hp : 0 < 10 ^ q := Nat.pow_pos (by omega)
  unfold digE caryN
  have e1 : X % 10 ^ (q + 1) = X % 10 ^ q + 10 ^ q * (X / 10 ^ q % 10) := by rw [Nat.pow_succ, Nat.mod_mul]
  have e2 : 2 * (X % 10 ^ (q + 1)) + bit = (2 * (X % 10 ^ q) + bit) + 10 ^ q * (2 * (X / 10 ^ q % 10)) := by rw [e1, Nat.mul_add, Nat.mul_left_comm]; omega
  have e3 : (2 * (X % 10 ^ (q + 1)) + bit) / 10 ^ q = 2 * (X / 10 ^ q % 10) + (2 * (X % 10 ^ q) + bit) / 10 ^ q := by
    rw [e2, Nat.add_mul_div_left _ _ hp, Nat.add_comm]
  constructor
  · have e4 : 2 * X + bit = (2 * (X % 10 ^ (q + 1)) + bit) + 10 ^ q * (10 * (2 * (X / 10 ^ (q + 1)))) := by
      have h1 := Nat.mod_add_div X (10 ^ (q + 1))
      have e5 : 10 ^ q * (10 * (2 * (X / 10 ^ (q + 1)))) = 2 * (10 ^ (q + 1) * (X / 10 ^ (q + 1))) := by
        generalize X / 10 ^ (q + 1) = D
        rw [Nat.pow_succ, Nat.mul_assoc, Nat.mul_left_comm 2 (10 ^ q), Nat.mul_left_comm 2 10]
      rw [e5]
      omega
    rw [e4, Nat.add_mul_div_left _ _ hp, e3]; omega
  · rw [Nat.pow_succ, ← Nat.div_div_eq_div_mul]
    rw [← Nat.pow_succ, e3]
theorem cary_end (X bit q : Nat) (h : X < 10 ^ q) : caryN X bit q = (2 * X + bit) / 10 ^ q := by
  unfold caryN; rw [Nat.mod_eq_of_lt h]
/-- How many digits the doubled number has. -/
theorem nd_same (X bit : Nat) (hX : 2 * X + bit < big) (_hb : bit < 2) (hc : (2 * X + bit) / 10 ^ ndN X = 0) : ndN (2 * X + bit) = ndN X := by
  have hXb : X < big := by omega
  obtain ⟨a1, a2, a3, a4⟩ := ndN_len X hXb
  have hp : 0 < 10 ^ ndN X := Nat.pow_pos (by omega)
  refine ndN_eq hX a1 ((Nat.div_eq_zero_iff.1 hc).resolve_left (by omega)) ?_
  rcases a4 with a4 | a4
  · exact Or.inl a4
  · exact Or.inr (by omega)
theorem nd_more (X bit : Nat) (hX : 2 * X + bit < big) (_hb : bit < 2) (hc : (2 * X + bit) / 10 ^ ndN X ≠ 0) : ndN (2 * X + bit) = ndN X + 1 ∧ (2 * X + bit) / 10 ^ ndN X = 1 := by
  have hXb : X < big := by omega
  obtain ⟨a1, a2, a3, a4⟩ := ndN_len X hXb
  have hp : 0 < 10 ^ ndN X := Nat.pow_pos (by omega)
  have h10 : 10 ^ ndN X ≤ 2 * X + bit := Nat.le_of_not_lt fun h => hc (Nat.div_eq_of_lt h)
  have h2 : (2 * X + bit) / 10 ^ ndN X = 1 := by
    refine Nat.div_eq_of_lt_le (by omega) (by omega)
  exact ⟨ndN_eq hX (by omega) (by rw [Nat.pow_succ]; omega) (Or.inr (by rw [Nat.add_sub_cancel]; exact h10)), h2⟩
end Go.Proofs.YtlalkfebedjlgaaDoor.Wm
