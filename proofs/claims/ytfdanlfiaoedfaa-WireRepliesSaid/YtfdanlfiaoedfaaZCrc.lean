/- Plain arithmetic for layer 2: a register of 32 bits that takes bytes, bit by bit; its steps lose nothing. No condition. -/
import Derived.Laws.Bits64
import Derived.RowKit
import Derived.WalkKit
namespace Go.Proofs.Ytfdanlfiaoedfaa.Cr
open Go Go.RowKit

def W : Nat := 4294967296
theorem W_eq : W = 4294967296 := rfl

/-- One bit's step of a register. -/
def bitC (c : Nat) : Nat := if c % 2 = 1 then (c / 2) ^^^ 2197175160 else c / 2
/-- n bits' steps. -/
def bitsC : Nat → Nat → Nat
  | 0, c => c
  | n + 1, c => bitsC n (bitC c)
/-- A byte's. -/
def byteC (c b : Nat) : Nat := bitsC 8 (c ^^^ b)
/-- A row's of bytes. -/
def rowC (c : Nat) (l : List Nat) : Nat := l.foldl byteC c

theorem xor_lt {a b : Nat} (ha : a < W) (hb : b < W) : a ^^^ b < W := by
  have e : W = 2 ^ 32 := by rw [W_eq]
  rw [e] at *
  exact Nat.xor_lt_two_pow ha hb
theorem xor_half (a b : Nat) : (a ^^^ b) / 2 = (a / 2) ^^^ (b / 2) := by
  have := Nat.shiftRight_xor_distrib (a := a) (b := b) (i := 1)
  rw [Nat.shiftRight_eq_div_pow, Nat.shiftRight_eq_div_pow, Nat.shiftRight_eq_div_pow] at this
  exact this
theorem bitC_lt {c : Nat} (h : c < W) : bitC c < W := by
  unfold bitC
  split
  · exact xor_lt (by rw [W_eq] at *; omega) (by rw [W_eq]; decide)
  · rw [W_eq] at *; omega
theorem xor_mod2 (a b : Nat) : (a ^^^ b) % 2 = (a % 2 + b % 2) % 2 := by
  have h := @Nat.xor_mod_two_eq_one a b
  have h1 : (a ^^^ b) % 2 < 2 := Nat.mod_lt _ (by decide)
  have h2 : a % 2 < 2 := Nat.mod_lt _ (by decide)
  have h3 : b % 2 < 2 := Nat.mod_lt _ (by decide)
  by_cases ha : a % 2 = 1 <;> by_cases hb : b % 2 = 1 <;> simp only [ha, hb, iff_self, not_true, not_false_iff, iff_false, iff_true] at h <;> omega
/-- A step of a sum, with no carry, is that of the parts. -/
theorem bitC_xor (a b : Nat) : bitC (a ^^^ b) = bitC a ^^^ bitC b := by
  unfold bitC
  rw [xor_mod2, xor_half]
  have h2 : a % 2 < 2 := Nat.mod_lt _ (by decide)
  have h3 : b % 2 < 2 := Nat.mod_lt _ (by decide)
  by_cases ha : a % 2 = 1 <;> by_cases hb : b % 2 = 1
  · rw [if_pos ha, if_pos hb, if_neg (by omega)]
    rw [Nat.xor_assoc, ← Nat.xor_assoc 2197175160, Nat.xor_comm 2197175160, Nat.xor_assoc, Nat.xor_self, Nat.xor_zero]
  · rw [if_pos ha, if_neg hb, if_pos (by omega)]
    rw [Nat.xor_assoc, Nat.xor_comm (b / 2), ← Nat.xor_assoc]
  · rw [if_neg ha, if_pos hb, if_pos (by omega), Nat.xor_assoc]
  · rw [if_neg ha, if_neg hb, if_neg (by omega)]
/-- A step loses nothing. -/
theorem bitC_ne {c : Nat} (h : c < W) (hc : c ≠ 0) : bitC c ≠ 0 := by
  rw [W_eq] at h
  unfold bitC
  split
  · intro hx
    have e : c / 2 = 2197175160 := by
      have : (c / 2 ^^^ 2197175160) ^^^ 2197175160 = 2197175160 := by rw [hx, Nat.zero_xor]
      rwa [Nat.xor_assoc, Nat.xor_self, Nat.xor_zero] at this
    omega
  · omega

theorem bitsC_lt (n : Nat) : ∀ {c : Nat}, c < W → bitsC n c < W := by
  induction n with
  | zero => intro c h; exact h
  | succ n ih => intro c h; exact ih (bitC_lt h)
theorem bitsC_xor (n : Nat) : ∀ (a b : Nat), bitsC n (a ^^^ b) = bitsC n a ^^^ bitsC n b := by
  induction n with
  | zero => intro a b; rfl
  | succ n ih => intro a b; show bitsC n (bitC _) = _; rw [bitC_xor, ih]; rfl
theorem bitsC_ne (n : Nat) : ∀ {c : Nat}, c < W → c ≠ 0 → bitsC n c ≠ 0 := by
  induction n with
  | zero => intro c _ h; exact h
  | succ n ih => intro c h h'; exact ih (bitC_lt h) (bitC_ne h h')
theorem bitsC_add (n m : Nat) : ∀ (c : Nat), bitsC (n + m) c = bitsC m (bitsC n c) := by
  induction n with
  | zero => intro c; rw [Nat.zero_add]; rfl
  | succ n ih => intro c; rw [Nat.succ_add]; exact ih (bitC c)
theorem xor_ne {a b : Nat} (h : a ≠ b) : a ^^^ b ≠ 0 := by
  intro hx
  apply h
  have : (a ^^^ b) ^^^ b = b := by rw [hx, Nat.zero_xor]
  rwa [Nat.xor_assoc, Nat.xor_self, Nat.xor_zero] at this
theorem bitsC_inj (n : Nat) {a b : Nat} (ha : a < W) (hb : b < W) (h : bitsC n a = bitsC n b) : a = b := by
  rcases Nat.decEq a b with hne | he
  · exfalso
    refine bitsC_ne n (xor_lt ha hb) (xor_ne hne) ?_
    rw [bitsC_xor, h, Nat.xor_self]
  · exact he

/-- What stands above the lowest bit moves down unchanged. -/
theorem bitC_two (b : Nat) : bitC (2 * b) = b := by
  unfold bitC
  rw [if_neg (by omega)]
  omega
theorem byte_lt_W {b : Nat} (h : b < 256) : b < W := by rw [W_eq]; omega
theorem byteC_lt {c b : Nat} (h : c < W) (hb : b < 256) : byteC c b < W := bitsC_lt 8 (xor_lt h (byte_lt_W hb))
theorem rowC_append (c : Nat) (l m : List Nat) : rowC c (l ++ m) = rowC (rowC c l) m := List.foldl_append
/-- Of unlike registers one row makes unlike ones. -/
theorem byteC_inj {c d b : Nat} (hc : c < W) (hd : d < W) (hb : b < 256) (h : byteC c b = byteC d b) : c = d := by
  have := bitsC_inj 8 (xor_lt hc (byte_lt_W hb)) (xor_lt hd (byte_lt_W hb)) h
  have h2 : (c ^^^ b) ^^^ b = (d ^^^ b) ^^^ b := by rw [this]
  rwa [Nat.xor_assoc, Nat.xor_self, Nat.xor_zero, Nat.xor_assoc, Nat.xor_self, Nat.xor_zero] at h2
theorem rowC_inj : ∀ (l : List Nat) {c d : Nat}, c < W → d < W → (∀ b ∈ l, b < 256) → rowC c l = rowC d l → c = d := by
  intro l
  induction l with
  | nil => intro c d _ _ _ h; exact h
  | cons a l ih =>
    intro c d hc hd hl h
    have ha := hl a List.mem_cons_self
    exact byteC_inj hc hd ha (ih (byteC_lt hc ha) (byteC_lt hd ha) (fun b hb => hl b (List.mem_cons_of_mem _ hb)) h)
/-- A byte's step of a register's: eight bits of what waits come down. -/
theorem bitsC_shift (n : Nat) : ∀ (b : Nat), bitsC n (2 ^ n * b) = b := by
  induction n with
  | zero => intro b; rw [Nat.pow_zero, Nat.one_mul]; rfl
  | succ n ih =>
    intro b
    show bitsC n (bitC _) = b
    rw [Nat.pow_succ, Nat.mul_comm (2 ^ n) 2, Nat.mul_assoc, bitC_two, ih]
/-- Four bytes at once. -/
def wordN (a b c d : Nat) : Nat := a ^^^ (256 * (b ^^^ 256 * (c ^^^ 256 * d)))
theorem four (c b0 b1 b2 b3 : Nat) : rowC c [b0, b1, b2, b3] = bitsC 32 (c ^^^ wordN b0 b1 b2 b3) := by
  have s8 : ∀ x y : Nat, bitsC 8 (x ^^^ 256 * y) = bitsC 8 x ^^^ y := by
    intro x y
    rw [bitsC_xor]
    congr 1
    exact bitsC_shift 8 y
  show byteC (byteC (byteC (byteC c b0) b1) b2) b3 = _
  unfold byteC wordN
  rw [show (32 : Nat) = 8 + (8 + (8 + 8)) from rfl, bitsC_add, bitsC_add, bitsC_add,
    ← Nat.xor_assoc c, s8, ← Nat.xor_assoc, s8, ← Nat.xor_assoc, s8]

theorem mul256_xor (x y : Nat) : 256 * (x ^^^ y) = 256 * x ^^^ 256 * y := by
  have := Nat.shiftLeft_xor_distrib (a := x) (b := y) (i := 8)
  rw [Nat.shiftLeft_eq, Nat.shiftLeft_eq, Nat.shiftLeft_eq] at this
  rw [Nat.mul_comm 256, Nat.mul_comm 256, Nat.mul_comm 256]
  exact this
theorem xor_swap4 (a b c d : Nat) : (a ^^^ b) ^^^ (c ^^^ d) = (a ^^^ c) ^^^ (b ^^^ d) := by
  rw [Nat.xor_assoc, ← Nat.xor_assoc b, Nat.xor_comm b c, Nat.xor_assoc c, ← Nat.xor_assoc]
theorem wordN_xor (a b c d e f g h : Nat) : wordN (a ^^^ e) (b ^^^ f) (c ^^^ g) (d ^^^ h) = wordN a b c d ^^^ wordN e f g h := by
  unfold wordN
  rw [mul256_xor d h, xor_swap4 c g, mul256_xor (c ^^^ _), xor_swap4 b f, mul256_xor (b ^^^ _), xor_swap4 a e]
theorem xor_add (a b : Nat) (h : a < 256) : a ^^^ 256 * b = a + 256 * b := by
  have := Nat.two_pow_add_eq_or_of_lt (i := 8) (b := a) h b
  apply Nat.eq_of_testBit_eq
  intro i
  rw [Nat.add_comm, show 256 * b = 2 ^ 8 * b from rfl, this, Nat.testBit_xor, Nat.testBit_or]
  rw [Nat.testBit_two_pow_mul]
  by_cases hi : i < 8
  · simp [show ¬ 8 ≤ i from by omega]
  · have : a.testBit i = false := Nat.testBit_lt_two_pow (Nat.lt_of_lt_of_le h (by
      have := Nat.pow_le_pow_right (n := 2) (by decide) (show 8 ≤ i from by omega)
      simpa using this))
    rw [this]; simp
/-- A word of four bytes is their sum. -/
theorem wordN_eq {a b c : Nat} (ha : a < 256) (hb : b < 256) (hc : c < 256) (d : Nat) :
    wordN a b c d = a + 256 * b + 65536 * c + 16777216 * d := by
  unfold wordN
  rw [xor_add c d hc, xor_add b _ hb, xor_add a _ ha]
  omega
theorem wordN_lt {a b c d : Nat} (ha : a < 256) (hb : b < 256) (hc : c < 256) (hd : d < 256) : wordN a b c d < W := by
  rw [wordN_eq ha hb hc, W_eq]; omega
/-- Four bytes in a row turned: another register, and so it stays behind all that follows. -/
theorem turned {c : Nat} (hc : c < W) (b0 b1 b2 b3 t0 t1 t2 t3 : Nat) (post : List Nat)
    (hb0 : b0 < 256) (hb1 : b1 < 256) (hb2 : b2 < 256) (hb3 : b3 < 256)
    (ht0 : t0 < 256) (ht1 : t1 < 256) (ht2 : t2 < 256) (ht3 : t3 < 256)
    (hp : ∀ b ∈ post, b < 256) (hne : wordN t0 t1 t2 t3 ≠ 0) :
    rowC c ([b0 ^^^ t0, b1 ^^^ t1, b2 ^^^ t2, b3 ^^^ t3] ++ post) ≠ rowC c ([b0, b1, b2, b3] ++ post) := by
  intro h
  rw [rowC_append, rowC_append] at h
  have hw := wordN_lt hb0 hb1 hb2 hb3
  have ht := wordN_lt ht0 ht1 ht2 ht3
  have hl1 : rowC c [b0 ^^^ t0, b1 ^^^ t1, b2 ^^^ t2, b3 ^^^ t3] < W := by
    rw [four, wordN_xor]
    exact bitsC_lt 32 (xor_lt hc (xor_lt hw ht))
  have hl2 : rowC c [b0, b1, b2, b3] < W := by
    rw [four]
    exact bitsC_lt 32 (xor_lt hc hw)
  have := rowC_inj post hl1 hl2 hp h
  rw [four, four, wordN_xor] at this
  have := bitsC_inj 32 (xor_lt hc (xor_lt hw ht)) (xor_lt hc hw) this
  apply hne
  have h2 : (c ^^^ wordN b0 b1 b2 b3) ^^^ (c ^^^ (wordN b0 b1 b2 b3 ^^^ wordN t0 t1 t2 t3)) = 0 := by
    rw [this, Nat.xor_self]
  rwa [← Nat.xor_assoc c, ← Nat.xor_assoc (c ^^^ wordN b0 b1 b2 b3), Nat.xor_self, Nat.zero_xor] at h2
/-- The sum of a row behind another sum. -/
def sumC (a : Nat) (l : List Nat) : Nat := 4294967295 - rowC (4294967295 - a) l
end Go.Proofs.Ytfdanlfiaoedfaa.Cr
