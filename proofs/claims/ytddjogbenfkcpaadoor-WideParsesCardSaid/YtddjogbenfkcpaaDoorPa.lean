/- Parse's parts: ten times a number, one more digit. -/
import Derived.Test.YtddjogbenfkcpaaDoorWf
import Derived.Test.YtddjogbenfkcpaaDoorLa
namespace Go.Proofs.YtddjogbenfkcpaaDoor
open Go.RowKit Go.Sort Wm

theorem and10 : bits .and .u64 10 4294967295 = 10 := Mul64.maskN 10 (by omega)
def tenT (x : Nat) : Nat := x / 4294967296 * 10 + x % 4294967296 * 10 / 4294967296
theorem tenT_lt (x : Nat) (hx : x < 18446744073709551616) : tenT x < 18446744073709551616 := by unfold tenT; omega
theorem ten_e1 (x : Nat) (hx : x < 18446744073709551616) : IntKind.u64.wrap (((x : Nat) : Int) / 4294967296 * 10) = ((x / 4294967296 * 10 : Nat) : Int) := by rw [IntKind.wrap_u64]; omega
theorem ten_e2 (x : Nat) : IntKind.u64.wrap (((x % 4294967296 : Nat) : Int) * 10) / 4294967296 = ((x % 4294967296 * 10 / 4294967296 : Nat) : Int) := by rw [IntKind.wrap_u64]; omega
theorem ten_e3 (x : Nat) (hx : x < 18446744073709551616) : IntKind.u64.wrap (((x / 4294967296 * 10 : Nat) : Int) + ((x % 4294967296 * 10 / 4294967296 : Nat) : Int)) = ((tenT x : Nat) : Int) := by
  have := tenT_lt x hx
  unfold tenT at *
  rw [IntKind.wrap_u64]; omega
theorem ten_e4 (x : Nat) (hx : x < 18446744073709551616) : IntKind.u64.wrap (IntKind.u64.wrap (((tenT x : Nat) : Int) / 4294967296) + IntKind.u64.wrap ((tenT x % 4294967296 : Nat) : Int) / 4294967296) = ((x * 10 / 18446744073709551616 : Nat) : Int) := by
  have h := tenT_lt x hx
  have e : x * 10 / 18446744073709551616 = tenT x / 4294967296 := by unfold tenT; omega
  rw [e]
  simp only [IntKind.wrap_u64]
  omega
theorem ten_lo (x : Nat) : IntKind.u64.wrap (((x : Nat) : Int) * 10) = ((x * 10 % 18446744073709551616 : Nat) : Int) := by rw [IntKind.wrap_u64]; omega
set_option maxRecDepth 100000 in
set_option maxHeartbeats 1000000 in
theorem mul10 (x : Nat) (hx : x < 18446744073709551616) (w : World) :
    Calls Tryd.prog 36 #[.int .u64 ((x : Nat) : Int), .int .u64 10] w fun e w' => e = .returned (.tuple #[.int .u64 ((x * 10 / 18446744073709551616 : Nat) : Int), .int .u64 ((x * 10 % 18446744073709551616 : Nat) : Int)]) ∧ w = w' := by
  have Hx := Lib.hid hx
  clear hx
  go_enter Tryd.func36, Tryd.ntmps36
  go_wp2
  rw [and10, Mul64.maskN x Hx.out, ten_e1 x Hx.out, ten_e2 x, ten_e3 x Hx.out, Mul64.maskN _ (tenT_lt x Hx.out)]
  go_ret2
  exact ⟨ret_uu (ten_e4 x Hx.out) (ten_lo x), rfl⟩

/-- A number with one more digit behind; none: no digit, or it is too great. -/
def nextN (a b : Nat) : Option Nat := if 48 ≤ b ∧ b ≤ 57 ∧ a * 10 + (b - 48) < big then some (a * 10 + (b - 48)) else none
theorem nextN_lt {a b n : Nat} (h : nextN a b = some n) : n < big := by
  unfold nextN at h; split at h
  · rename_i k; obtain rfl := Option.some.inj h; exact k.2.2
  · cases h
theorem rowDigit (X Y Z : Nat) (h1 : loN X = 0) (h2 : hiN Z = 0) (w : World) (m : Nat) (hm : m = w.heap.size) : RowN (w.alloc (.cells #[.int .u64 ((hiN X : Nat) : Int), .int .u64 0, .int .u64 ((hiN Y : Nat) : Int), .int .u64 ((loN Y : Nat) : Int), .int .u64 0, .int .u64 ((loN Z : Nat) : Int)] 24)) m [X, Y, Z] := by
  have := rowN3 X Y Z w m hm
  rw [h1, h2] at this
  exact this
set_option maxRecDepth 100000 in
set_option maxHeartbeats 1000000 in
theorem digit_none (a b : Nat) (hb : b < 256) (h : b < 48 ∨ 57 < b) (w : World) :
    Calls Tryd.prog 33 #[numV a, .int .u8 ((b : Nat) : Int)] w fun e w' => e = .returned (.tuple #[numV 0, .bool false]) ∧ Below w.heap.size w w' := by
  have hbl : ∀ A B : Obj, Below w.heap.size w ((w.alloc A).alloc B) := fun A B => ((Below.refl _ _).alloc (Nat.le_refl _) _).alloc (by simp) _
  rcases h with h | h
  · go_enter Tryd.func33, Tryd.ntmps33
    go_wp2
    refine bodyPost_ret (v := .tuple #[numV 0, .bool false]) ?_ rfl ?_
    · simp [results, Tryd.results33, go_sem, hiN_zero, loN_zero]
    · exact ⟨rfl, hbl _ _⟩
  · have h2 : ¬ b < 48 := by omega
    go_enter Tryd.func33, Tryd.ntmps33
    go_wp2
    refine bodyPost_ret (v := .tuple #[numV 0, .bool false]) ?_ rfl ?_
    · simp [results, Tryd.results33, go_sem, hiN_zero, loN_zero]
    · exact ⟨rfl, hbl _ _⟩
set_option maxRecDepth 100000 in
set_option maxHeartbeats 1000000 in
theorem digit_over (a b : Nat) (ha : a < big) (hb : b < 256) (h1 : 48 ≤ b) (h2 : b ≤ 57) (hov : 18446744073709551616 ≤ hiN a * 10) (w : World) :
    Calls Tryd.prog 33 #[numV a, .int .u8 ((b : Nat) : Int)] w fun e w' => e = .returned (.tuple #[numV 0, .bool false]) ∧ Below w.heap.size w w' := by
  have hbl : ∀ A B : Obj, Below w.heap.size w ((w.alloc A).alloc B) := fun A B => ((Below.refl _ _).alloc (Nat.le_refl _) _).alloc (by simp) _
  have m1 := Lib.hid (fun w => mul10 (hiN a) (hiN_lt ha) w)
  have m2 := Lib.hid (fun w => mul10 (loN a) (loN_lt a) w)
  have hne : (((hiN a * 10 / 18446744073709551616 : Nat) : Int) != 0) = true := by rw [bne_iff_ne]; omega
  generalize hiN a * 10 / 18446744073709551616 = q at *
  generalize hiN a * 10 % 18446744073709551616 = r at *
  generalize loN a * 10 / 18446744073709551616 = q2 at *
  generalize loN a * 10 % 18446744073709551616 = r2 at *
  clear hov ha
  go_enter Tryd.func33, Tryd.ntmps33
  go_wp2_with fail
  refine (m1.out _).mono ?_
  rintro e w1 ⟨rfl, rfl⟩
  go_wp2_with fail
  refine (m2.out _).mono ?_
  rintro e w1 ⟨rfl, rfl⟩
  go_wp2
  refine bodyPost_ret (v := .tuple #[numV 0, .bool false]) ?_ rfl ?_
  · simp [results, Tryd.results33, go_sem, hiN_zero, loN_zero]
  · exact ⟨rfl, hbl _ _⟩
theorem digit_parts (a b : Nat) (ha : a < big) (h1 : 48 ≤ b) (h2 : b ≤ 57) (hov : hiN a * 10 < 18446744073709551616) :
    ∃ X Y Z, X < big ∧ Y < big ∧ Z < big ∧ loN X = 0 ∧ hiN Z = 0 ∧ hiN X = hiN a * 10 % 18446744073709551616 ∧ hiN Y = loN a * 10 / 18446744073709551616 ∧ loN Y = loN a * 10 % 18446744073709551616 ∧ loN Z = b - 48 ∧ X + Y + Z = a * 10 + (b - 48) := by
  have hl := loN_lt a
  have hn := num_hi_lo a
  unfold num at hn
  refine ⟨hiN a * 10 * 18446744073709551616, loN a * 10, b - 48, ?_, ?_, ?_, ?_, ?_, ?_, ?_, ?_, ?_, ?_⟩
  · rw [big_eq]; omega
  · rw [big_eq]; omega
  · rw [big_eq]; omega
  · unfold loN; omega
  · unfold hiN; omega
  · unfold hiN at *; omega
  · rfl
  · rfl
  · unfold loN; omega
  · conv => rhs; rw [← hn, Nat.add_mul]
    rw [Nat.mul_right_comm]
set_option maxRecDepth 100000 in
set_option maxHeartbeats 1000000 in
theorem digit_sum (a b : Nat) (ha : a < big) (hb : b < 256) (h1 : 48 ≤ b) (h2 : b ≤ 57) (hov : hiN a * 10 < 18446744073709551616) (w : World) :
    Calls Tryd.prog 33 #[numV a, .int .u8 ((b : Nat) : Int)] w fun e w' => e = .returned (.tuple #[numV ((nextN a b).getD 0), .bool (nextN a b).isSome]) ∧ Below w.heap.size w w' := by
  obtain ⟨X, Y, Z, hX, hY, hZ, eX, eZ, x1, y1, y2, z1, hsum⟩ := digit_parts a b ha h1 h2 hov
  have m1 := fun w => mul10 (hiN a) (hiN_lt ha) w
  have m2 := fun w => mul10 (loN a) (loN_lt a) w
  rw [show hiN a * 10 / 18446744073709551616 = 0 by omega, ← x1] at m1
  rw [← y1, ← y2] at m2
  replace m1 := Lib.hid m1
  replace m2 := Lib.hid m2
  have hof := Lib.hid (fun w => of_any (loN Z) w)
  have hs3 := Lib.hid (fun blk w hR hl => sum3_any X Y Z hX hY hZ blk w hR hl)
  have hz := Lib.hid z1
  have hnx : numV ((nextN a b).getD 0) = numV (sum3N X Y Z) ∧ (nextN a b).isSome = sum3Ok X Y Z := by
    unfold nextN sum3N sum3Ok
    by_cases hfit : a * 10 + (b - 48) < big
    · rw [if_pos ⟨h1, h2, hfit⟩, if_pos ⟨by omega, by omega⟩, hsum]
      exact ⟨rfl, by rw [decide_eq_true ⟨by omega, by omega⟩]; rfl⟩
    · rw [if_neg (fun k => hfit k.2.2), if_neg (fun k => by omega)]
      exact ⟨rfl, by rw [decide_eq_false (fun k => by omega)]; rfl⟩
  rw [hnx.1, hnx.2]
  clear hnx hsum x1 y1 y2 z1 hov ha
  go_enter Tryd.func33, Tryd.ntmps33
  go_wp2_with fail
  refine (m1.out _).mono ?_
  rintro e w1 ⟨rfl, rfl⟩
  go_wp2_with fail
  refine (m2.out _).mono ?_
  rintro e w1 ⟨rfl, rfl⟩
  go_wp2_with fail
  rw [show ((b : Nat) : Int) - 48 = ((b - 48 : Nat) : Int) by omega, ← hz.out]
  refine (hof.out _).mono ?_
  rintro e w2 ⟨rfl, hw2⟩
  have hO := (one_start w a).later hw2
  clear hw2
  go_wp2_with fail
  with_reducible refine (hs3.out w2.heap.size _ ?hrow ?hlt).mono ?_
  case hrow => exact rowDigit X Y Z eX eZ _ _ rfl
  case hlt => simp
  rintro e w3 ⟨rfl, hw3⟩
  replace hO := (hO.later ((Below.refl _ _).alloc (Nat.le_refl _) _)).later hw3
  clear hw3
  obtain ⟨v0, tr0⟩ := hO.r0
  obtain ⟨v1, tr1⟩ := hO.r1
  have tf0 := hO.f0
  have tf1 := hO.f1
  go_wp2
  refine bodyPost_ret (v := .tuple #[numV (sum3N X Y Z), .bool (sum3Ok X Y Z)]) ?_ rfl ?_
  · simp [results, Tryd.results33, go_sem, cell_put0 tr0 tr1, cell_put1 tr0 tr1]
  · exact ⟨rfl, bl_put hO.below (by omega)⟩
theorem digit_any (a b : Nat) (ha : a < big) (hb : b < 256) (w : World) :
    Calls Tryd.prog 33 #[numV a, .int .u8 ((b : Nat) : Int)] w fun e w' => e = .returned (.tuple #[numV ((nextN a b).getD 0), .bool (nextN a b).isSome]) ∧ Below w.heap.size w w' := by
  by_cases h1 : 48 ≤ b
  · by_cases h2 : b ≤ 57
    · by_cases hov : hiN a * 10 < 18446744073709551616
      · exact digit_sum a b ha hb h1 h2 hov w
      · have hn : nextN a b = none := if_neg (fun k => by
          have := k.2.2
          unfold hiN at hov
          rw [big_eq] at this
          omega)
        rw [hn]
        exact digit_over a b ha hb h1 h2 (by omega) w
    · rw [show nextN a b = none from if_neg (fun k => h2 k.2.1)]
      exact digit_none a b hb (by omega) w
  · rw [show nextN a b = none from if_neg (fun k => h1 k.1)]
    exact digit_none a b hb (by omega) w
end Go.Proofs.YtddjogbenfkcpaaDoor
