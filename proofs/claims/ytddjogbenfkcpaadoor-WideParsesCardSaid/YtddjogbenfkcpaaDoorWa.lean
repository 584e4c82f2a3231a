/- The contracts of layer 1's small functions. No condition but the words' sizes. -/
import Derived.Test.YtddjogbenfkcpaaDoorRows
import Derived.Test.YtddjogbenfkcpaaDoorMath
import Derived.WalkKit
import Derived.WalkSpells
import Derived.WalkLawsBesides
import Derived.Lib.QuietBelow
import Derived.Lib.Hide
import Derived.BigQuiet
import Derived.Laws.Externs
import Derived.Shelf.Spec.BitsCarry
namespace Go.Proofs.YtddjogbenfkcpaaDoor
open Go.RowKit Go.Sort Wm

theorem run_Add64 (x y c : Nat) (hc : c ≤ 1) (hx : x < 18446744073709551616) (hy : y < 18446744073709551616) (w : World) :
    (callFunc 27 #[.int .u64 x, .int .u64 y, .int .u64 c]).run Tryd.prog w =
      .ok (.value (.tuple #[.int .u64 (((x + y + c) % 18446744073709551616 : Nat) : Int), .int .u64 (((x + y + c) / 18446744073709551616 : Nat) : Int)])) w := by
  rw [run_callFunc_extern Tryd.func27 (by kernel_rfl) (by kernel_rfl) (by kernel_rfl) (e := add64Entry) (by kernel_rfl), run_add64 x y c (by omega) (by omega) (by omega) (by omega)]
  simp only [Result.andThen]
  congr 5 <;> omega

theorem bit_any (n i : Nat) (hi : i < 128) (w : World) :
    Calls Tryd.prog 28 #[numV n, .int .i64 i] w fun e w' => e = .returned (.int .i64 ((bitN n i : Nat) : Int)) ∧ Below w.heap.size w w' := by
  by_cases h1 : 64 ≤ i
  · have hb := Lib.hid (walk_bit_hi n i h1)
    go_enter Tryd.func28, Tryd.ntmps28
    go_wp2
    go_ret
    exact ⟨by simp [hb.out], (Below.refl _ _).alloc (Nat.le_refl _) _⟩
  · have h2 : i < 64 := by omega
    have hb := Lib.hid (walk_bit_lo n i h2)
    clear h1
    go_enter Tryd.func28, Tryd.ntmps28
    go_wp2
    go_ret
    exact ⟨by simp [hb.out], (Below.refl _ _).alloc (Nat.le_refl _) _⟩

theorem set_any (o i : Nat) (hi : i < 128) (ho : o < 2 ^ i) (w : World) :
    Calls Tryd.prog 29 #[numV o, .int .i64 i] w fun e w' => e = .returned (numV (o + 2 ^ i)) ∧ Below w.heap.size w w' := by
  have hb2 : ∀ A B : Obj, Below w.heap.size w ((w.alloc A).alloc B) := fun A B => ((Below.refl _ _).alloc (Nat.le_refl _) A).alloc (by simp) B
  by_cases h1 : 64 ≤ i
  · have hb := Lib.hid (Wm.set_hi o i h1 hi ho)
    clear ho
    go_enter Tryd.func29, Tryd.ntmps29
    go_wp2
    refine bodyPost_ret (v := numV (o + 2 ^ i)) ?_ rfl ?_
    · simp [results, Tryd.results29, go_sem, hb.out]
    · exact ⟨rfl, hb2 _ _⟩
  · have h2 : i < 64 := by omega
    have hb := Lib.hid (Wm.set_lo o i h2 ho)
    clear ho h1
    go_enter Tryd.func29, Tryd.ntmps29
    go_wp2
    refine bodyPost_ret (v := numV (o + 2 ^ i)) ?_ rfl ?_
    · simp [results, Tryd.results29, go_sem, hb.out]
    · exact ⟨rfl, hb2 _ _⟩

theorem run_add_lo (a b : Nat) (w : World) :
    (callFunc 27 #[.int .u64 ((loN a : Nat) : Int), .int .u64 ((loN b : Nat) : Int), .int .u64 0]).run Tryd.prog w =
      .ok (.value (.tuple #[.int .u64 ((loN (a + b) : Nat) : Int), .int .u64 ((carL (loN a) (loN b) : Nat) : Int)])) w := by
  have h := run_Add64 (loN a) (loN b) 0 (by omega) (loN_lt a) (loN_lt b) w
  rw [show loN (a + b) = (loN a + loN b + 0) % 18446744073709551616 by unfold loN; omega]
  exact h
theorem run_add_hi (a b : Nat) (ha : a < big) (hb : b < big) (w : World) :
    (callFunc 27 #[.int .u64 ((hiN a : Nat) : Int), .int .u64 ((hiN b : Nat) : Int), .int .u64 ((carL (loN a) (loN b) : Nat) : Int)]).run Tryd.prog w =
      .ok (.value (.tuple #[.int .u64 ((hiN ((a + b) % big) : Nat) : Int), .int .u64 (((a + b) / big : Nat) : Int)])) w := by
  have h := run_Add64 (hiN a) (hiN b) (carL (loN a) (loN b)) (carL_le (loN_lt a) (loN_lt b)) (hiN_lt ha) (hiN_lt hb) w
  rw [(add_words a b ha hb).2.1, (add_words a b ha hb).2.2]
  exact h
theorem run_add_hi0 (a b : Nat) (ha : a < big) (hb : b < big) (h : a + b < big) (w : World) :
    (callFunc 27 #[.int .u64 ((hiN a : Nat) : Int), .int .u64 ((hiN b : Nat) : Int), .int .u64 ((carL (loN a) (loN b) : Nat) : Int)]).run Tryd.prog w =
      .ok (.value (.tuple #[.int .u64 ((hiN (a + b) : Nat) : Int), .int .u64 0])) w := by
  have k := run_add_hi a b ha hb w
  rw [Nat.mod_eq_of_lt h, Nat.div_eq_of_lt h] at k
  exact k
theorem run_add_hi1 (a b : Nat) (ha : a < big) (hb : b < big) (h : ¬ a + b < big) (w : World) :
    (callFunc 27 #[.int .u64 ((hiN a : Nat) : Int), .int .u64 ((hiN b : Nat) : Int), .int .u64 ((carL (loN a) (loN b) : Nat) : Int)]).run Tryd.prog w =
      .ok (.value (.tuple #[.int .u64 ((hiN ((a + b) % big) : Nat) : Int), .int .u64 1])) w := by
  have k := run_add_hi a b ha hb w
  rw [show (a + b) / big = 1 by rw [big_eq] at *; omega] at k
  exact k
theorem add_any (a b : Nat) (ha : a < big) (hb : b < big) (w : World) :
    Calls Tryd.prog 10 #[numV a, numV b] w fun e w' => e = .returned (.tuple #[numV (sumN a b), .bool (sumOk a b)]) ∧ Below w.heap.size w w' := by
  have k1 := run_add_lo a b
  have hb3 : ∀ A B C : Obj, Below w.heap.size w (((w.alloc A).alloc B).alloc C) := fun A B C => (((Below.refl _ _).alloc (Nat.le_refl _) A).alloc (by simp) B).alloc (by simp; omega) C
  by_cases h : a + b < big
  · have k2 := run_add_hi0 a b ha hb h
    rw [sumN_yes h, sumOk_yes h]
    clear h ha hb
    go_enter Tryd.func10, Tryd.ntmps10
    go_wp2
    refine bodyPost_ret (v := .tuple #[numV (a + b), .bool true]) ?_ rfl ?_
    · simp [results, Tryd.results10, go_sem]
    · exact ⟨rfl, hb3 _ _ _⟩
  · have k2 := run_add_hi1 a b ha hb h
    rw [sumN_no h, sumOk_no h]
    clear h ha hb
    go_enter Tryd.func10, Tryd.ntmps10
    go_wp2
    refine bodyPost_ret (v := .tuple #[numV 0, .bool false]) ?_ rfl ?_
    · simp [results, Tryd.results10, go_sem, hiN_zero, loN_zero]
    · exact ⟨rfl, hb3 _ _ _⟩

theorem run_Sub64 (x y b : Nat) (hb : b ≤ 1) (w : World) :
    (callFunc 30 #[.int .u64 x, .int .u64 y, .int .u64 b]).run Tryd.prog w =
      .ok (.value (.tuple #[.int .u64 (((x + 18446744073709551616 - y - b) % 18446744073709551616 : Nat) : Int), .int .u64 ((if x < y + b then 1 else 0 : Nat) : Int)])) w := by
  rw [run_callFunc_extern Tryd.func30 (by kernel_rfl) (by kernel_rfl) (by kernel_rfl) (e := sub64Entry) (by kernel_rfl), run_sub64 x y b hb]
  rfl
theorem run_sub_lo (a b : Nat) (w : World) :
    (callFunc 30 #[.int .u64 ((loN a : Nat) : Int), .int .u64 ((loN b : Nat) : Int), .int .u64 0]).run Tryd.prog w =
      .ok (.value (.tuple #[.int .u64 ((subL (loN a) (loN b) : Nat) : Int), .int .u64 ((borL (loN a) (loN b) : Nat) : Int)])) w :=
  run_Sub64 (loN a) (loN b) 0 (by omega) w
theorem run_sub_hi0 (a b : Nat) (ha : a < big) (hb : b < big) (h : b ≤ a) (w : World) :
    (callFunc 30 #[.int .u64 ((hiN a : Nat) : Int), .int .u64 ((hiN b : Nat) : Int), .int .u64 ((borL (loN a) (loN b) : Nat) : Int)]).run Tryd.prog w =
      .ok (.value (.tuple #[.int .u64 ((hiN (a - b) : Nat) : Int), .int .u64 0])) w := by
  have k := run_Sub64 (hiN a) (hiN b) (borL (loN a) (loN b)) (borL_le _ _) w
  have e : (if hiN a < hiN b + borL (loN a) (loN b) then 1 else 0 : Nat) = 0 := by
    have e := sub_below a b ha hb
    rw [if_neg (by omega : ¬ a < b)] at e
    exact e
  rw [e] at k
  rw [(sub_words a b ha hb h).2]
  exact k
theorem run_sub_hi1 (a b : Nat) (ha : a < big) (hb : b < big) (h : ¬ b ≤ a) (w : World) :
    (callFunc 30 #[.int .u64 ((hiN a : Nat) : Int), .int .u64 ((hiN b : Nat) : Int), .int .u64 ((borL (loN a) (loN b) : Nat) : Int)]).run Tryd.prog w =
      .ok (.value (.tuple #[.int .u64 ((subH (hiN a) (hiN b) (borL (loN a) (loN b)) : Nat) : Int), .int .u64 1])) w := by
  have k := run_Sub64 (hiN a) (hiN b) (borL (loN a) (loN b)) (borL_le _ _) w
  have e : (if hiN a < hiN b + borL (loN a) (loN b) then 1 else 0 : Nat) = 1 := by
    have e := sub_below a b ha hb
    rw [if_pos (by omega : a < b)] at e
    exact e
  rw [e] at k
  exact k
theorem sub_any (a b : Nat) (ha : a < big) (hb : b < big) (w : World) :
    Calls Tryd.prog 12 #[numV a, numV b] w fun e w' => e = .returned (.tuple #[numV (difN a b), .bool (difOk a b)]) ∧ Below w.heap.size w w' := by
  have k1 := run_sub_lo a b
  have hb3 : ∀ A B C : Obj, Below w.heap.size w (((w.alloc A).alloc B).alloc C) := fun A B C => (((Below.refl _ _).alloc (Nat.le_refl _) A).alloc (by simp) B).alloc (by simp; omega) C
  by_cases h : b ≤ a
  · have k2 := run_sub_hi0 a b ha hb h
    have k3 := Lib.hid (sub_words a b ha hb h).1
    rw [difN_yes h, difOk_yes h]
    clear h ha hb
    go_enter Tryd.func12, Tryd.ntmps12
    go_wp2
    refine bodyPost_ret (v := .tuple #[numV (a - b), .bool true]) ?_ rfl ?_
    · simp [results, Tryd.results12, go_sem, subL, k3.out]
    · exact ⟨rfl, hb3 _ _ _⟩
  · have k2 := run_sub_hi1 a b ha hb h
    rw [difN_no h, difOk_no h]
    clear h ha hb
    go_enter Tryd.func12, Tryd.ntmps12
    go_wp2
    refine bodyPost_ret (v := .tuple #[numV 0, .bool false]) ?_ rfl ?_
    · simp [results, Tryd.results12, go_sem, hiN_zero, loN_zero]
    · exact ⟨rfl, hb3 _ _ _⟩

theorem cmp64 (x y : Nat) (w : World) :
    Calls Tryd.prog 31 #[.int .u64 x, .int .u64 y] w fun e w' => e = .returned (.int .i64 (cmpN x y)) ∧ w = w' := by
  rcases Nat.lt_trichotomy x y with h | h | h
  · rw [cmpN_lt h]
    go_enter Tryd.func31, Tryd.ntmps31
    go_wp2
    go_ret
    exact ⟨rfl, rfl⟩
  · subst h
    rw [cmpN_eq rfl]
    go_enter Tryd.func31, Tryd.ntmps31
    go_wp2
    go_ret
    exact ⟨rfl, rfl⟩
  · rw [cmpN_gt h]
    go_enter Tryd.func31, Tryd.ntmps31
    go_wp2
    go_ret
    exact ⟨rfl, rfl⟩
theorem compare_any (a b : Nat) (w : World) :
    Calls Tryd.prog 16 #[numV a, numV b] w fun e w' => e = .returned (.int .i64 (cmpN a b)) ∧ Below w.heap.size w w' := by
  have hb2 : ∀ A B : Obj, Below w.heap.size w ((w.alloc A).alloc B) := fun A B => ((Below.refl _ _).alloc (Nat.le_refl _) A).alloc (by simp) B
  by_cases h : hiN a = hiN b
  · have e := Lib.hid (cmpN_lo h)
    rw [numV, h]
    clear h
    go_enter Tryd.func16, Tryd.ntmps16
    go_wp2_with (go_at_call 31; refine (cmp64 _ _ _).mono ?_; rintro e w' ⟨rfl, rfl⟩)
    go_ret
    exact ⟨by simp [e.out], hb2 _ _⟩
  · have e := Lib.hid (cmpN_hi h)
    go_enter Tryd.func16, Tryd.ntmps16
    go_wp2_with (go_at_call 31; refine (cmp64 _ _ _).mono ?_; rintro e w' ⟨rfl, rfl⟩)
    go_ret
    exact ⟨by simp [e.out], hb2 _ _⟩
end Go.Proofs.YtddjogbenfkcpaaDoor
