/- The document's plan walked; SlotPlans' walk, out of the landed contracts. -/
import Derived.Test.YtageeodmpbngaaaZIb
namespace Go.Proofs.Ytageeodmpbngaaa
open Go.RowKit Go.Sort Cr

set_option maxRecDepth 100000 in
set_option maxHeartbeats 1000000 in
theorem refsize_any (n : Nat) (h12 : 12 ≤ n) (hn : n ≤ 4096) (w : World) : Calls Try.prog 9 #[.int .i64 (n : Int)] w fun e w' => e = .returned (.int .i64 ((sizeP n : Nat) : Int)) ∧ w = w' := by
  have h1 := sizeP_le n
  have h2 := sizeP_gt n
  generalize sizeP n = c at *
  go_enter Try.func9, Try.ntmps9
  go_wp2
  go_loopw [3] (fun i wr => ∃ k : Nat, k ≤ c ∧ i = .int .i64 k ∧ w = wr) (fun i _ => (c - RowKit.intOf i).toNat)
  case atStart => exact ⟨0, by omega, rfl, rfl⟩
  case round =>
    obtain ⟨k, hk, rfl, rfl⟩ := hrel
    by_cases hlt : k < c
    · have hs2 : ((k : Int) + 1) * 5 ≤ ((n : Int) - 2) * 2 := by omega
      have hs3 : 5 * ((k : Int) + 1) ≤ 2 * ((n : Int) - 2) := by omega
      go_wp2
      exact ⟨⟨k + 1, by omega, by go_num, by first | rfl | trivial⟩, by simp [RowKit.intOf]; omega⟩
    · obtain rfl : k = c := by omega
      have hs2 : ¬ ((k : Int) + 1) * 5 ≤ ((n : Int) - 2) * 2 := by omega
      have hs3 : ¬ 5 * ((k : Int) + 1) ≤ 2 * ((n : Int) - 2) := by omega
      go_wp2
      go_ret
      exact ⟨rfl, rfl⟩
set_option maxRecDepth 100000 in
theorem refspot_any (n : Nat) (h12 : 12 ≤ n) (hn : n ≤ 4096) (second : Bool) (w : World) : Calls Try.prog 10 #[.int .i64 (n : Int), .bool second] w fun e w' => e = .returned (.int .i64 (((if second = true then 2 + sizeP n else 2 : Nat)) : Int)) ∧ w = w' := by
  have hs := Lib.hid (fun w => refsize_any n h12 hn w)
  have hle := sizeP_le n
  generalize sizeP n = c at *
  cases second with
  | true =>
    rw [if_pos rfl]
    go_enter Try.func10, Try.ntmps10
    go_wp2_with fail
    refine (hs.out _).mono ?_
    rintro e w1 ⟨rfl, rfl⟩
    go_wp2
    go_ret
    exact ⟨by first | rfl | (congr 2), rfl⟩
  | false =>
    rw [if_neg (by decide)]
    go_enter Try.func10, Try.ntmps10
    go_wp2
    go_ret
    exact ⟨rfl, rfl⟩
set_option maxRecDepth 100000 in
theorem refjournal_any (n : Nat) (h12 : 12 ≤ n) (hn : n ≤ 4096) (w : World) : Calls Try.prog 11 #[.int .i64 (n : Int)] w fun e w' => e = .returned (.int .i64 ((2 + sizeP n + sizeP n : Nat) : Int)) ∧ w = w' := by
  have hs := Lib.hid (fun w => refsize_any n h12 hn w)
  have hle := sizeP_le n
  generalize sizeP n = c at *
  go_enter Try.func11, Try.ntmps11
  go_wp2_with fail
  refine (hs.out _).mono ?_
  rintro e w1 ⟨rfl, rfl⟩
  go_wp2_with fail
  refine (hs.out _).mono ?_
  rintro e w1 ⟨rfl, rfl⟩
  go_wp2
  go_ret
  exact ⟨by first | rfl | (congr 2), rfl⟩
theorem tmod_two (w : Int) : (w.tmod 2 != 0) = decide (w % 2 ≠ 0) := by
  have h : w.tmod 2 = 0 ↔ w % 2 = 0 := by
    rw [← Int.dvd_iff_tmod_eq_zero, Int.dvd_iff_emod_eq_zero]
  by_cases e : w % 2 = 0
  · rw [h.2 e, decide_eq_false (fun h => h e)]; rfl
  · rw [decide_eq_true e, bne_iff_ne]
    exact fun h2 => e (h.1 h2)
set_option maxRecDepth 100000 in
set_option maxHeartbeats 1000000 in
theorem slotPlans_any {Dk : (Nat → Prop) → World → Nat → St → Prop} (K : LandedDk Dk) (L : LandedSl Dk) (sectors : Int) (hs : InI sectors) (which : Int) (hw : InI which) (n : Int) (hn : InI n) (w : World) :
    Calls Try.prog 3 #[.int .i64 sectors, .int .i64 which, .int .i64 n] w fun e w' => e = .returned (.bool true) ∧ Below w.heap.size w w' := by
  have hal := Lib.hid (slotAlive_any K L)
  by_cases hb : sectors < 12 ∨ 4096 < sectors
  · have hof := Lib.hid (fun W => L.ofBad sectors W hs hb)
    unfold planA at hof
    have hb2 : sectors < 12 ∨ (¬ sectors < 12 ∧ 4096 < sectors) := by omega
    clear hb hs hw hn
    rcases hb2 with q | ⟨q, q'⟩
    all_goals
      go_enter Try.func3, Try.ntmps3
      go_wp2_with fail
      refine (hal.out _).mono ?_
      rintro e w1 ⟨rfl, hb1⟩
      go_wp2_with fail
      refine (hof.out _).mono ?_
      rintro e w2 ⟨rfl, hb2⟩
      replace hb1 := hb1.trans (hb2.mono hb1.size)
      have hb3 : Below w.heap.size w (w2.alloc (.cells #[.int .i64 0, .int .i64 0, .int .i64 0, .int .i64 0, .int .i64 0] 24)) := hb1.alloc hb1.size _
      clear hb2
      go_wp2
      go_ret
      exact ⟨rfl, hb3⟩
  · obtain ⟨m, rfl⟩ := Int.eq_ofNat_of_zero_le (show 0 ≤ sectors by omega)
    have h12 : 12 ≤ m := by omega
    have hm : m ≤ 4096 := by omega
    have hof := Lib.hid (fun W => L.of m W h12 hm)
    have hsz := Lib.hid (fun W => refsize_any m h12 hm W)
    have hsp2 := Lib.hid (fun W => refspot_any m h12 hm true W)
    have hsp := Lib.hid (fun W => refspot_any m h12 hm (which.tmod 2 != 0) W)
    have hjo := Lib.hid (fun W => refjournal_any m h12 hm W)
    have hat := Lib.hid (fun W => L.spot m which W h12 hm hw)
    have hfi := Lib.hid (fun W => L.fits m n W h12 hm hn)
    rw [if_pos rfl] at hsp2
    rw [show (if (which.tmod 2 != 0) = true then 2 + sizeP m else 2) = spotP m which by
      unfold spotP
      rw [tmod_two]
      by_cases e : which % 2 = 0
      · rw [if_pos e, if_neg (by simpa using e)]
      · rw [if_neg e, if_pos (by simpa using e)]] at hsp
    rw [fits_iff h12] at hfi
    have hJ : ((2 + sizeP m + sizeP m : Nat) : Int) < ((m : Nat) : Int) := by have := plan_ends h12; omega
    have hZ : 4 ≤ ((sizeP m : Nat) : Int) := by have := sizeP_ge h12; omega
    have hZ2 : ((sizeP m : Nat) : Int) ≤ 4096 := by have := sizeP_le m; omega
    unfold planV planA at hof hat hfi
    generalize ((2 + sizeP m : Nat) : Int) = S at *
    generalize ((2 + sizeP m + sizeP m : Nat) : Int) = J at *
    generalize ((sizeP m : Nat) : Int) = Z at *
    generalize ((spotP m which : Nat) : Int) = A at *
    have hwz : IntKind.i64.wrap (104 * Z) = 104 * Z := by rw [IntKind.wrap_i64]; omega
    have g1 : ¬ ((m : Nat) : Int) < 12 := by omega
    have g2 : ¬ 4096 < ((m : Nat) : Int) := by omega
    have hfi2 : ∃ B, (Hid (∀ W, Calls Try.prog 13 #[.agg #[.int .i64 2, .int .i64 S, .int .i64 Z, .int .i64 J, .int .i64 ((m : Nat) : Int)], .int .i64 n] W fun e W' => e = .returned (.bool B) ∧ Below W.heap.size W W')) ∧ ((0 ≤ n ∧ B = decide (n ≤ 104 * Z)) ∨ (¬ 0 ≤ n ∧ B = false)) := by
      refine ⟨_, hfi, ?_⟩
      by_cases e : 0 ≤ n
      · left; rw [decide_eq_true e, Bool.true_and]; exact ⟨e, rfl⟩
      · right; rw [decide_eq_false e, Bool.false_and]; exact ⟨e, rfl⟩
    clear hs hb hfi
    obtain ⟨B, hfi, hB⟩ := hfi2
    have heq := fun W => run_eql_plan 2 S Z J ((m : Nat) : Int) 2 S Z J ((m : Nat) : Int) W
    have hdec : decide (2 = 2 ∧ S = S ∧ Z = Z ∧ J = J ∧ ((m : Nat) : Int) = ((m : Nat) : Int)) = true := by simp
    rcases hB with ⟨hn0, rfl⟩ | ⟨hn0, rfl⟩
    all_goals
      go_enter Try.func3, Try.ntmps3
      go_wp2_with fail
      refine (hal.out _).mono ?_
      rintro e w1 ⟨rfl, hb1⟩
      go_wp2_with fail
      refine (hof.out _).mono ?_
      rintro e w2 ⟨rfl, hb2⟩
      replace hb1 := hb1.trans (hb2.mono hb1.size)
      have hx := BoxAt.new w2 [.int .i64 2, .int .i64 S, .int .i64 Z, .int .i64 J, .int .i64 ((m : Nat) : Int)] 24
      have hb3 : Below w.heap.size w (w2.alloc (.cells #[.int .i64 2, .int .i64 S, .int .i64 Z, .int .i64 J, .int .i64 ((m : Nat) : Int)] 24)) := hb1.alloc hb1.size _
      clear hb2
      go_wp2_with fail
      refine (hsz.out _).mono ?_
      rintro e w3 ⟨rfl, rfl⟩
      go_wp2_with fail
      refine (hsp2.out _).mono ?_
      rintro e w3 ⟨rfl, rfl⟩
      go_wp2_with fail
      refine (hjo.out _).mono ?_
      rintro e w3 ⟨rfl, rfl⟩
      go_wp2_with fail
      generalize w2.alloc (.cells #[.int .i64 2, .int .i64 S, .int .i64 Z, .int .i64 J, .int .i64 ((m : Nat) : Int)] 24) = w3 at *
      refine (hat.out _).mono ?_
      rintro e w4 ⟨rfl, hb4⟩
      have hb4' := (((Below.refl (w3.heap.size) w3).alloc (Nat.le_refl _) (.cells #[.int .i64 2, .int .i64 S, .int .i64 Z, .int .i64 J, .int .i64 ((m : Nat) : Int)] 24)).trans (hb4.mono (by simp)))
      replace hx := hx.later hb4'
      replace hb3 := hb3.trans (hb4'.mono hb3.size)
      clear hb4 hb4' hb1 hat hsp2 hsz hjo
      have c0 := hx.spot 0 _ rfl
      have c1 := hx.spot 1 _ rfl
      have c2 := hx.spot 2 _ rfl
      have c3 := hx.spot 3 _ rfl
      have c4 := hx.spot 4 _ rfl
      have lt := hx.lt
      go_wp2_with fail
      refine (hsp.out _).mono ?_
      rintro e w5 ⟨rfl, rfl⟩
      go_wp2_with fail
      refine (hfi.out _).mono ?_
      rintro e w5 ⟨rfl, hb5⟩
      replace hx := hx.later hb5
      replace hb3 := hb3.trans (hb5.mono hb3.size)
      clear c0 c1 c2 c3 c4 lt hb5 hfi hsp
      have c3 := hx.spot 3 _ rfl
      have c4 := hx.spot 4 _ rfl
      have lt := hx.lt
      go_wp2
      go_ret
      exact ⟨by first | rfl | simp, hb3⟩
end Go.Proofs.Ytageeodmpbngaaa
