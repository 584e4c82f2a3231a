/- StampLays' walk, out of the landed contracts. -/
import Derived.Test.YtjaaicklhhpebaaZQg
namespace Go.Proofs.Ytjaaicklhhpebaa
open Go.RowKit Go.Sort Cr

theorem place_split {fr upto N : Int} (h : layPlace (St.new 12) fr upto N = false) :
    decide (1 ≤ N) = false ∨ (decide (1 ≤ N) = true ∧ decide (N ≤ 1152921504606846976) = false) ∨ (decide (1 ≤ N) = true ∧ decide (N ≤ 1152921504606846976) = true ∧ decide (0 ≤ fr) = false) ∨
    (decide (1 ≤ N) = true ∧ decide (N ≤ 1152921504606846976) = true ∧ decide (0 ≤ fr) = true ∧ decide (upto ≤ 12) = false) ∨
    (decide (1 ≤ N) = true ∧ decide (N ≤ 1152921504606846976) = true ∧ decide (0 ≤ fr) = true ∧ decide (upto ≤ 12) = true ∧ decide (fr ≤ upto) = false) := by
  unfold layPlace at h
  rw [show (((St.new 12).safe.length : Nat) : Int) = 12 from rfl] at h
  cases h1 : decide (1 ≤ N) with
  | false => exact .inl rfl
  | true =>
    cases h2 : decide (N ≤ 1152921504606846976) with
    | false => exact .inr (.inl ⟨rfl, rfl⟩)
    | true =>
      cases h3 : decide (0 ≤ fr) with
      | false => exact .inr (.inr (.inl ⟨rfl, rfl, rfl⟩))
      | true =>
        cases h5 : decide (upto ≤ 12) with
        | false => exact .inr (.inr (.inr (.inl ⟨rfl, rfl, rfl, rfl⟩)))
        | true =>
          cases h4 : decide (fr ≤ upto) with
          | false => exact .inr (.inr (.inr (.inr ⟨rfl, rfl, rfl, rfl, rfl⟩)))
          | true =>
            rw [h1, h2, h3, h4, h5] at h
            exact absurd h (by decide)
theorem place_whole {fr upto N : Int} (h : layPlace (St.new 12) fr upto N = true) :
    decide (1 ≤ N) = true ∧ decide (N ≤ 1152921504606846976) = true ∧ decide (0 ≤ fr) = true ∧ decide (upto ≤ 12) = true ∧ decide (fr ≤ upto) = true := by
  unfold layPlace at h
  rw [show (((St.new 12).safe.length : Nat) : Int) = 12 from rfl] at h
  simp only [Bool.and_eq_true] at h
  obtain ⟨⟨⟨⟨g1, g2⟩, g3⟩, g4⟩, g5⟩ := h
  exact ⟨g1, g2, g3, g5, g4⟩
/-- How the law asks whether so much may be taken. -/
def askB (N N' size len : Int) : Prop :=
  (N' == N) = false ∨ ((N' == N) = true ∧ (size == len) = true) ∨ ((N' == N) = true ∧ (size == len) = false ∧ decide (0 < size) = false) ∨ ((N' == N) = true ∧ (size == len) = false ∧ decide (0 < size) = true ∧ decide (size < len) = false) ∨
  ((N' == N) = true ∧ (size == len) = false ∧ decide (0 < size) = true ∧ decide (size < len) = true ∧ (size.tmod 104 == 0) = false) ∨ ((N' == N) = true ∧ (size == len) = false ∧ decide (0 < size) = true ∧ decide (size < len) = true ∧ (size.tmod 104 == 0) = true)
theorem ask_any (N N' size len : Int) : askB N N' size len := by
  unfold askB
  cases h1 : (N' == N) with
  | false => exact .inl rfl
  | true =>
    cases h2 : (size == len) with
    | true => exact .inr (.inl ⟨rfl, rfl⟩)
    | false =>
      cases h3 : decide (0 < size) with
      | false => exact .inr (.inr (.inl ⟨rfl, rfl, rfl⟩))
      | true =>
        cases h4 : decide (size < len) with
        | false => exact .inr (.inr (.inr (.inl ⟨rfl, rfl, rfl, rfl⟩)))
        | true =>
          cases h5 : (size.tmod 104 == 0) with
          | false => exact .inr (.inr (.inr (.inr (.inl ⟨rfl, rfl, rfl, rfl, rfl⟩))))
          | true => exact .inr (.inr (.inr (.inr (.inr ⟨rfl, rfl, rfl, rfl, rfl⟩))))
theorem tmod_104 (n : Nat) : ((n : Int).tmod 104 == 0) = decide (n % 104 = 0) := by
  rw [Int.tmod_eq_emod_of_nonneg (by omega)]
  by_cases h : n % 104 = 0
  · rw [decide_eq_true h, beq_iff_eq]; omega
  · rw [decide_eq_false h, beq_eq_false_iff_ne]; omega
open Classical in
/-- What is taken, by that. -/
theorem ask_takes {N N' size : Int} {s : ByteArray} {o : Option ByteArray} (ho : o = if 0 ≤ size ∧ mayTake N s N' size.toNat then some (s.extract 0 size.toNat) else none) :
    ((N' == N) = false ∧ o = none) ∨ ((N' == N) = true ∧ (size == (s.size : Int)) = true ∧ ∃ k : Nat, size = k ∧ k ≤ s.size ∧ o = some (s.extract 0 k)) ∨ ((N' == N) = true ∧ (size == (s.size : Int)) = false ∧ decide (0 < size) = false ∧ o = none) ∨
    ((N' == N) = true ∧ (size == (s.size : Int)) = false ∧ decide (0 < size) = true ∧ decide (size < (s.size : Int)) = false ∧ o = none) ∨
    ((N' == N) = true ∧ (size == (s.size : Int)) = false ∧ decide (0 < size) = true ∧ decide (size < (s.size : Int)) = true ∧ (size.tmod 104 == 0) = false ∧ o = none) ∨
    ((N' == N) = true ∧ (size == (s.size : Int)) = false ∧ decide (0 < size) = true ∧ decide (size < (s.size : Int)) = true ∧ (size.tmod 104 == 0) = true ∧ ∃ k : Nat, size = k ∧ k ≤ s.size ∧ o = some (s.extract 0 k)) := by
  rcases ask_any N N' size (s.size : Int) with a | ⟨a, b⟩ | ⟨a, b, c⟩ | ⟨a, b, c, d⟩ | ⟨a, b, c, d, e⟩ | ⟨a, b, c, d, e⟩
  · refine .inl ⟨a, ?_⟩
    rw [ho, if_neg]
    rintro ⟨_, e, _⟩
    exact beq_eq_false_iff_ne.1 a e
  · have h1 := beq_iff_eq.1 a
    have h2 := beq_iff_eq.1 b
    refine .inr (.inl ⟨a, b, s.size, h2, Nat.le_refl _, ?_⟩)
    rw [ho, if_pos ⟨by omega, h1, .inl (by omega)⟩, h2, Int.toNat_natCast]
  · have h2 := beq_eq_false_iff_ne.1 b
    have h3 := of_decide_eq_false c
    refine .inr (.inr (.inl ⟨a, b, c, ?_⟩))
    rw [ho, if_neg]
    rintro ⟨e0, _, e⟩
    rcases e with e | e <;> omega
  · have h2 := beq_eq_false_iff_ne.1 b
    have h4 := of_decide_eq_false d
    refine .inr (.inr (.inr (.inl ⟨a, b, c, d, ?_⟩)))
    rw [ho, if_neg]
    rintro ⟨e0, _, e⟩
    rcases e with e | e <;> omega
  · have h2 := beq_eq_false_iff_ne.1 b
    have h3 := of_decide_eq_true c
    obtain ⟨k, rfl⟩ := Int.eq_ofNat_of_zero_le (by omega : 0 ≤ size)
    have h5 := e
    rw [tmod_104] at h5
    have h6 := of_decide_eq_false h5
    refine .inr (.inr (.inr (.inr (.inl ⟨a, b, c, d, e, ?_⟩))))
    rw [ho, if_neg]
    rintro ⟨e0, _, e⟩
    rcases e with e | e <;> omega
  · have h1 := beq_iff_eq.1 a
    have h3 := of_decide_eq_true c
    have h4 := of_decide_eq_true d
    obtain ⟨k, rfl⟩ := Int.eq_ofNat_of_zero_le (by omega : 0 ≤ size)
    have h5 := e
    rw [tmod_104] at h5
    have h6 := of_decide_eq_true h5
    refine .inr (.inr (.inr (.inr (.inr ⟨a, b, c, d, e, k, rfl, by omega, ?_⟩))))
    rw [ho, if_pos ⟨by omega, h1, .inr (by omega)⟩, Int.toNat_natCast]
set_option maxRecDepth 100000 in
set_option maxHeartbeats 4000000 in
theorem stampLays_any {Dk : (Nat → Prop) → World → Nat → St → Prop} (K : LandedDk Dk) (S : LandedSt Dk) (fr upto N : Int) (s : ByteArray) (hs : s.size ≤ 140737488351232) (N' size : Int) (hsz : -9223372036854775808 ≤ size ∧ size ≤ 9223372036854775807)
    (hup : -9223372036854775808 ≤ upto ∧ upto ≤ 9223372036854775807) (hfr : -9223372036854775808 ≤ fr ∧ fr ≤ 9223372036854775807) (w : World) :
    Calls Try.prog 6 #[.int .i64 fr, .int .i64 upto, .int .i64 N, .string s, .int .i64 N', .int .i64 size] w fun e w' => e = .returned (.bool true) ∧ Below w.heap.size w w' := by
  have hal := Lib.hid (stampAlive_any S)
  by_cases hbig : (2000 : Int) < (s.size : Int)
  · go_enter Try.func6, Try.ntmps6
    go_wp2_with fail
    refine (hal.out _).mono ?_
    rintro e w1 ⟨rfl, hb1⟩
    go_wp2
    go_ret
    exact ⟨rfl, hb1⟩
  · have hnew := Lib.hid (fun W => K.new 12 W (by decide) (by decide))
    have hcn : countN s.size ≤ 20 := countN_stop s.size 20 (by omega) (by omega)
    have hLay := fun F W p h => S.lay F W p (St.new 12) fr upto N s h (St.Wet.new.room (by omega)) hs
    have hcnt := Lib.hid (refcount_any s.size (by omega))
    by_cases hpl : layPlace (St.new 12) fr upto N = true
    · obtain ⟨d1, d2, d3, d4, d5⟩ := place_whole hpl
      by_cases hlong : upto - fr < ((countN s.size : Nat) : Int)
      · rw [lay_long hpl s hlong] at hLay
        have hLt := Lib.hid (fun F W p h => K.later' F W p (St.new 12) h (St.Ok.new 12))
        rw [show (((St.new 12).later.length : Nat) : Int) = 0 from rfl] at hLt
        have e3 := of_decide_eq_true d3
        have e4 := of_decide_eq_true d4
        have e5 := of_decide_eq_true d5
        have hsub : IntKind.i64.wrap (upto - fr) = upto - fr := by rw [IntKind.wrap_i64]; omega
        generalize countN s.size = c at *
        generalize St.new 12 = st0 at *
        replace hLay := Lib.hid hLay
        clear hs hpl e3 e4 e5
        go_enter Try.func6, Try.ntmps6
        go_wp2_with fail
        refine (hal.out _).mono ?_
        rintro e w1 ⟨rfl, hb1⟩
        go_wp2_with fail
        refine (hnew.out _).mono ?_
        rintro e w2 ⟨p, F, rfl, hD, hF, hb2⟩
        go_wp2_with fail
        refine (hLay.out _ _ _ hD).mono ?_
        rintro e w3 ⟨rfl, F2, hD2, hO, hN⟩
        have hb3 : Below w.heap.size w w3 := (hb1.trans (hb2.mono hb1.size)).trans (hO.to_below (by have := hb1.size; have := hb2.size; omega) (fun k hk => by have := hF k hk; have := hb1.size; omega))
        clear hD hF hb1 hb2 hO hN
        go_wp2_with fail
        refine (hcnt.out _).mono ?_
        rintro e w4 ⟨rfl, rfl⟩
        go_wp2_with fail
        refine (hLt.out _ _ _ hD2).mono ?_
        rintro e w5 ⟨rfl, hb4⟩
        replace hb3 := hb3.trans (hb4.mono hb3.size)
        go_wp2
        go_ret
        exact ⟨rfl, hb3⟩
      · have hWet := laid_ok St.Wet.new fr.toNat N s (by have := of_decide_eq_true d3; have := of_decide_eq_true d4; have := of_decide_eq_true d5; omega)
        have hlen := laid_len (St.new 12) fr.toNat N s rfl
        have htk1 := ask_takes (new_take hpl hlong N (s.size : Int))
        have htk2 := ask_takes (new_take hpl hlong N' size)
        have ht1 : (laidSt (St.new 12) fr.toNat N s).take fr upto N (s.size : Int) = some s := by
          rw [new_take hpl hlong, if_pos ⟨by omega, rfl, .inl (Int.toNat_natCast _)⟩, Int.toNat_natCast]
          exact congrArg some (cut_all s _ rfl)
        clear htk1
        rw [lay_good hpl s hlong (by decide)] at hLay
        generalize laidSt (St.new 12) fr.toNat N s = st1 at *
        have hLt := Lib.hid (fun F W p h => K.later' F W p st1 h (hWet.ok (by omega)))
        rw [hlen] at hLt
        have hT1 := fun F W p h => S.take F W p st1 fr upto N (s.size : Int) h (hWet.ok (by omega)) (by omega)
        rw [ht1] at hT1
        have hT2 := fun F W p h => S.take F W p st1 fr upto N' size h (hWet.ok (by omega)) hsz.2
        generalize st1.take fr upto N' size = o at *
        have e3 := of_decide_eq_true d3
        have e4 := of_decide_eq_true d4
        have e5 := of_decide_eq_true d5
        have hsub : IntKind.i64.wrap (upto - fr) = upto - fr := by rw [IntKind.wrap_i64]; omega
        generalize countN s.size = c at *
        generalize St.new 12 = st0 at *
        unfold textO at hT1 hT2
        dsimp only [Option.isSome] at hT1 hT2
        replace hLay := Lib.hid hLay
        replace hT1 := Lib.hid hT1
        clear hs hpl e3 e4 e5 hlen ht1 hWet
        rcases htk2 with ⟨q1, rfl⟩ | ⟨q1, q2, k, rfl, hk, rfl⟩ | ⟨q1, q2, q3, rfl⟩ | ⟨q1, q2, q3, q4, rfl⟩ | ⟨q1, q2, q3, q4, q5, rfl⟩ | ⟨q1, q2, q3, q4, q5, k, rfl, hk, rfl⟩
        all_goals
          dsimp only at hT2
          replace hT2 := Lib.hid hT2
          try (have hk2 : (k : Int) ≤ (s.size : Int) := by omega)
          try (have hk0 : (0 : Int) ≤ (k : Int) := by omega)
          try (have hk3 : 0 < k := by have := of_decide_eq_true q3; omega)
          try (have hk5 : ((k : Int) % 104 == 0) = true := by have h5 := q5; rw [Int.tmod_eq_emod_of_nonneg hk0] at h5; exact h5)
          try (have hk4 : k < s.size := by have := of_decide_eq_true q4; omega)
          go_enter Try.func6, Try.ntmps6
          go_wp2_with fail
          refine (hal.out _).mono ?_
          rintro e w1 ⟨rfl, hb1⟩
          go_wp2_with fail
          refine (hnew.out _).mono ?_
          rintro e w2 ⟨p, F, rfl, hD, hF, hb2⟩
          go_wp2_with fail
          refine (hLay.out _ _ _ hD).mono ?_
          rintro e w3 ⟨rfl, F2, hD2, hO, hN⟩
          have hb3 : Below w.heap.size w w3 := (hb1.trans (hb2.mono hb1.size)).trans (hO.to_below (by have := hb1.size; have := hb2.size; omega) (fun k hk => by have := hF k hk; have := hb1.size; omega))
          clear hD hF hb1 hb2 hO hN
          go_wp2_with fail
          refine (hcnt.out _).mono ?_
          rintro e w4 ⟨rfl, rfl⟩
          go_wp2_with fail
          refine (hT1.out _ _ _ hD2).mono ?_
          rintro e w5 ⟨rfl, hb4⟩
          replace hD2 := K.later hD2 hb4
          replace hb3 := hb3.trans (hb4.mono hb3.size)
          clear hb4
          go_wp2_with fail
          refine (hLt.out _ _ _ hD2).mono ?_
          rintro e w6 ⟨rfl, hb4⟩
          replace hD2 := K.later hD2 hb4
          replace hb3 := hb3.trans (hb4.mono hb3.size)
          clear hb4
          go_wp2_with fail
          refine (hT2.out _ _ _ hD2).mono ?_
          rintro e w7 ⟨rfl, hb4⟩
          replace hb3 := hb3.trans (hb4.mono hb3.size)
          clear hb4 hD2
          go_wp2
          go_ret
          exact ⟨by first | rfl | simp, hb3⟩
    · have hpl' := Bool.eq_false_iff.mpr hpl
      rw [lay_bad hpl' s] at hLay
      have hLt := Lib.hid (fun F W p h => K.later' F W p (St.new 12) h (St.Ok.new 12))
      rw [show (((St.new 12).later.length : Nat) : Int) = 0 from rfl] at hLt
      have hsplit := place_split hpl'
      generalize countN s.size = c at *
      generalize St.new 12 = st0 at *
      replace hLay := Lib.hid hLay
      clear hs hpl hpl'
      rcases hsplit with d1 | ⟨d1, d2⟩ | ⟨d1, d2, d3⟩ | ⟨d1, d2, d3, d4⟩ | ⟨d1, d2, d3, d4, d5⟩
      all_goals
        go_enter Try.func6, Try.ntmps6
        go_wp2_with fail
        refine (hal.out _).mono ?_
        rintro e w1 ⟨rfl, hb1⟩
        go_wp2_with fail
        refine (hnew.out _).mono ?_
        rintro e w2 ⟨p, F, rfl, hD, hF, hb2⟩
        go_wp2_with fail
        refine (hLay.out _ _ _ hD).mono ?_
        rintro e w3 ⟨rfl, F2, hD2, hO, hN⟩
        have hb3 : Below w.heap.size w w3 := (hb1.trans (hb2.mono hb1.size)).trans (hO.to_below (by have := hb1.size; have := hb2.size; omega) (fun k hk => by have := hF k hk; have := hb1.size; omega))
        clear hD hF hb1 hb2 hO hN
        go_wp2_with fail
        refine (hcnt.out _).mono ?_
        rintro e w4 ⟨rfl, rfl⟩
        go_wp2_with fail
        refine (hLt.out _ _ _ hD2).mono ?_
        rintro e w5 ⟨rfl, hb4⟩
        replace hb3 := hb3.trans (hb4.mono hb3.size)
        go_wp2
        go_ret
        exact ⟨rfl, hb3⟩
end Go.Proofs.Ytjaaicklhhpebaa
