/- The landed slots: a disk's plan, where a slot begins, what fits, and putting and getting. No condition but the disk's, a landed stamp's, and sizes. -/
import Derived.Test.YtageeodmpbngaaaYGf
import Derived.Test.YtageeodmpbngaaaYIb
import Derived.Test.YtageeodmpbngaaaYHe
import Derived.Test.YtageeodmpbngaaaYDn
namespace Go.Proofs.Ytageeodmpbngaaa
open Go.RowKit Go.Sort Cr

theorem at_form (n : Nat) (which : Int) : (which.tmod 2 = 0 ∧ spotP n which = 2) ∨ (which.tmod 2 ≠ 0 ∧ spotP n which = 2 + sizeP n) := by
  unfold spotP
  have ht : which.tmod 2 = 0 ↔ which % 2 = 0 := by
    rcases Int.le_total 0 which with h | h
    · rw [Int.tmod_eq_emod_of_nonneg h]
    · have e : which.tmod 2 = - ((-which) % 2) := by
        rw [← Int.tmod_eq_emod_of_nonneg (by omega), Int.neg_tmod, Int.neg_neg]
      rw [e]
      omega
  by_cases e : which % 2 = 0
  · left
    rw [if_pos e]
    exact ⟨ht.2 e, rfl⟩
  · right
    rw [if_neg e]
    exact ⟨fun h => e (ht.1 h), rfl⟩
set_option maxRecDepth 100000 in
theorem slot_of_any (n : Nat) (W : World) (h1 : 12 ≤ n) (h2 : n ≤ 4096) : Calls Try.prog 8 #[.int .i64 (n : Int)] W fun e W' => e = .returned (.tuple #[planV n, .int .i64 0]) ∧ Below W.heap.size W W' := by
  have e1 : ((n : Int) - 2) * 2 / 5 = ((sizeP n : Nat) : Int) := by
    unfold sizeP
    rw [Int.natCast_ediv]
    omega
  have hs := sizeP_le n
  have e2 : 2 + ((sizeP n : Nat) : Int) = ((2 + sizeP n : Nat) : Int) := by omega
  have e3 : ((2 + sizeP n : Nat) : Int) + ((sizeP n : Nat) : Int) = ((2 + sizeP n + sizeP n : Nat) : Int) := by omega
  have n1 : ¬ (n : Int) < 12 := by omega
  have n2 : ¬ (4096 : Int) < (n : Int) := by omega
  have hp := Lib.hid (show planV n = .agg #[.int .i64 2, .int .i64 ((2 + sizeP n : Nat) : Int), .int .i64 ((sizeP n : Nat) : Int), .int .i64 ((2 + sizeP n + sizeP n : Nat) : Int), .int .i64 ((n : Nat) : Int)] from rfl)
  generalize planV n = pv at *
  generalize ((2 + sizeP n + sizeP n : Nat) : Int) = jn at *
  generalize ((2 + sizeP n : Nat) : Int) = bn at *
  generalize ((sizeP n : Nat) : Int) = sn at *
  generalize (n : Int) = ni at *
  clear hs h1 h2
  go_enter Try.func8, Try.ntmps8
  go_wp2
  refine bodyPost_ret (v := .tuple #[.agg #[.int .i64 2, .int .i64 bn, .int .i64 sn, .int .i64 jn, .int .i64 ni], .int .i64 0]) ?_ rfl ⟨by rw [hp.out], ?_⟩
  · simp [results, Try.results8, go_sem]
  · exact (Below.refl _ _).alloc (Nat.le_refl _) _
set_option maxRecDepth 100000 in
theorem slot_ofBad_any (n : Int) (W : World) (h : n < 12 ∨ 4096 < n) : Calls Try.prog 8 #[.int .i64 n] W fun e W' => e = .returned (.tuple #[planA 0 0 0 0 0, .int .i64 1]) ∧ Below W.heap.size W W' := by
  rcases h with h | h
  · go_enter Try.func8, Try.ntmps8
    go_wp2
    refine bodyPost_ret (v := .tuple #[planA 0 0 0 0 0, .int .i64 1]) ?_ rfl ⟨rfl, (Below.refl _ _).alloc (Nat.le_refl _) _⟩
    simp [results, Try.results8, go_sem, planA]
  · have h1 : ¬ n < 12 := by omega
    go_enter Try.func8, Try.ntmps8
    go_wp2
    refine bodyPost_ret (v := .tuple #[planA 0 0 0 0 0, .int .i64 1]) ?_ rfl ⟨rfl, (Below.refl _ _).alloc (Nat.le_refl _) _⟩
    simp [results, Try.results8, go_sem, planA]
set_option maxRecDepth 100000 in
theorem slot_at_any (n : Nat) (which : Int) (W : World) : Calls Try.prog 12 #[planV n, .int .i64 which] W fun e W' => e = .returned (.int .i64 ((spotP n which : Nat) : Int)) ∧ Below W.heap.size W W' := by
  have hbl : Below W.heap.size W (W.alloc (.cells #[.int .i64 2, .int .i64 ((2 + sizeP n : Nat) : Int), .int .i64 ((sizeP n : Nat) : Int), .int .i64 ((2 + sizeP n + sizeP n : Nat) : Int), .int .i64 ((n : Nat) : Int)] 24)) := (Below.refl _ _).alloc (Nat.le_refl _) _
  replace hbl := Lib.hid hbl
  rcases at_form n which with ⟨ht, hs⟩ | ⟨ht, hs⟩
  · rw [hs]
    unfold planV planA
    clear hs
    go_enter Try.func12, Try.ntmps12
    go_wp2
    go_ret
    exact ⟨rfl, hbl.out⟩
  · rw [hs]
    unfold planV planA
    clear hs
    go_enter Try.func12, Try.ntmps12
    go_wp2
    go_ret
    exact ⟨rfl, hbl.out⟩
set_option maxRecDepth 100000 in
theorem slot_fits_any {Dk : (Nat → Prop) → World → Nat → St → Prop} (S : LandedSt Dk) (n : Nat) (k : Int) (W : World) (h0 : InI k) : Calls Try.prog 13 #[planV n, .int .i64 k] W fun e W' => e = .returned (.bool (fitsP n k)) ∧ Below W.heap.size W W' := by
  have hC := Lib.hid (fun W => S.count k W h0.1 h0.2)
  have hbl : Below W.heap.size W (W.alloc (.cells #[.int .i64 2, .int .i64 ((2 + sizeP n : Nat) : Int), .int .i64 ((sizeP n : Nat) : Int), .int .i64 ((2 + sizeP n + sizeP n : Nat) : Int), .int .i64 ((n : Nat) : Int)] 24)) := (Below.refl _ _).alloc (Nat.le_refl _) _
  have hbx := BoxAt.new W [.int .i64 2, .int .i64 ((2 + sizeP n : Nat) : Int), .int .i64 ((sizeP n : Nat) : Int), .int .i64 ((2 + sizeP n + sizeP n : Nat) : Int), .int .i64 ((n : Nat) : Int)] 24
  by_cases hk : 0 ≤ k
  · have hf : decide (((countN k.toNat : Nat) : Int) ≤ ((sizeP n : Nat) : Int)) = fitsP n k := by
      unfold fitsP
      rw [decide_eq_true hk, Bool.true_and]
      exact decide_eq_decide.2 (by omega)
    replace hf := Lib.hid hf
    unfold planV planA
    generalize ((countN k.toNat : Nat) : Int) = c at *
    generalize ((2 + sizeP n + sizeP n : Nat) : Int) = jn at *
    generalize ((2 + sizeP n : Nat) : Int) = bn at *
    generalize ((sizeP n : Nat) : Int) = sn at *
    generalize fitsP n k = fv at *
    go_enter Try.func13, Try.ntmps13
    go_wp2_with fail
    go_region_held3 (fun w' => w'.cell? ⟨W.heap.size, 2, none⟩ = some (.int .i64 sn) ∧ Below W.heap.size W w')
      (first | exact ⟨hbx.spot 2 _ rfl, hbl⟩ | exact ⟨(hbx.later ((Below.refl _ _).drew)).spot 2 _ rfl, hbl.trans (((Below.refl _ _).drew).mono hbl.size)⟩ | exact ⟨(hbx.later (((Below.refl _ _).drew).trans (hbc.mono (Nat.le_refl _)))).spot 2 _ rfl, hbl.trans ((((Below.refl _ _).drew).trans (hbc.mono (Nat.le_refl _))).mono hbl.size)⟩)
      (first | (go_at_call 25; with_reducible refine (hC.out _).mono ?_; rintro e wx ⟨rfl, hbc⟩))
    all_goals
      rename_i hH
      go_wp2
      go_ret
      exact ⟨by rw [← hf.out]; rfl, hH.2⟩
  · have hf := Lib.hid (show fitsP n k = false by unfold fitsP; rw [decide_eq_false hk, Bool.false_and])
    rw [hf.out]
    unfold planV planA
    generalize ((2 + sizeP n + sizeP n : Nat) : Int) = jn at *
    generalize ((2 + sizeP n : Nat) : Int) = bn at *
    generalize ((sizeP n : Nat) : Int) = sn at *
    replace hbl := Lib.hid hbl
    have e3 : decide (0 ≤ k) = false := decide_eq_false hk
    go_enter Try.func13, Try.ntmps13
    go_wp2_with (fail)
    go_quiet (fail)
    go_wp2
    go_ret
    exact ⟨by first | rfl | simp [e3], by first | exact hbl.out | exact hbl.out.trans ((held_drewN _ _).mono hbl.out.size)⟩
set_option maxRecDepth 100000 in
set_option maxHeartbeats 1000000 in
theorem slot_get_any {Dk : (Nat → Prop) → World → Nat → St → Prop} (K : LandedDk Dk) (S : LandedSt Dk) (F : Nat → Prop) (W : World) (p : Nat) (st : St) (n : Nat) (which N k : Int) (h2 : n ≤ 4096) (h : Dk F W p st) (hok : st.Ok) (hk : k ≤ 9223372036854775807) :
    Calls Try.prog 17 #[planV n, .pointer (some ⟨p, 0, none⟩), .int .i64 which, .int .i64 N, .int .i64 k] W fun e W' =>
      e = .returned (.tuple #[.string (textO (st.take ((spotP n which : Nat) : Int) ((spotP n which + sizeP n : Nat) : Int) N k)), .bool (st.take ((spotP n which : Nat) : Int) ((spotP n which + sizeP n : Nat) : Int) N k).isSome]) ∧ Below W.heap.size W W' := by
  have hA := Lib.hid (fun W => slot_at_any n which W)
  have hT := Lib.hid (fun W1 (hb : Below W.heap.size W W1) => S.take F W1 p st ((spotP n which : Nat) : Int) ((spotP n which + sizeP n : Nat) : Int) N k (K.later h hb) hok hk)
  have hbl : Below W.heap.size W (W.alloc (.cells #[.int .i64 2, .int .i64 ((2 + sizeP n : Nat) : Int), .int .i64 ((sizeP n : Nat) : Int), .int .i64 ((2 + sizeP n + sizeP n : Nat) : Int), .int .i64 ((n : Nat) : Int)] 24)) := (Below.refl _ _).alloc (Nat.le_refl _) _
  have hbx := BoxAt.new W [.int .i64 2, .int .i64 ((2 + sizeP n : Nat) : Int), .int .i64 ((sizeP n : Nat) : Int), .int .i64 ((2 + sizeP n + sizeP n : Nat) : Int), .int .i64 ((n : Nat) : Int)] 24
  have hs := sizeP_le n
  have e1 : wrap64 (((spotP n which : Nat) : Int) + ((sizeP n : Nat) : Int)) = ((spotP n which + sizeP n : Nat) : Int) := by
    unfold wrap64 spotP
    split <;> omega
  unfold planV planA at *
  generalize st.take ((spotP n which : Nat) : Int) ((spotP n which + sizeP n : Nat) : Int) N k = tk at *
  generalize ((spotP n which + sizeP n : Nat) : Int) = un at *
  generalize ((spotP n which : Nat) : Int) = fn at *
  generalize ((2 + sizeP n + sizeP n : Nat) : Int) = jn at *
  generalize ((2 + sizeP n : Nat) : Int) = bn at *
  clear h2 hs
  generalize ((sizeP n : Nat) : Int) = sn at *
  go_enter Try.func17, Try.ntmps17
  go_wp2_with fail
  refine (hA.out _).mono ?_
  rintro e W1 ⟨rfl, hb1⟩
  have hb2 := hbl.trans (hb1.mono hbl.size)
  have z2 := (hbx.later hb1).spot 2 _ rfl
  have zl := (hbx.later hb1).lt
  go_wp2_with fail
  refine (hT.out _ hb2).mono ?_
  rintro e W2 ⟨rfl, hb3⟩
  go_wp2
  go_ret2
  exact ⟨rfl, hb2.trans (hb3.mono hb2.size)⟩
set_option maxRecDepth 100000 in
set_option maxHeartbeats 1000000 in
theorem slot_put_any {Dk : (Nat → Prop) → World → Nat → St → Prop} (K : LandedDk Dk) (S : LandedSt Dk) (F : Nat → Prop) (W : World) (p : Nat) (st : St) (n : Nat) (which N : Int) (s : ByteArray) (h2 : n ≤ 4096) (h : Dk F W p st) (hroom : st.Room (countN s.size + 1)) (hs : s.size ≤ 140737488351232) :
    Calls Try.prog 16 #[planV n, .pointer (some ⟨p, 0, none⟩), .int .i64 which, .int .i64 N, .string s] W fun e W' => e = .returned (.int .i64 (st.put (spotP n which) (sizeP n) N s).1) ∧ DkPost Dk F p (st.put (spotP n which) (sizeP n) N s).2 W W' := by
  have hA := Lib.hid (fun W => slot_at_any n which W)
  have hT := Lib.hid (fun W1 (hb : Below W.heap.size W W1) => S.lay F W1 p st ((spotP n which : Nat) : Int) ((spotP n which + sizeP n : Nat) : Int) N s (K.later h hb) (hroom.less (by omega)) hs)
  have hr2 := lay_room hroom ((spotP n which : Nat) : Int) ((spotP n which + sizeP n : Nat) : Int) N
  have hq := Lib.hid (show st.put (spotP n which) (sizeP n) N s = if (st.lay ((spotP n which : Nat) : Int) ((spotP n which + sizeP n : Nat) : Int) N s).1 ≠ 0 then st.lay ((spotP n which : Nat) : Int) ((spotP n which + sizeP n : Nat) : Int) N s else (st.lay ((spotP n which : Nat) : Int) ((spotP n which + sizeP n : Nat) : Int) N s).2.sync from rfl)
  have hbl : Below W.heap.size W (W.alloc (.cells #[.int .i64 2, .int .i64 ((2 + sizeP n : Nat) : Int), .int .i64 ((sizeP n : Nat) : Int), .int .i64 ((2 + sizeP n + sizeP n : Nat) : Int), .int .i64 ((n : Nat) : Int)] 24)) := (Below.refl _ _).alloc (Nat.le_refl _) _
  have hbx := BoxAt.new W [.int .i64 2, .int .i64 ((2 + sizeP n : Nat) : Int), .int .i64 ((sizeP n : Nat) : Int), .int .i64 ((2 + sizeP n + sizeP n : Nat) : Int), .int .i64 ((n : Nat) : Int)] 24
  have hsl := sizeP_le n
  have e1 : wrap64 (((spotP n which : Nat) : Int) + ((sizeP n : Nat) : Int)) = ((spotP n which + sizeP n : Nat) : Int) := by
    unfold wrap64 spotP
    split <;> omega
  generalize st.put (spotP n which) (sizeP n) N s = pj at *
  unfold planV planA at *
  generalize st.lay ((spotP n which : Nat) : Int) ((spotP n which + sizeP n : Nat) : Int) N s = lr at *
  generalize ((spotP n which + sizeP n : Nat) : Int) = un at *
  generalize ((spotP n which : Nat) : Int) = fn at *
  generalize ((2 + sizeP n + sizeP n : Nat) : Int) = jn at *
  generalize ((2 + sizeP n : Nat) : Int) = bn at *
  clear h2 hsl hroom
  generalize ((sizeP n : Nat) : Int) = sn at *
  go_enter Try.func16, Try.ntmps16
  go_wp2_with fail
  refine (hA.out _).mono ?_
  rintro e W1 ⟨rfl, hb1⟩
  have hb2 := hbl.trans (hb1.mono hbl.size)
  have z2 := (hbx.later hb1).spot 2 _ rfl
  have zl := (hbx.later hb1).lt
  go_wp2_with fail
  refine (hT.out _ hb2).mono ?_
  rintro e W2 ⟨rfl, hP⟩
  obtain ⟨F2, d1, d2, d3⟩ := hP.before hb2
  clear hP hT
  replace hq := hq.out
  by_cases he : lr.1 = 0
  · rw [if_neg (fun h => h he)] at hq
    subst hq
    have hsy := Lib.hid (K.sync F2 W2 p lr.2 d1 hr2.ok)
    go_wp2_with fail
    refine (hsy.out).mono ?_
    rintro e w5 ⟨rfl, F3, n1, n2, n3⟩
    have hP : DkPost Dk F p lr.2.sync.2 W w5 := ⟨F3, n1, d2.trans n2 (fun k hk e => d3 k hk e), fun k hk e => d3 k hk (n3 k (Nat.lt_of_lt_of_le hk d2.size) e)⟩
    clear hsy d1 d2 d3 n1 n2 n3
    go_wp2
    go_ret
    exact ⟨rfl, hP⟩
  · rw [if_pos he] at hq
    subst hq
    have hP : DkPost Dk F p pj.2 W W2 := ⟨F2, d1, d2, d3⟩
    go_wp2
    go_ret
    exact ⟨rfl, hP⟩
set_option maxRecDepth 100000 in
set_option maxHeartbeats 1000000 in
theorem slot_putNil_any (n : Nat) (W : World) : Calls Try.prog 16 #[planV n, .pointer none, .int .i64 0, .int .i64 1, .string ⟨#[]⟩] W fun e W' => e = .returned (.int .i64 2) ∧ Below W.heap.size W W' := by
  unfold planV planA
  go_enter Try.func16, Try.ntmps16
  go_wp2
  go_ret
  exact ⟨rfl, (Below.refl _ _).alloc (Nat.le_refl _) _⟩
set_option maxRecDepth 100000 in
theorem arePlaces_nil (W : World) (b : Nat) (hb : b ≤ 10000) : Calls Try.prog 40 #[.pointer none, .int .i64 2, .int .i64 ((2 + b : Nat) : Int)] W fun e W' => e = .returned (.bool false) ∧ Below W.heap.size W W' := by
  have e1 : decide (((2 + b : Nat) : Int) ≤ 0) = false := decide_eq_false (by omega)
  have e2 : decide ((2 : Int) ≤ ((2 + b : Nat) : Int)) = true := decide_eq_true (by omega)
  have hS := Lib.hid (fun W => landedNone.sectors W)
  generalize ((2 + b : Nat) : Int) = u at *
  go_enter Try.func40, Try.ntmps40
  go_wp2_with (go_at_call 35; refine (hS.out _).mono ?_; rintro e W1 ⟨rfl, hb⟩)
  all_goals (go_ret; exact ⟨by first | rfl | simp [e1], hb⟩)
set_option maxRecDepth 100000 in
theorem take_nil (W : World) (b : Nat) (hb : b ≤ 10000) : Calls Try.prog 31 #[.pointer none, .int .i64 2, .int .i64 ((2 + b : Nat) : Int), .int .i64 1, .int .i64 0] W fun e W' => e = .returned (.tuple #[.string ⟨#[]⟩, .bool false]) ∧ Below W.heap.size W W' := by
  have hC := Lib.hid (fun W => count_any 0 W (by omega))
  have hP := Lib.hid (fun W => arePlaces_nil W b hb)
  generalize ((2 + b : Nat) : Int) = u at *
  generalize countN (Int.toNat 0) = c at *
  go_enter Try.func31, Try.ntmps31
  go_wp2_with (first | (go_at_call 25; refine (hC.out _).mono ?_; rintro e W8 ⟨rfl, hb8⟩) | (go_at_call 40; refine (hP.out _).mono ?_; rintro e W9 ⟨rfl, hb9⟩))
  go_ret2
  exact ⟨rfl, hb8.trans (hb9.mono hb8.size)⟩
set_option maxRecDepth 100000 in
set_option maxHeartbeats 1000000 in
theorem slot_getNil_any (n : Nat) (W : World) (h2 : n ≤ 4096) : Calls Try.prog 17 #[planV n, .pointer none, .int .i64 0, .int .i64 1, .int .i64 0] W fun e W' => e = .returned (.tuple #[.string ⟨#[]⟩, .bool false]) ∧ Below W.heap.size W W' := by
  have hA := Lib.hid (fun W => slot_at_any n 0 W)
  have hsl := sizeP_le n
  have hT := Lib.hid (fun W => take_nil W (sizeP n) (by omega))
  rw [show spotP n 0 = 2 from rfl] at hA
  have hbl : Below W.heap.size W (W.alloc (.cells #[.int .i64 2, .int .i64 ((2 + sizeP n : Nat) : Int), .int .i64 ((sizeP n : Nat) : Int), .int .i64 ((2 + sizeP n + sizeP n : Nat) : Int), .int .i64 ((n : Nat) : Int)] 24)) := (Below.refl _ _).alloc (Nat.le_refl _) _
  have hbx := BoxAt.new W [.int .i64 2, .int .i64 ((2 + sizeP n : Nat) : Int), .int .i64 ((sizeP n : Nat) : Int), .int .i64 ((2 + sizeP n + sizeP n : Nat) : Int), .int .i64 ((n : Nat) : Int)] 24
  have e1 : wrap64 (2 + ((sizeP n : Nat) : Int)) = ((2 + sizeP n : Nat) : Int) := by
    unfold wrap64
    omega
  unfold planV planA at *
  generalize ((2 + sizeP n + sizeP n : Nat) : Int) = jn at *
  generalize ((2 + sizeP n : Nat) : Int) = bn at *
  clear h2 hsl
  generalize ((sizeP n : Nat) : Int) = sn at *
  go_enter Try.func17, Try.ntmps17
  go_wp2_with fail
  refine (hA.out _).mono ?_
  rintro e W1 ⟨rfl, hb1⟩
  have hb2 := hbl.trans (hb1.mono hbl.size)
  have z2 := (hbx.later hb1).spot 2 _ rfl
  have zl := (hbx.later hb1).lt
  go_wp2_with fail
  refine (hT.out _).mono ?_
  rintro e W2 ⟨rfl, hb3⟩
  go_wp2
  go_ret2
  exact ⟨rfl, hb2.trans (hb3.mono hb2.size)⟩
theorem landedSl {Dk : (Nat → Prop) → World → Nat → St → Prop} (K : LandedDk Dk) (S : LandedSt Dk) : LandedSl Dk where
  of := fun n W h1 h2 => slot_of_any n W h1 h2
  ofBad := fun n W _ h => slot_ofBad_any n W h
  spot := fun n which W _ _ _ => slot_at_any n which W
  fits := fun n k W _ _ h => slot_fits_any S n k W h
  put := fun F W p st n which N s _ h2 _ h hr hs => slot_put_any K S F W p st n which N s h2 h hr hs
  get := fun F W p st n which N k _ h2 _ h hok hk => slot_get_any K S F W p st n which N k h2 h hok hk
  putNil := fun n W _ _ => slot_putNil_any n W
  getNil := fun n W _ h2 => slot_getNil_any n W h2
end Go.Proofs.Ytageeodmpbngaaa
