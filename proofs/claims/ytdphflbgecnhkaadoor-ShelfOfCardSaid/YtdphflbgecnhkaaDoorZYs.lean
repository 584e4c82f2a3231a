/- Stage 26: the landed shelf's signs, names and places. No condition but sizes. -/
import Derived.Test.YtdphflbgecnhkaaDoorZYb
namespace Go.Proofs.YtdphflbgecnhkaaDoor
open Go.RowKit Go.Sort Wm

set_option maxRecDepth 100000 in
set_option maxHeartbeats 2000000 in
theorem shSign_q (c : UInt8) (w : World) : Calls Tryd.prog 21 #[.int .u8 ((c.toNat : Nat) : Int)] w fun e w' => e = .returned (.bool (signB c)) ∧ w = w' := by
  have hs := Lib.hid (show ∀ b, (signB c = true ↔ b = true) → signB c = b from fun b h => by cases hb : signB c <;> cases b <;> simp_all)
  have hsk := Lib.hid (signB_iff c)
  generalize signB c = sb at *
  generalize hxx : c.toNat = x at *
  have hx8 : x < 256 := by rw [← hxx]; exact UInt8.toNat_lt _
  have hx : (x = 45) ∨ (48 ≤ x ∧ x ≤ 57) ∨ (65 ≤ x ∧ x ≤ 90) ∨ (x < 45) ∨ (46 ≤ x ∧ x ≤ 47) ∨ (58 ≤ x ∧ x ≤ 64) ∨ (90 < x) := by omega
  rcases hx with h | h | h | h | h | h | h
  · have t0 : decide ((65 : Int) ≤ (x : Int)) = false := decide_eq_false (by omega)
    have t1 : decide ((x : Int) ≤ 90) = true := decide_eq_true (by omega)
    have t2 : decide ((48 : Int) ≤ (x : Int)) = false := decide_eq_false (by omega)
    have t3 : decide ((x : Int) ≤ 57) = true := decide_eq_true (by omega)
    have t4 : ((x : Int) == 45) = true := by rw [beq_iff_eq]; omega
    have hb : sb = true := hs.out true (hsk.out.trans (by simp; omega))
    subst hb
    clear hs hsk
    go_enter Tryd.func21, Tryd.ntmps21
    go_wp2
    go_ret
    exact ⟨rfl, rfl⟩
  · have t0 : decide ((65 : Int) ≤ (x : Int)) = false := decide_eq_false (by omega)
    have t1 : decide ((x : Int) ≤ 90) = true := decide_eq_true (by omega)
    have t2 : decide ((48 : Int) ≤ (x : Int)) = true := decide_eq_true (by omega)
    have t3 : decide ((x : Int) ≤ 57) = true := decide_eq_true (by omega)
    have t4 : ((x : Int) == 45) = false := by rw [beq_eq_false_iff_ne]; omega
    have hb : sb = true := hs.out true (hsk.out.trans (by simp; omega))
    subst hb
    clear hs hsk
    go_enter Tryd.func21, Tryd.ntmps21
    go_wp2
    go_ret
    exact ⟨rfl, rfl⟩
  · have t0 : decide ((65 : Int) ≤ (x : Int)) = true := decide_eq_true (by omega)
    have t1 : decide ((x : Int) ≤ 90) = true := decide_eq_true (by omega)
    have t2 : decide ((48 : Int) ≤ (x : Int)) = true := decide_eq_true (by omega)
    have t3 : decide ((x : Int) ≤ 57) = false := decide_eq_false (by omega)
    have t4 : ((x : Int) == 45) = false := by rw [beq_eq_false_iff_ne]; omega
    have hb : sb = true := hs.out true (hsk.out.trans (by simp; omega))
    subst hb
    clear hs hsk
    go_enter Tryd.func21, Tryd.ntmps21
    go_wp2
    go_ret
    exact ⟨rfl, rfl⟩
  · have t0 : decide ((65 : Int) ≤ (x : Int)) = false := decide_eq_false (by omega)
    have t1 : decide ((x : Int) ≤ 90) = true := decide_eq_true (by omega)
    have t2 : decide ((48 : Int) ≤ (x : Int)) = false := decide_eq_false (by omega)
    have t3 : decide ((x : Int) ≤ 57) = true := decide_eq_true (by omega)
    have t4 : ((x : Int) == 45) = false := by rw [beq_eq_false_iff_ne]; omega
    have hb : sb = false := hs.out false (hsk.out.trans (by simp; omega))
    subst hb
    clear hs hsk
    go_enter Tryd.func21, Tryd.ntmps21
    go_wp2
    go_ret
    exact ⟨rfl, rfl⟩
  · have t0 : decide ((65 : Int) ≤ (x : Int)) = false := decide_eq_false (by omega)
    have t1 : decide ((x : Int) ≤ 90) = true := decide_eq_true (by omega)
    have t2 : decide ((48 : Int) ≤ (x : Int)) = false := decide_eq_false (by omega)
    have t3 : decide ((x : Int) ≤ 57) = true := decide_eq_true (by omega)
    have t4 : ((x : Int) == 45) = false := by rw [beq_eq_false_iff_ne]; omega
    have hb : sb = false := hs.out false (hsk.out.trans (by simp; omega))
    subst hb
    clear hs hsk
    go_enter Tryd.func21, Tryd.ntmps21
    go_wp2
    go_ret
    exact ⟨rfl, rfl⟩
  · have t0 : decide ((65 : Int) ≤ (x : Int)) = false := decide_eq_false (by omega)
    have t1 : decide ((x : Int) ≤ 90) = true := decide_eq_true (by omega)
    have t2 : decide ((48 : Int) ≤ (x : Int)) = true := decide_eq_true (by omega)
    have t3 : decide ((x : Int) ≤ 57) = false := decide_eq_false (by omega)
    have t4 : ((x : Int) == 45) = false := by rw [beq_eq_false_iff_ne]; omega
    have hb : sb = false := hs.out false (hsk.out.trans (by simp; omega))
    subst hb
    clear hs hsk
    go_enter Tryd.func21, Tryd.ntmps21
    go_wp2
    go_ret
    exact ⟨rfl, rfl⟩
  · have t0 : decide ((65 : Int) ≤ (x : Int)) = true := decide_eq_true (by omega)
    have t1 : decide ((x : Int) ≤ 90) = false := decide_eq_false (by omega)
    have t2 : decide ((48 : Int) ≤ (x : Int)) = true := decide_eq_true (by omega)
    have t3 : decide ((x : Int) ≤ 57) = false := decide_eq_false (by omega)
    have t4 : ((x : Int) == 45) = false := by rw [beq_eq_false_iff_ne]; omega
    have hb : sb = false := hs.out false (hsk.out.trans (by simp; omega))
    subst hb
    clear hs hsk
    go_enter Tryd.func21, Tryd.ntmps21
    go_wp2
    go_ret
    exact ⟨rfl, rfl⟩
set_option maxRecDepth 100000 in
set_option maxHeartbeats 2000000 in
theorem shName_i (s : ByteArray) (m : Nat) (mi : Int) (hmi : mi = (m : Int)) (_hm : m ≤ 100) (hs : s.size ≤ 140737488351232) (w : World) : Calls Tryd.prog 15 #[.string s, .int .i64 mi] w fun e w' => e = .returned (.bool (nameB s m)) ∧ w = w' := by
  by_cases c0 : s.size = 0
  · have hb := Lib.hid (show nameB s m = false by
      cases hb : nameB s m
      · rfl
      · have := ((nameB_iff s m).1 hb).1; omega)
    obtain rfl : s = ByteArray.empty := ByteArray.size_eq_zero_iff.1 c0
    have he : ByteArray.empty.toList.isEmpty = true := by rw [ByteArray.toList_eq]; rfl
    go_enter Tryd.func15, Tryd.ntmps15
    go_wp2
    go_ret
    exact ⟨by rw [hb.out]; rfl, rfl⟩
  have he : s.toList.isEmpty = false := by
    rw [ByteArray.toList_eq]
    cases h : s.data.toList with
    | nil => exact absurd (show s.size = 0 from (congrArg List.length h)) c0
    | cons _ _ => rfl
  by_cases c1 : s.size ≤ m
  · have hgt : decide (mi < (s.size : Int)) = false := decide_eq_false (by omega)
    have hok := Lib.hid (fun h => nameB_all (s := s) (m := m) (by omega) c1 h)
    have hno := Lib.hid (fun k (hk : k < s.size) h => nameB_not (s := s) (m := m) (k := k) hk h)
    clear hmi
    go_enter Tryd.func15, Tryd.ntmps15
    go_wp2
    go_loopw [5, 16] (fun _ i wr => ∃ k : Nat, k ≤ s.size ∧ i = .int .i64 (k : Int) ∧ allTo s k ∧ w = wr) (fun _ i _ => (s.size - RowKit.intOf i).toNat)
    case atStart => exact ⟨0, by omega, rfl, fun j _ h => absurd h (Nat.not_lt_zero _), rfl⟩
    case round =>
      obtain ⟨k, hk, rfl, hal, rfl⟩ := hrel
      by_cases hlt : k < s.size
      · have hc := Lib.hid (fun W => shSign_q s[k] W)
        cases hb : signB s[k]
        · rw [hb] at hc
          have hno2 := Lib.hid (hno.out k hlt hb)
          go_wp2_with (go_at_call 21; with_reducible refine (hc.out _).mono ?_; rintro e W1 ⟨rfl, rfl⟩)
          go_ret
          exact ⟨by rw [hno2.out]; rfl, rfl⟩
        · rw [hb] at hc
          have hal2 := Lib.hid (allTo_step hlt hal hb)
          go_wp2_with (go_at_call 21; with_reducible refine (hc.out _).mono ?_; rintro e W1 ⟨rfl, rfl⟩)
          exact ⟨⟨k + 1, by omega, by go_num, hal2.out, trivial⟩, by simp [RowKit.intOf]; omega⟩
      · obtain rfl : k = s.size := by omega
        go_wp2
        go_ret
        exact ⟨by rw [hok.out hal]; rfl, rfl⟩
  · have hgt : decide (mi < (s.size : Int)) = true := decide_eq_true (by omega)
    have hb := Lib.hid (show nameB s m = false by
      cases hb : nameB s m
      · rfl
      · have := ((nameB_iff s m).1 hb).1; omega)
    go_enter Tryd.func15, Tryd.ntmps15
    go_wp2
    go_ret
    exact ⟨by rw [hb.out]; rfl, rfl⟩
set_option maxRecDepth 100000 in
set_option maxHeartbeats 2000000 in
theorem shGood_any (p : Place) (hp : p.Wf) (w : World) : Calls Tryd.prog 8 #[placeV p] w fun e w' => e = .returned (.bool (goodPl p)) ∧ Below w.heap.size w w' := by
  have c1 := Lib.hid (fun W => shName_i p.Good 10 10 rfl (by decide) hp.Good W)
  have c2 := Lib.hid (fun W => shName_i p.Site 4 4 rfl (by decide) hp.Site W)
  have hx := Lib.hid (show goodPl p = (nameB p.Good 10 && nameB p.Site 4 && (decide ((0 : Int) ≤ p.State) && decide (p.State ≤ 2))) by unfold goodPl; rw [Bool.decide_and])
  have hbl := Lib.hid (show Below w.heap.size w (w.alloc (.cells #[.string p.Good, .string p.Site, .int .i64 p.State] 23)) from (Below.refl _ _).alloc (Nat.le_refl _) _)
  rw [hx.out, placeV_eq]
  clear hx
  generalize nameB p.Good 10 = b1 at *
  generalize nameB p.Site 4 = b2 at *
  generalize h3 : decide ((0 : Int) ≤ p.State) = b3 at *
  generalize h4 : decide (p.State ≤ 2) = b4 at *
  cases b1 <;> cases b2 <;> cases b3
  all_goals
    go_enter Tryd.func8, Tryd.ntmps8
    go_wp2_with (first
      | (go_at_call 15; with_reducible refine (c1.out _).mono ?_; rintro e W1 ⟨rfl, rfl⟩)
      | (go_at_call 15; with_reducible refine (c2.out _).mono ?_; rintro e W1 ⟨rfl, rfl⟩))
    all_goals
      go_ret
      exact ⟨rfl, hbl.out⟩
end Go.Proofs.YtdphflbgecnhkaaDoor
