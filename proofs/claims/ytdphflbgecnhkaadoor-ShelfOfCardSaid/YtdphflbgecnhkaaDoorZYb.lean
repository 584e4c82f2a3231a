/- Stage 26: the document's names, places and bytes. No condition but sizes. -/
import Derived.Test.YtdphflbgecnhkaaDoorZBb
import Derived.Test.YtdphflbgecnhkaaDoorZYa
import Derived.Test.YtdphflbgecnhkaaDoorZCalb
import Derived.Deep.RegionHeld3
namespace Go.Proofs.YtdphflbgecnhkaaDoor
open Go.RowKit Go.Sort Wm

def allTo (s : ByteArray) (k : Nat) : Prop := ∀ j (h : j < s.size), j < k → signB s[j] = true
theorem nameB_all {s : ByteArray} {m : Nat} (h0 : 0 < s.size) (h1 : s.size ≤ m) (h : allTo s s.size) : nameB s m = true := by
  rw [nameB_iff]
  refine ⟨⟨h0, h1⟩, fun c hc => ?_⟩
  obtain ⟨i, hi, rfl⟩ := List.getElem_of_mem hc
  have hi2 : i < s.size := by simpa using hi
  exact h i hi2 hi2
theorem nameB_not {s : ByteArray} {m : Nat} {k : Nat} (hk : k < s.size) (h : signB s[k] = false) : nameB s m = false := by
  cases hb : nameB s m
  · rfl
  · have := ((nameB_iff s m).1 hb).2 s[k] (by
      have : s[k] = s.data.toList[k]'(by simpa using hk) := rfl
      rw [this]; exact List.getElem_mem _)
    rw [h] at this
    cases this
theorem signB_iff (c : UInt8) : signB c = true ↔ c.toNat = 45 ∨ (48 ≤ c.toNat ∧ c.toNat ≤ 57) ∨ (65 ≤ c.toNat ∧ c.toNat ≤ 90) := by
  unfold signB
  simp only [← Bool.decide_and, ← Bool.decide_or, decide_eq_true_iff]
  omega
theorem allTo_step {s : ByteArray} {k : Nat} (hk : k < s.size) (h : allTo s k) (hc : signB s[k] = true) : allTo s (k + 1) := fun j hj hjk => by
  by_cases e : j = k
  · subst e; exact hc
  · exact h j hj (by omega)
set_option maxRecDepth 100000 in
set_option maxHeartbeats 2000000 in
theorem refname_any' (s : ByteArray) (m : Nat) (hm : m ≤ 100) (hs : s.size ≤ 140737488351232) (w : World) : Calls Tryd.prog 22 #[.string s, .int .i64 (m : Int)] w fun e w' => e = .returned (.bool (nameB s m)) ∧ w = w' := by
  by_cases c0 : s.size = 0
  · have hb := Lib.hid (show nameB s m = false by
      cases hb : nameB s m
      · rfl
      · have := ((nameB_iff s m).1 hb).1; omega)
    go_enter Tryd.func22, Tryd.ntmps22
    go_wp2
    go_ret
    exact ⟨by rw [hb.out]; rfl, rfl⟩
  by_cases c1 : s.size ≤ m
  · have hgt : decide ((m : Int) < (s.size : Int)) = false := decide_eq_false (by omega)
    have hz0 : (((s.size : Nat) : Int) == 0) = false := by rw [beq_eq_false_iff_ne]; omega
    have hok := Lib.hid (fun h => nameB_all (s := s) (m := m) (by omega) c1 h)
    have hno := Lib.hid (fun k (hk : k < s.size) h => nameB_not (s := s) (m := m) (k := k) hk h)
    go_enter Tryd.func22, Tryd.ntmps22
    go_wp2
    go_loopw [5] (fun i wr => ∃ k : Nat, k ≤ s.size ∧ i = .int .i64 (k : Int) ∧ allTo s k ∧ w = wr) (fun i _ => (s.size - RowKit.intOf i).toNat)
    case atStart => exact ⟨0, by omega, rfl, fun j _ h => absurd h (Nat.not_lt_zero _), rfl⟩
    case round =>
      obtain ⟨k, hk, rfl, hal, rfl⟩ := hrel
      by_cases hlt : k < s.size
      · have hsk := Lib.hid (signB_iff s[k])
        have hno2 := Lib.hid (hno.out k hlt)
        have hal2 := Lib.hid (allTo_step hlt hal)
        generalize hxx : s[k].toNat = x at *
        have hx8 : x < 256 := by rw [← hxx]; exact UInt8.toNat_lt _
        have hx : (x = 45) ∨ (48 ≤ x ∧ x ≤ 57) ∨ (65 ≤ x ∧ x ≤ 90) ∨ (x < 45) ∨ (46 ≤ x ∧ x ≤ 47) ∨ (58 ≤ x ∧ x ≤ 64) ∨ (90 < x) := by omega
        rcases hx with h | h | h | h | h | h | h
        · have t0 : decide ((65 : Int) ≤ (x : Int)) = false := decide_eq_false (by omega)
          have t1 : decide ((x : Int) ≤ 90) = true := decide_eq_true (by omega)
          have t2 : decide ((48 : Int) ≤ (x : Int)) = false := decide_eq_false (by omega)
          have t3 : decide ((x : Int) ≤ 57) = true := decide_eq_true (by omega)
          have t4 : ((x : Int) == 45) = true := by rw [beq_iff_eq]; omega
          go_wp2
          exact ⟨⟨k + 1, by omega, by go_num, hal2.out (hsk.out.2 (by omega)), trivial⟩, by simp [RowKit.intOf]; omega⟩
        · have t0 : decide ((65 : Int) ≤ (x : Int)) = false := decide_eq_false (by omega)
          have t1 : decide ((x : Int) ≤ 90) = true := decide_eq_true (by omega)
          have t2 : decide ((48 : Int) ≤ (x : Int)) = true := decide_eq_true (by omega)
          have t3 : decide ((x : Int) ≤ 57) = true := decide_eq_true (by omega)
          have t4 : ((x : Int) == 45) = false := by rw [beq_eq_false_iff_ne]; omega
          go_wp2
          exact ⟨⟨k + 1, by omega, by go_num, hal2.out (hsk.out.2 (by omega)), trivial⟩, by simp [RowKit.intOf]; omega⟩
        · have t0 : decide ((65 : Int) ≤ (x : Int)) = true := decide_eq_true (by omega)
          have t1 : decide ((x : Int) ≤ 90) = true := decide_eq_true (by omega)
          have t2 : decide ((48 : Int) ≤ (x : Int)) = true := decide_eq_true (by omega)
          have t3 : decide ((x : Int) ≤ 57) = false := decide_eq_false (by omega)
          have t4 : ((x : Int) == 45) = false := by rw [beq_eq_false_iff_ne]; omega
          go_wp2
          exact ⟨⟨k + 1, by omega, by go_num, hal2.out (hsk.out.2 (by omega)), trivial⟩, by simp [RowKit.intOf]; omega⟩
        · have t0 : decide ((65 : Int) ≤ (x : Int)) = false := decide_eq_false (by omega)
          have t1 : decide ((x : Int) ≤ 90) = true := decide_eq_true (by omega)
          have t2 : decide ((48 : Int) ≤ (x : Int)) = false := decide_eq_false (by omega)
          have t3 : decide ((x : Int) ≤ 57) = true := decide_eq_true (by omega)
          have t4 : ((x : Int) == 45) = false := by rw [beq_eq_false_iff_ne]; omega
          go_wp2
          go_ret
          exact ⟨by rw [hno2.out (by rw [Bool.eq_false_iff]; exact fun e => by have := hsk.out.1 e; omega)]; rfl, rfl⟩
        · have t0 : decide ((65 : Int) ≤ (x : Int)) = false := decide_eq_false (by omega)
          have t1 : decide ((x : Int) ≤ 90) = true := decide_eq_true (by omega)
          have t2 : decide ((48 : Int) ≤ (x : Int)) = false := decide_eq_false (by omega)
          have t3 : decide ((x : Int) ≤ 57) = true := decide_eq_true (by omega)
          have t4 : ((x : Int) == 45) = false := by rw [beq_eq_false_iff_ne]; omega
          go_wp2
          go_ret
          exact ⟨by rw [hno2.out (by rw [Bool.eq_false_iff]; exact fun e => by have := hsk.out.1 e; omega)]; rfl, rfl⟩
        · have t0 : decide ((65 : Int) ≤ (x : Int)) = false := decide_eq_false (by omega)
          have t1 : decide ((x : Int) ≤ 90) = true := decide_eq_true (by omega)
          have t2 : decide ((48 : Int) ≤ (x : Int)) = true := decide_eq_true (by omega)
          have t3 : decide ((x : Int) ≤ 57) = false := decide_eq_false (by omega)
          have t4 : ((x : Int) == 45) = false := by rw [beq_eq_false_iff_ne]; omega
          go_wp2
          go_ret
          exact ⟨by rw [hno2.out (by rw [Bool.eq_false_iff]; exact fun e => by have := hsk.out.1 e; omega)]; rfl, rfl⟩
        · have t0 : decide ((65 : Int) ≤ (x : Int)) = true := decide_eq_true (by omega)
          have t1 : decide ((x : Int) ≤ 90) = false := decide_eq_false (by omega)
          have t2 : decide ((48 : Int) ≤ (x : Int)) = true := decide_eq_true (by omega)
          have t3 : decide ((x : Int) ≤ 57) = false := decide_eq_false (by omega)
          have t4 : ((x : Int) == 45) = false := by rw [beq_eq_false_iff_ne]; omega
          go_wp2
          go_ret
          exact ⟨by rw [hno2.out (by rw [Bool.eq_false_iff]; exact fun e => by have := hsk.out.1 e; omega)]; rfl, rfl⟩
      · obtain rfl : k = s.size := by omega
        go_wp2
        go_ret
        exact ⟨by rw [hok.out hal]; rfl, rfl⟩
  · have hgt : decide ((m : Int) < (s.size : Int)) = true := decide_eq_true (by omega)
    have hb := Lib.hid (show nameB s m = false by
      cases hb : nameB s m
      · rfl
      · have := ((nameB_iff s m).1 hb).1; omega)
    go_enter Tryd.func22, Tryd.ntmps22
    go_wp2
    go_ret
    exact ⟨by rw [hb.out]; rfl, rfl⟩
theorem refname_any (s : ByteArray) (m : Nat) (mi : Int) (hmi : mi = (m : Int)) (hm : m ≤ 100) (hs : s.size ≤ 140737488351232) (w : World) : Calls Tryd.prog 22 #[.string s, .int .i64 mi] w fun e w' => e = .returned (.bool (nameB s m)) ∧ w = w' := by
  rw [hmi]; exact refname_any' s m hm hs w
def strLen : Value → Nat
  | .string b => b.size
  | _ => 0
set_option maxRecDepth 100000 in
set_option maxHeartbeats 2000000 in
theorem reffill_any' (s : ByteArray) (n : Nat) (hn : n ≤ 100) (_hs : s.size ≤ 140737488351232) (w : World) : Calls Tryd.prog 20 #[.string s, .int .i64 (n : Int)] w fun e w' => e = .returned (.string (fillB s n)) ∧ w = w' := by
  have hz := Lib.hid (fun k => show s ++ zerosB k ++ zerosB 1 = s ++ zerosB (k + 1) by
    rw [ByteArray.append_assoc]
    congr 1
    apply ByteArray.ext
    unfold zerosB
    rw [ByteArray.data_append]
    apply Array.toList_inj.mp
    rw [Array.toList_append]
    show List.replicate k (0 : UInt8) ++ [0] = List.replicate (k + 1) 0
    rw [List.replicate_succ'])
  have hf := Lib.hid (show fillB s n = s ++ zerosB (n - s.size) from rfl)
  have he := Lib.hid (show s = s ++ zerosB 0 by rw [show zerosB 0 = ByteArray.empty from rfl, ByteArray.append_empty])
  go_enter Tryd.func20, Tryd.ntmps20
  go_wp2
  go_loopw [0] (fun v wr => ∃ k : Nat, k ≤ n - s.size ∧ v = .string (s ++ zerosB k) ∧ w = wr) (fun v _ => n - strLen v)
  case atStart => exact ⟨0, by omega, congrArg Value.string he.out, rfl⟩
  case round =>
    obtain ⟨k, hk, rfl, rfl⟩ := hrel
    have hsz : (s ++ zerosB k).size = s.size + k := by rw [ByteArray.size_append, zerosB_size]
    have hz1 := Lib.hid (hz.out k)
    by_cases hlt : k < n - s.size
    · have hc : decide (((s ++ zerosB k).size : Int) < (n : Int)) = true := decide_eq_true (by omega)
      have hz2 : (s ++ zerosB (k + 1)).size = s.size + k + 1 := by rw [ByteArray.size_append, zerosB_size]; omega
      go_wp2
      exact ⟨⟨k + 1, by omega, congrArg Value.string hz1.out, trivial⟩, by show n - (s ++ zerosB k ++ zerosB 1).size < n - (s ++ zerosB k).size; rw [hz1.out]; omega⟩
    · have hc : decide (((s ++ zerosB k).size : Int) < (n : Int)) = false := decide_eq_false (by omega)
      obtain rfl : k = n - s.size := by omega
      go_wp2
      go_ret
      exact ⟨by rw [hf.out]; rfl, rfl⟩
theorem reffill_any (s : ByteArray) (n : Nat) (ni : Int) (hni : ni = (n : Int)) (hn : n ≤ 100) (hs : s.size ≤ 140737488351232) (w : World) : Calls Tryd.prog 20 #[.string s, .int .i64 ni] w fun e w' => e = .returned (.string (fillB s n)) ∧ w = w' := by
  rw [hni]; exact reffill_any' s n hn hs w
set_option maxRecDepth 100000 in
set_option maxHeartbeats 2000000 in
theorem refgood26_any (p : Place) (hp : p.Wf) (w : World) : Calls Tryd.prog 16 #[.string p.Good, .string p.Site, .int .i64 p.State] w fun e w' => e = .returned (.bool (goodPl p)) ∧ w = w' := by
  have c1 := Lib.hid (fun W => refname_any p.Good 10 10 rfl (by decide) hp.Good W)
  have c2 := Lib.hid (fun W => refname_any p.Site 4 4 rfl (by decide) hp.Site W)
  have hx := Lib.hid (show goodPl p = (nameB p.Good 10 && nameB p.Site 4 && (decide ((0 : Int) ≤ p.State) && decide (p.State ≤ 2))) by unfold goodPl; rw [Bool.decide_and])
  rw [hx.out]
  clear hx
  generalize nameB p.Good 10 = b1 at *
  generalize nameB p.Site 4 = b2 at *
  generalize h3 : decide ((0 : Int) ≤ p.State) = b3 at *
  generalize h4 : decide (p.State ≤ 2) = b4 at *
  cases b1 <;> cases b2 <;> cases b3
  all_goals
    go_enter Tryd.func16, Tryd.ntmps16
    go_wp2_with (first
      | (go_at_call 22; with_reducible refine (c1.out _).mono ?_; rintro e W1 ⟨rfl, rfl⟩)
      | (go_at_call 22; with_reducible refine (c2.out _).mono ?_; rintro e W1 ⟨rfl, rfl⟩))
    all_goals
      go_ret
      exact ⟨rfl, rfl⟩
theorem placeV_eq (p : Place) : placeV p = .agg #[.string p.Good, .string p.Site, .int .i64 p.State] := rfl
set_option maxRecDepth 100000 in
set_option maxHeartbeats 2000000 in
theorem refgoodp_any (p : Place) (hp : p.Wf) (w : World) : Calls Tryd.prog 9 #[placeV p] w fun e w' => e = .returned (.bool (goodPl p)) ∧ Below w.heap.size w w' := by
  have c1 := Lib.hid (fun W => refgood26_any p hp W)
  have hb : Below w.heap.size w (w.alloc (.cells #[.string p.Good, .string p.Site, .int .i64 p.State] 23)) := (Below.refl _ _).alloc (Nat.le_refl _) _
  rw [placeV_eq]
  generalize goodPl p = v at *
  go_enter Tryd.func9, Tryd.ntmps9
  go_wp2_with (go_at_call 16; with_reducible refine (c1.out _).mono ?_; rintro e W1 ⟨rfl, rfl⟩)
  go_ret
  exact ⟨rfl, hb⟩
end Go.Proofs.YtdphflbgecnhkaaDoor
