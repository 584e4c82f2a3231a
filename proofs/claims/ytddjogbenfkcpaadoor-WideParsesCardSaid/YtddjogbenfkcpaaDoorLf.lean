/- WideParses' walk: for all texts. -/
import Derived.Test.YtddjogbenfkcpaaDoorLe
import Derived.Deep.DeepCutAuto
namespace Go.Proofs.YtddjogbenfkcpaaDoor
open Go.RowKit Go.Sort Wm
attribute [local go_sem high] run_eql_num run_neq_num run_eql_num0

/-- A byte that is a digit. -/
def isDig (b : Nat) : Bool := decide (48 ≤ b) && decide (b ≤ 57)
/-- Digits that make a number give its digits again. -/
theorem parse_inv : ∀ (l : List UInt8) (acc x : Nat), acc < big → parseL l acc = some x → x < big ∧ x / 10 ^ l.length = acc ∧ decN l.length x = l
  | [], acc, x, ha, h => by
    simp only [parseL] at h
    obtain rfl := Option.some.inj h
    simp [decN, ha]
  | b :: r, acc, x, ha, h => by
    rw [parseL] at h
    cases hn : nextN acc b.toNat with
    | none => rw [hn] at h; cases h
    | some n =>
      rw [hn] at h
      have hlt := nextN_lt hn
      obtain ⟨h1, h2, h3⟩ := parse_inv r n x hlt h
      unfold nextN at hn
      split at hn
      · rename_i hc
        obtain rfl := Option.some.inj hn
        refine ⟨h1, ?_, ?_⟩
        · rw [List.length_cons, Nat.pow_succ, ← Nat.div_div_eq_div_mul, h2]; omega
        · rw [List.length_cons, decN, h3, h2]
          congr 1
          apply UInt8.toNat_inj.1
          rw [digB_toNat]; omega
      · cases hn
/-- A text of digits that is parsed is what is shown of its number. -/
theorem show_inv (s : ByteArray) (x : Nat) (hs : 0 < s.size) (h0 : s[0].toNat ≠ 48 ∨ s.size = 1) (h : parseL s.data.toList 0 = some x) : showN x = s ∧ x < big := by
  obtain ⟨h1, h2, h3⟩ := parse_inv s.data.toList 0 x (by rw [big_eq]; omega) h
  have hp : 0 < 10 ^ s.data.toList.length := Nat.pow_pos (by omega)
  have hlt : x < 10 ^ s.data.toList.length := (Nat.div_eq_zero_iff.1 h2).resolve_left (by omega)
  rw [size_list] at h3 hlt
  have hnd : ndN x = s.size := by
    refine ndN_eq h1 hs hlt ?_
    rcases h0 with h0 | h0
    · right
      have e := decN_at x s.size 0 hs
      rw [h3] at e
      have e1 : s.data.toList[0]? = some s[0] := by
        rw [List.getElem?_eq_getElem (by rw [size_list]; exact hs)]; rfl
      rw [e1] at e
      have e2 : s[0].toNat = 48 + x / 10 ^ (s.size - 1) % 10 := by
        rw [Option.some.inj e, digB_toNat, Nat.sub_zero]
      refine Nat.le_of_not_lt fun hk => ?_
      rw [Nat.div_eq_of_lt hk] at e2
      omega
    · exact Or.inl h0
  refine ⟨?_, h1⟩
  unfold showN
  rw [hnd, h3]
/-- Few digits are always a number. -/
theorem parse_digits : ∀ (l : List UInt8) (acc k : Nat), (∀ b ∈ l, isDig b.toNat = true) → acc < 10 ^ k → k + l.length ≤ 38 → (parseL l acc).isSome = true
  | [], _, _, _, _, _ => rfl
  | b :: r, acc, k, hd, ha, hk => by
    have hb : isDig b.toNat = true := hd b (by simp)
    unfold isDig at hb
    rw [Bool.and_eq_true, decide_eq_true_eq, decide_eq_true_eq] at hb
    have hp : 10 ^ (k + 1) ≤ 10 ^ 38 := Nat.pow_le_pow_right (by omega) (by rw [List.length_cons] at hk; omega)
    have h38 : (10 : Nat) ^ 38 < big := by rw [big_eq]; decide +kernel
    have hn : acc * 10 + (b.toNat - 48) < 10 ^ (k + 1) := by rw [Nat.pow_succ]; omega
    rw [parseL]
    have e : nextN acc b.toNat = some (acc * 10 + (b.toNat - 48)) := if_pos ⟨hb.1, hb.2, by omega⟩
    rw [e]
    exact parse_digits r _ (k + 1) (fun c hc => hd c (by simp [hc])) hn (by rw [List.length_cons] at hk; omega)
/-- The law's own word for digits, after k of them. -/
def digsK (d : Bool) (l : List UInt8) (k : Nat) : Bool := d && (l.take k).all fun b => isDig b.toNat
theorem digsK_zero (d : Bool) (l : List UInt8) : digsK d l 0 = d := by unfold digsK; simp
theorem digsK_succ (d : Bool) (l : List UInt8) (k : Nat) (h : k < l.length) : digsK d l (k + 1) = (digsK d l k && isDig l[k].toNat) := by
  unfold digsK
  rw [List.take_add_one, List.getElem?_eq_getElem h, List.all_append, Bool.and_assoc]
  simp
/-- What the law takes for digits at first. -/
def dig0 (s : ByteArray) : Bool := decide (0 < s.size ∧ s.size < 39 ∧ ((s.data.toList.headD 0).toNat ≠ 48 ∨ s.size = 1))
theorem head_get (s : ByteArray) (h : 0 < s.size) : s.data.toList.headD 0 = s[0] := by
  have e1 : s.data.toList[0]? = some s[0] := by
    rw [List.getElem?_eq_getElem (by rw [size_list]; exact h)]; rfl
  cases hl : s.data.toList with
  | nil => rw [hl] at e1; cases e1
  | cons b r => rw [hl] at e1; simp at e1; rw [← e1]; rfl

theorem nought_yes (s : ByteArray) (h1 : 0 < s.size) (h3 : s[0].toNat = 48) (h4 : s.size = 1) : s.toList = [48] := by
  rw [ByteArray.toList_eq]
  have e0 := head_get s h1
  have hl := size_list s
  rw [h4] at hl
  cases hd : s.data.toList with
  | nil => rw [hd] at hl; cases hl
  | cons b r =>
    rw [hd] at hl e0
    have hr : r = [] := by cases r with
      | nil => rfl
      | cons _ _ => simp at hl
    subst hr
    have : b = 48 := UInt8.toNat_inj.1 (by rw [show b = s[0] from e0]; exact h3)
    rw [this]
theorem nought_no (s : ByteArray) (h4 : s.size ≠ 1) : ¬ s.toList = [48] := by
  rw [ByteArray.toList_eq]
  intro e
  have hl := size_list s
  rw [e] at hl
  exact h4 hl.symm
set_option maxRecDepth 100000 in
set_option maxHeartbeats 4000000 in
theorem wideParses_long (s : ByteArray) (hm : 100 < s.size) (hm2 : s.size ≤ maxLen) (w : World) (hM : Most w) :
    Calls Tryd.prog 7 #[.string s] w fun e w' => e = .returned (.bool true) ∧ Below w.heap.size w w' := by
  unfold maxLen at hm2
  have hal := Lib.hid (fun w hM => alive_any w hM)
  go_enter Tryd.func7, Tryd.ntmps7
  go_wp2_with fail
  refine (hal.out _ hM).mono ?_
  rintro e w1 ⟨rfl, hw1⟩
  go_wp2
  go_ret
  exact ⟨rfl, hw1⟩

set_option maxRecDepth 100000 in
set_option maxHeartbeats 4000000 in
theorem wideParses_ok (s : ByteArray) (x : Nat) (hs : s.size ≤ 100) (hx : x < big) (hsh : showN x = s)
    (hp : ∀ w, Calls Tryd.prog 24 #[.string s] w fun e w' => e = .returned (.tuple #[numV x, .int .i64 0]) ∧ Below w.heap.size w w') (w : World) (hM : Most w) :
    Calls Tryd.prog 7 #[.string s] w fun e w' => e = .returned (.bool true) ∧ Below w.heap.size w w' := by
  have hal := Lib.hid (fun w hM => alive_any w hM)
  have hrs := fun w => refshow_any x hx w
  rw [hsh] at hrs
  have Hrs := Lib.hid hrs
  have Hp := Lib.hid hp
  clear hrs hp hsh
  go_enter Tryd.func7, Tryd.ntmps7
  go_wp2_with fail
  refine (hal.out _ hM).mono ?_
  rintro e w1 ⟨rfl, hb1⟩
  have hH : Has w1 [] := trivial
  go_wp2_with fail
  refine (Hp.out _).mono ?_
  rintro e w2 ⟨rfl, hw2⟩
  replace hH := hH.later hw2
  replace hb1 := hb1.trans (hw2.mono hb1.size)
  clear hw2
  go_wp2_with fail
  refine (Hrs.out _).mono ?_
  rintro e w3 ⟨rfl, hw3⟩
  replace hH := (hH.new2 _ _ _).later hw3
  replace hb1 := (hb1.alloc (Below.size hb1) _).trans (hw3.mono (Below.size (hb1.alloc (Below.size hb1) _)))
  clear hw3
  obtain ⟨⟨p0, q0⟩, ⟨p1, q1⟩, -⟩ := id hH
  try dsimp only at p0 q0 p1 q1
  go_wp2
  go_ret
  exact ⟨by first | rfl | simp, hb1⟩

set_option maxRecDepth 100000 in
set_option maxHeartbeats 4000000 in
theorem wideParses_err (s : ByteArray) (hs : s.size ≤ 100) (hd : digsK (dig0 s) s.data.toList s.size = false)
    (hp : ∀ w, Calls Tryd.prog 24 #[.string s] w fun e w' => e = .returned (.tuple #[numV 0, .int .i64 4]) ∧ Below w.heap.size w w') (w : World) (hM : Most w) :
    Calls Tryd.prog 7 #[.string s] w fun e w' => e = .returned (.bool true) ∧ Below w.heap.size w w' := by
  have hal := Lib.hid (fun w hM => alive_any w hM)
  have Hp := Lib.hid hp
  have Hd := Lib.hid hd
  clear hp hd
  go_enter Tryd.func7, Tryd.ntmps7
  go_wp2_with fail
  refine (hal.out _ hM).mono ?_
  rintro e w1 ⟨rfl, hb1⟩
  have hH : Has w1 [] := trivial
  go_wp2_with fail
  refine (Hp.out _).mono ?_
  rintro e w2 ⟨rfl, hw2⟩
  replace hH := (hH.later hw2).new2 (.int .u64 ((hiN 0 : Nat) : Int)) (.int .u64 ((loN 0 : Nat) : Int)) 24
  replace hb1 := (hb1.trans (hw2.mono hb1.size))
  replace hb1 := hb1.alloc hb1.size (.cells #[.int .u64 ((hiN 0 : Nat) : Int), .int .u64 ((loN 0 : Nat) : Int)] 24)
  clear hw2 Hp hal
  go_upto_region 8 with fail
  generalize w2.alloc (.cells #[.int .u64 ((hiN 0 : Nat) : Int), .int .u64 ((loN 0 : Nat) : Int)] 24) = wz at *
  go_cut [5] (fun d wc => d = .bool (dig0 s) ∧ Hid (wc = wz))
  case first =>
    by_cases h1 : 0 < s.size
    · have i1 : (0 : Int) < ((s.size : Nat) : Int) := by omega
      by_cases h2 : s.size < 39
      · have i2 : ((s.size : Nat) : Int) < 39 := by omega
        by_cases h3 : s[0].toNat = 48
        · have hb : (((s[0].toNat : Nat) : Int) != 48) = false := by rw [bne_eq_false_iff_eq]; omega
          by_cases h4 : s.size = 1
          · have hd0 : dig0 s = true := decide_eq_true ⟨h1, h2, Or.inr h4⟩
            have hq : (s.toList == [48]) = true := by rw [beq_iff_eq]; exact nought_yes s h1 h3 h4
            replace h4 := Lib.hid h4
            replace h3 := Lib.hid h3
            go_wp2
            go_meet
            case rel => exact ⟨by rw [hd0], rfl⟩
          · have hd0 : dig0 s = false := decide_eq_false (fun k => by
              rcases k.2.2 with k | k
              · rw [head_get s h1] at k; exact k h3
              · exact h4 k)
            have hq : (s.toList == [48]) = false := by rw [beq_eq_false_iff_ne]; exact nought_no s h4
            replace h4 := Lib.hid h4
            replace h3 := Lib.hid h3
            go_wp2
            go_meet
            case rel => exact ⟨by rw [hd0], rfl⟩
        · have hd0 : dig0 s = true := decide_eq_true ⟨h1, h2, Or.inl (by rw [head_get s h1]; exact h3)⟩
          have hb : (((s[0].toNat : Nat) : Int) != 48) = true := by rw [bne_iff_ne]; omega
          replace h3 := Lib.hid h3
          go_wp2
          go_meet
          case rel => exact ⟨by rw [hd0], rfl⟩
      · have hd0 : dig0 s = false := decide_eq_false (fun k => h2 k.2.1)
        have i2 : decide (((s.size : Nat) : Int) < 39) = false := decide_eq_false (by omega)
        go_wp2
        go_meet
        case rel => exact ⟨by rw [hd0], rfl⟩
    · have hd0 : dig0 s = false := decide_eq_false (fun k => h1 k.1)
      have i1 : decide ((0 : Int) < ((s.size : Nat) : Int)) = false := decide_eq_false (by omega)
      go_wp2
      go_meet
      case rel => exact ⟨by rw [hd0], rfl⟩
  case rest =>
    obtain ⟨rfl, hwc⟩ := hcut
    have hwc2 := hwc.out
    subst hwc2
    have t0 := hH.1.1
    have t1 := hH.2.1.1
    go_wp2
    go_loop [5, 6] (fun d i => ∃ k : Nat, k ≤ s.size ∧ i = .int .i64 k ∧ d = .bool (digsK (dig0 s) s.data.toList k)) (fun _ i => (s.size - intOf i).toNat)
    case atStart => exact ⟨0, by omega, rfl, by rw [digsK_zero]⟩
    case round =>
      obtain ⟨k, hk, rfl, rfl⟩ := hrel
      by_cases hlt : k < s.size
      · have hlt2 : ((k : Nat) : Int) < ((s.size : Nat) : Int) := by omega
        have hsucc := digsK_succ (dig0 s) s.data.toList k (by rw [size_list]; exact hlt)
        rw [show s.data.toList[k]'(by rw [size_list]; exact hlt) = s[k] from rfl] at hsucc
        replace hsucc := Lib.hid hsucc
        by_cases hdk : digsK (dig0 s) s.data.toList k = true
        · rw [hdk]
          have hdk2 := Lib.hid hdk
          clear hdk
          by_cases hb1 : 48 ≤ s[k].toNat
          · by_cases hb2 : s[k].toNat ≤ 57
            · have hv : digsK (dig0 s) s.data.toList (k + 1) = true := by rw [hsucc.out, hdk2.out]; unfold isDig; simp [hb1, hb2]
              replace hv := Lib.hid hv
              have i1 : decide ((48 : Int) ≤ ((s[k].toNat : Nat) : Int)) = true := decide_eq_true (by omega)
              have i2 : decide (((s[k].toNat : Nat) : Int) ≤ 57) = true := decide_eq_true (by omega)
              go_wp2
              exact ⟨⟨k + 1, by omega, by go_num, by rw [hv.out]⟩, by simp [intOf]; omega⟩
            · have hv : digsK (dig0 s) s.data.toList (k + 1) = false := by rw [hsucc.out, hdk2.out]; unfold isDig; simp [hb1, hb2]
              replace hv := Lib.hid hv
              have i1 : decide ((48 : Int) ≤ ((s[k].toNat : Nat) : Int)) = true := decide_eq_true (by omega)
              have i2 : decide (((s[k].toNat : Nat) : Int) ≤ 57) = false := decide_eq_false (by omega)
              go_wp2
              exact ⟨⟨k + 1, by omega, by go_num, by rw [hv.out]⟩, by simp [intOf]; omega⟩
          · have hv : digsK (dig0 s) s.data.toList (k + 1) = false := by rw [hsucc.out, hdk2.out]; unfold isDig; simp [hb1]
            replace hv := Lib.hid hv
            have i1 : decide ((48 : Int) ≤ ((s[k].toNat : Nat) : Int)) = false := decide_eq_false (by omega)
            go_wp2
            exact ⟨⟨k + 1, by omega, by go_num, by rw [hv.out]⟩, by simp [intOf]; omega⟩
        · have hdk : digsK (dig0 s) s.data.toList k = false := by simpa using hdk
          have hv : digsK (dig0 s) s.data.toList (k + 1) = false := by rw [hsucc.out, hdk]; rfl
          rw [hdk]
          replace hdk := Lib.hid hdk
          replace hv := Lib.hid hv
          go_wp2
          exact ⟨⟨k + 1, by omega, by go_num, by rw [hv.out]⟩, by simp [intOf]; omega⟩
      · obtain rfl : k = s.size := by omega
        rw [Hd.out]
        go_wp2
        go_ret
        exact ⟨rfl, hb1⟩

theorem wideParses_any (s : ByteArray) (hm2 : s.size ≤ maxLen) (w : World) (hM : Most w) :
    Calls Tryd.prog 7 #[.string s] w fun e w' => e = .returned (.bool true) ∧ Below w.heap.size w w' := by
  by_cases hm : 100 < s.size
  · exact wideParses_long s hm hm2 w hM
  · by_cases h0 : 0 < s.size
    · by_cases hh : s[0].toNat ≠ 48 ∨ s.size = 1
      · have hpl := fun w => parse_loop s h0 (by omega) hh w
        cases hp : parseL s.data.toList 0 with
        | some x =>
          obtain ⟨h1, h2⟩ := show_inv s x h0 hh hp
          rw [hp] at hpl
          exact wideParses_ok s x (by omega) h2 h1 hpl w hM
        | none =>
          rw [hp] at hpl
          refine wideParses_err s (by omega) ?_ hpl w hM
          cases hd : digsK (dig0 s) s.data.toList s.size with
          | false => rfl
          | true =>
            unfold digsK at hd
            rw [Bool.and_eq_true, List.take_of_length_le (by rw [size_list]; exact Nat.le_refl _), List.all_eq_true] at hd
            obtain ⟨hd1, hd2⟩ := hd
            have hd3 := of_decide_eq_true hd1
            have := parse_digits s.data.toList 0 0 hd2 (by simp) (by rw [size_list]; omega)
            rw [hp] at this
            cases this
      · have hne : s.size ≠ 1 := fun k => hh (Or.inr k)
        have h48 : s[0].toNat = 48 := Classical.byContradiction fun k => hh (Or.inl k)
        refine wideParses_err s (by omega) ?_ (fun w => parse_nought s (by omega) (by unfold maxLen; omega) h48 w) w hM
        unfold digsK
        rw [show dig0 s = false from decide_eq_false (fun k => by
          rcases k.2.2 with k | k
          · rw [head_get s h0] at k; exact k h48
          · exact hne k)]
        rfl
    · have hz : s = ⟨#[]⟩ := by
        apply ByteArray.ext
        apply Array.eq_empty_of_size_eq_zero
        show s.size = 0
        omega
      refine wideParses_err s (by omega) ?_ (fun w => by rw [hz]; exact parse_empty w) w hM
      unfold digsK
      rw [show dig0 s = false from decide_eq_false (fun k => h0 k.1)]
      rfl
end Go.Proofs.YtddjogbenfkcpaaDoor
