/- The landed sectors' small calls: what can be, places, how many sectors. No condition but that numbers are such. -/
import Derived.Test.YtgolddcmhjdmdaaZQu
import Derived.Lib.MinMax
namespace Go.Proofs.Ytgolddcmhjdmdaa
open Go.RowKit Go.Sort Cr

def numOk (n : Int) : Bool := decide (1 ≤ n) && decide (n ≤ 1152921504606846976)
set_option maxRecDepth 100000 in
theorem isNumber_any (n : Int) (W : World) : Calls Try.prog 44 #[.int .i64 n] W fun e W' => e = .returned (.bool (numOk n)) ∧ W = W' := by
  by_cases h : 1 ≤ n
  · have hb : decide (n ≤ 1152921504606846976) = numOk n := by unfold numOk; rw [decide_eq_true h]; rfl
    replace hb := Lib.hid hb
    go_enter Try.func44, Try.ntmps44
    go_wp2
    go_ret
    exact ⟨by rw [← hb.out]; rfl, rfl⟩
  · have hb := Lib.hid (show numOk n = false by unfold numOk; rw [decide_eq_false h]; rfl)
    go_enter Try.func44, Try.ntmps44
    go_wp2
    go_ret
    exact ⟨by rw [hb.out]; rfl, rfl⟩
theorem okLeaf_num (N I : Int) (D : ByteArray) : okLeaf N I D = (numOk N && (decide (0 ≤ I) && (decide (I < 4096) && decide (D.size ≤ 104)))) := by
  unfold okLeaf numOk
  simp only [Bool.and_assoc]
set_option maxRecDepth 100000 in
theorem canBe_any (N I : Int) (D : ByteArray) (W : World) : Calls Try.prog 52 #[leafA N I D] W fun e W' => e = .returned (.bool (okLeaf N I D)) ∧ Below W.heap.size W W' := by
  have hN := Lib.hid (fun W => isNumber_any N W)
  have hok := Lib.hid (okLeaf_num N I D)
  unfold leafA
  generalize okLeaf N I D = B at *
  generalize numOk N = b at *
  have hbl : Below W.heap.size W (W.alloc (.cells #[.int .i64 N, .int .i64 I, .string D] 49)) := (Below.refl _ _).alloc (Nat.le_refl _) _
  replace hbl := Lib.hid hbl
  cases b
  · go_enter Try.func52, Try.ntmps52
    go_wp2_with (go_at_call 44; refine (hN.out _).mono ?_; rintro e W1 ⟨rfl, rfl⟩)
    go_ret
    exact ⟨by rw [hok.out]; rfl, hbl.out⟩
  · by_cases h0 : 0 ≤ I
    · by_cases h1 : I < 4096
      · have e : decide (((D.size : Nat) : Int) ≤ 104) = B := by
          rw [hok.out, decide_eq_true h0, decide_eq_true h1]
          simp only [Bool.true_and]
          exact decide_eq_decide.mpr (by omega)
        replace e := Lib.hid e
        go_enter Try.func52, Try.ntmps52
        go_wp2_with (go_at_call 44; refine (hN.out _).mono ?_; rintro e W1 ⟨rfl, rfl⟩)
        all_goals (go_ret; exact ⟨by rw [← e.out]; rfl, hbl.out⟩)
      · have e := Lib.hid (show B = false by rw [hok.out, decide_eq_false h1]; simp)
        go_enter Try.func52, Try.ntmps52
        go_wp2_with (go_at_call 44; refine (hN.out _).mono ?_; rintro e W1 ⟨rfl, rfl⟩)
        all_goals (go_ret; exact ⟨by rw [e.out]; rfl, hbl.out⟩)
    · have e := Lib.hid (show B = false by rw [hok.out, decide_eq_false h0]; simp)
      go_enter Try.func52, Try.ntmps52
      go_wp2_with (go_at_call 44; refine (hN.out _).mono ?_; rintro e W1 ⟨rfl, rfl⟩)
      all_goals (go_ret; exact ⟨by rw [e.out]; rfl, hbl.out⟩)
/-- How many sectors. -/
theorem countN_form (n : Int) : ((countN n.toNat : Nat) : Int) = (max n 1 - 1) / 104 + 1 := by
  unfold countN
  split <;> omega
set_option maxRecDepth 100000 in
theorem count_any (n : Int) (W : World) (h2 : n ≤ 9223372036854775807) :
    Calls Try.prog 50 #[.int .i64 n] W fun e W' => e = .returned (.int .i64 ((countN n.toNat : Nat) : Int)) ∧ Below W.heap.size W W' := by
  have hc := Lib.hid (countN_form n)
  generalize ((countN n.toNat : Nat) : Int) = c at *
  obtain ⟨m, hm⟩ : ∃ m, max n 1 = m := ⟨_, rfl⟩
  have hm2 : 1 ≤ m ∧ m ≤ 9223372036854775807 := by omega
  rw [hm] at hc
  have he : wrap64 (wrap64 ((wrap64 (m - 1)).tdiv 104) + 1) = c := by
    have a1 : wrap64 (m - 1) = m - 1 := by unfold wrap64; omega
    rw [a1, Int.tdiv_eq_ediv_of_nonneg (by omega), hc.out]
    unfold wrap64; omega
  replace he := Lib.hid he
  replace hm := Lib.hid hm
  clear h2 hc hm2
  go_enter Try.func50, Try.ntmps50
  go_wp2
  rw [hm.out, he.out]
  go_ret
  exact ⟨rfl, Below.refl _ _⟩
/-- Places. -/
def placeB (st : St) (fr upto : Int) : Bool := decide (0 ≤ fr) && (decide (fr ≤ upto) && decide (upto ≤ ((st.safe.length : Nat) : Int)))
set_option maxRecDepth 100000 in
theorem arePlaces_any {Dk : (Nat → Prop) → World → Nat → St → Prop} (K : LandedDk Dk) {F : Nat → Prop} {W : World} {p : Nat} {st : St} (h : Dk F W p st) (hok : st.Ok) (fr upto : Int) :
    Calls Try.prog 49 #[.pointer (some ⟨p, 0, none⟩), .int .i64 fr, .int .i64 upto] W fun e W' => e = .returned (.bool (placeB st fr upto)) ∧ Below W.heap.size W W' := by
  have hS := Lib.hid (K.sectors F W p st h hok)
  have hB := Lib.hid (show placeB st fr upto = (decide (0 ≤ fr) && (decide (fr ≤ upto) && decide (upto ≤ ((st.safe.length : Nat) : Int)))) from rfl)
  generalize placeB st fr upto = B at *
  by_cases h0 : 0 ≤ fr
  · by_cases h1 : fr ≤ upto
    · have e := Lib.hid (show decide (upto ≤ ((st.safe.length : Nat) : Int)) = B by rw [hB.out, decide_eq_true h0, decide_eq_true h1]; rfl)
      clear hB
      go_enter Try.func49, Try.ntmps49
      go_wp2_with (go_at_call 42; refine hS.out.mono ?_; rintro e W1 ⟨rfl, hb⟩)
      all_goals (go_ret; exact ⟨by rw [← e.out]; rfl, hb⟩)
    · have e := Lib.hid (show B = false by rw [hB.out, decide_eq_false h1]; simp)
      clear hB
      go_enter Try.func49, Try.ntmps49
      go_wp2_with (fail)
      all_goals (go_ret; exact ⟨by rw [e.out]; rfl, Below.refl _ _⟩)
  · have e := Lib.hid (show B = false by rw [hB.out, decide_eq_false h0]; simp)
    clear hB
    go_enter Try.func49, Try.ntmps49
    go_wp2_with (fail)
    all_goals (go_ret; exact ⟨by rw [e.out]; rfl, Below.refl _ _⟩)
end Go.Proofs.Ytgolddcmhjdmdaa
