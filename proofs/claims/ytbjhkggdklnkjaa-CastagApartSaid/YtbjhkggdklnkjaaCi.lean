/- CastagIs' walk, out of the landed contracts. -/
import Derived.Test.YtbjhkggdklnkjaaCl
namespace Go.Proofs.Ytbjhkggdklnkjaa
open Go.RowKit Go.Sort Cr

/-- The sum that a text's first four bytes are. -/
def fromN (s : ByteArray) : Nat := if 4 ≤ s.size then (match bytesC s with | a :: b :: c :: d :: _ => wordN a b c d | _ => 0) else 0
theorem fromN_four {c : Nat} (h : c < W) (s : ByteArray) : fromN (fourT c ++ s) = c := by
  unfold fromN
  rw [if_pos (by rw [ByteArray.size_append, fourT_size]; omega), bytesC_append, bytesC_fourT h]
  exact wordN_of h
/-- The landed FromBytes' contract. -/
structure LandedFrom (L : World → Prop) : Prop where
  from' : ∀ s : ByteArray, s.size ≤ maxLen → ∀ w, L w →
    Calls Try.prog 10 #[.string s] w fun e w' => e = .returned (.tuple #[.int .u32 ((fromN s : Nat) : Int), .bool (decide (4 ≤ s.size))]) ∧ Below w.heap.size w w'

set_option maxRecDepth 100000 in
set_option maxHeartbeats 1000000 in
theorem castagIs_any {L : World → Prop} (K : Landed L) (F : LandedFrom L) (a : Nat) (ha : a < W) (s : ByteArray) (hm2 : s.size ≤ maxLen) (w : World) (hL : L w) :
    Calls Try.prog 3 #[.int .u32 ((a : Nat) : Int), .string s] w fun e w' => e = .returned (.bool true) ∧ Below w.heap.size w w' := by
  unfold maxLen at hm2
  have hal := Lib.hid (fun w hL => alive2_any K w hL)
  have hlat := Lib.hid K.later
  by_cases hq : s.size ≤ 2048
  · have hlt := sumC_lt a (bytesC s)
    have hsum := Lib.hid (fun w hL => K.sum a s ha (by omega) w hL)
    have hrs := Lib.hid (fun w => refsum_any a ha s (by omega) w)
    generalize sumC a (bytesC s) = c at *
    have hby := Lib.hid (fun w hL => K.bytes c hlt w hL)
    have hrb := Lib.hid (fun w => refbytes4_any c hlt w)
    have hf4 := fromN_four hlt s
    have hfa := Lib.hid (fun w hL => F.from' (fourT c ++ s) (by rw [ByteArray.size_append, fourT_size]; unfold maxLen; omega) w hL)
    rw [hf4] at hfa
    have hd : decide (4 ≤ (fourT c ++ s).size) = true := decide_eq_true (by rw [ByteArray.size_append, fourT_size]; omega)
    rw [hd] at hfa
    have hfs := Lib.hid (fun w hL => F.from' s (by unfold maxLen; omega) w hL)
    clear hd hf4
    have hs4 := fourT_size c
    generalize fourT c = tx at *
    have Hlt := Lib.hid hlt
    clear hlt
    go_enter Try.func3, Try.ntmps3
    go_wp2_with fail
    refine (hal.out _ hL).mono ?_
    rintro e w1 ⟨rfl, hb1⟩
    replace hL := hlat.out _ _ hL hb1
    go_wp2_with fail
    refine (hsum.out _ hL).mono ?_
    rintro e w2 ⟨rfl, hb2⟩
    replace hL := hlat.out _ _ hL hb2
    replace hb1 := hb1.trans (hb2.mono hb1.size)
    clear hb2
    go_wp2_with fail
    refine (hby.out _ hL).mono ?_
    rintro e w3 ⟨rfl, hb2⟩
    replace hL := hlat.out _ _ hL hb2
    replace hb1 := hb1.trans (hb2.mono hb1.size)
    clear hb2
    go_wp2_with fail
    refine (hfa.out _ hL).mono ?_
    rintro e w4 ⟨rfl, hb2⟩
    replace hL := hlat.out _ _ hL hb2
    replace hb1 := hb1.trans (hb2.mono hb1.size)
    clear hb2
    go_wp2_with fail
    refine (hfs.out _ hL).mono ?_
    rintro e w5 ⟨rfl, hb2⟩
    replace hL := hlat.out _ _ hL hb2
    replace hb1 := hb1.trans (hb2.mono hb1.size)
    clear hb2
    go_wp2_with fail
    refine (hrs.out _).mono ?_
    rintro e w6 ⟨rfl, rfl⟩
    go_wp2_with fail
    refine (hby.out _ hL).mono ?_
    rintro e w7 ⟨rfl, hb2⟩
    replace hL := hlat.out _ _ hL hb2
    replace hb1 := hb1.trans (hb2.mono hb1.size)
    clear hb2
    go_wp2_with fail
    refine (hrb.out _).mono ?_
    rintro e w8 ⟨rfl, hb2⟩
    replace hb1 := hb1.trans (hb2.mono hb1.size)
    clear hb2
    go_wp2
    all_goals (go_ret; exact ⟨by simp; try omega, hb1⟩)
  · have hq2 : 2048 < ((s.size : Nat) : Int) := by omega
    clear hq
    go_enter Try.func3, Try.ntmps3
    go_wp2_with fail
    refine (hal.out _ hL).mono ?_
    rintro e w1 ⟨rfl, hb1⟩
    go_wp2
    go_ret
    exact ⟨rfl, hb1⟩
end Go.Proofs.Ytbjhkggdklnkjaa
