/- The document's sectors of layer 5, walked. -/
/- What the walks of stage 5's laws ask of the landed sectors; a leaf's value; the question that each law asks first. -/
/- The landed sectors' small calls: what can be, places, how many sectors. No condition but that numbers are such. -/
import Derived.Test.YtmhafgginbeihaaZPl
import Derived.Test.YtmhafgginbeihaaZQp
import Derived.Test.YtmhafgginbeihaaZQt
import Derived.Lib.QuietBelow
import Derived.Laws.StructEq
import Derived.Lib.MinMax
namespace Go.Proofs.Ytmhafgginbeihaa
open Go.RowKit Go.Sort Cr

theorem zeros_snoc (k : Nat) : zerosB k ++ ⟨#[0]⟩ = zerosB (k + 1) := by
  apply ByteArray.ext
  rw [ByteArray.data_append]
  show (List.replicate k (0 : UInt8)).toArray ++ #[0] = (List.replicate (k + 1) (0 : UInt8)).toArray
  apply Array.toList_inj.mp
  rw [Array.toList_append, List.toList_toArray, List.toList_toArray, List.replicate_succ']
/-- A sector's beginning, ahead of the noughts. -/
def headB (N I : Int) (D : ByteArray) : ByteArray := intB 8 N ++ intB 2 I ++ intB 2 ((D.size : Nat) : Int) ++ D
theorem headB_size (N I : Int) (D : ByteArray) : (headB N I D).size = 12 + D.size := by
  unfold headB
  rw [ByteArray.size_append, ByteArray.size_append, ByteArray.size_append, int8_size, int2_size, int2_size]
theorem headB_body (N I : Int) (D : ByteArray) : headB N I D ++ zerosB (104 - D.size) = bodyB N I D := by
  unfold headB bodyB
  simp only [ByteArray.append_assoc]
def lenOf : Value → Nat
  | .string s => s.size
  | _ => 0
theorem zeros_none (s : ByteArray) : s ++ zerosB 0 = s := ByteArray.append_empty

set_option maxRecDepth 100000 in
set_option maxHeartbeats 1000000 in
theorem refsec_any (N I : Int) (D : ByteArray) (hD : D.size ≤ 104) (w : World) :
    Calls Try.prog 42 #[.int .i64 N, .int .i64 I, .string D] w fun e w' => e = .returned (.string (secB N I D)) ∧ Below w.heap.size w w' := by
  have c1 := Lib.hid (refint_any 8 N)
  have c2 := Lib.hid (refint_any 2 I)
  have c3 := Lib.hid (refint_any 2 ((D.size : Nat) : Int))
  have hbs := bodyB_size (N := N) (I := I) hD
  have c4 := Lib.hid (fun W => refsum_any 0 (by rw [W_eq]; decide) (bodyB N I D) (by omega) W)
  have c5 := Lib.hid (fun W => refbytes4_any (sumC 0 (bytesC (bodyB N I D))) (sumC_lt 0 _) W)
  have hsec := Lib.hid (show secB N I D = bodyB N I D ++ fourT (sumC 0 (bytesC (bodyB N I D))) ++ intB 8 N from by unfold secB; rw [ByteArray.append_assoc])
  have hhead := Lib.hid (show headB N I D = intB 8 N ++ intB 2 I ++ intB 2 ((D.size : Nat) : Int) ++ D from rfl)
  have hhb := Lib.hid (headB_body N I D)
  have hhs := headB_size N I D
  have s1 := int8_size N
  have s2 := int2_size I
  have s3 := int2_size ((D.size : Nat) : Int)
  have s4 := fourT_size (sumC 0 (bytesC (bodyB N I D)))
  have q1 : (intB 8 N ++ intB 2 I).size = 10 := by rw [ByteArray.size_append]; omega
  have q2 : (intB 8 N ++ intB 2 I ++ intB 2 ((D.size : Nat) : Int)).size = 12 := by rw [ByteArray.size_append]; omega
  have q3 : (bodyB N I D ++ fourT (sumC 0 (bytesC (bodyB N I D)))).size = 120 := by rw [ByteArray.size_append]; omega
  go_enter Try.func42, Try.ntmps42
  go_wp2_with fail
  refine (c1.out _).mono ?_
  rintro e w1 ⟨rfl, hb⟩
  go_wp2_with fail
  refine (c2.out _).mono ?_
  rintro e w2 ⟨rfl, hb2⟩
  replace hb := hb.trans (hb2.mono hb.size)
  clear hb2
  go_wp2_with fail
  refine (c3.out _).mono ?_
  rintro e w3 ⟨rfl, hb2⟩
  replace hb := hb.trans (hb2.mono hb.size)
  clear hb2
  go_wp2_with fail
  rw [← hhead.out]
  generalize headB N I D = hd at *
  go_loopw [7] (fun s wr => ∃ k : Nat, k ≤ 104 - D.size ∧ s = .string (hd ++ zerosB k) ∧ w3 = wr) (fun s _ => 116 - lenOf s)
  case atStart => exact ⟨0, by omega, by rw [zeros_none], rfl⟩
  case round =>
    obtain ⟨k, hk, rfl, rfl⟩ := hrel
    have hz := zerosB_size k
    have hsz : (hd ++ zerosB k).size = 12 + D.size + k := by rw [ByteArray.size_append]; omega
    by_cases hlt : k < 104 - D.size
    · have hsn := Lib.hid (show hd ++ zerosB k ++ ⟨#[0]⟩ = hd ++ zerosB (k + 1) from by rw [ByteArray.append_assoc, zeros_snoc])
      have hsz2 : (hd ++ zerosB (k + 1)).size = 12 + D.size + (k + 1) := by rw [ByteArray.size_append, zerosB_size]; omega
      have h1 : (⟨#[0]⟩ : ByteArray).size = 1 := rfl
      have hlt2 : ((12 + D.size + k : Nat) : Int) < 116 := by omega
      go_wp2
      rw [hsn.out]
      exact ⟨⟨k + 1, by omega, rfl, by first | trivial | rfl⟩, by simp only [lenOf]; omega⟩
    · obtain rfl : k = 104 - D.size := by omega
      rw [hhb.out]
      generalize bodyB N I D = bd at *
      go_wp2_with fail
      refine (c4.out _).mono ?_
      rintro e w4 ⟨rfl, rfl⟩
      go_wp2_with fail
      refine (c5.out _).mono ?_
      rintro e w5 ⟨rfl, hb2⟩
      replace hb := hb.trans (hb2.mono hb.size)
      clear hb2
      go_wp2_with fail
      refine (c1.out _).mono ?_
      rintro e w6 ⟨rfl, hb2⟩
      replace hb := hb.trans (hb2.mono hb.size)
      clear hb2
      go_wp2
      go_ret
      exact ⟨by rw [hsec.out]; rfl, hb⟩

end Go.Proofs.Ytmhafgginbeihaa
namespace Go.Proofs.Ytmhafgginbeihaa
open Go.RowKit Go.Sort Cr

def leafA (N I : Int) (D : ByteArray) : Value := .agg #[.int .i64 N, .int .i64 I, .string D]
/-- What a sector is read as, as a value; an empty leaf, if nothing. -/
def leafV : Option (Int × Int × ByteArray) → Value
  | some x => leafA x.1 x.2.1 x.2.2
  | none => leafA 0 0 ⟨#[]⟩
def bytesS (N I : Int) (D : ByteArray) : ByteArray := if okLeaf N I D = true then secB N I D else ⟨#[]⟩
def bytesE (N I : Int) (D : ByteArray) : Int := if okLeaf N I D = true then 0 else 1
/-- A text, or none. -/
def textO : Option ByteArray → ByteArray
  | some t => t
  | none => ⟨#[]⟩
structure LandedSt (Dk : (Nat → Prop) → World → Nat → St → Prop) : Prop where
  bytes : ∀ (N I : Int) (D : ByteArray) W, D.size ≤ 140737488351232 →
    Calls Try.prog 46 #[leafA N I D] W fun e W' => e = .returned (.tuple #[.string (bytesS N I D), .int .i64 (bytesE N I D)]) ∧ Below W.heap.size W W'
  read : ∀ (s : ByteArray) W, s.size ≤ 140737488351232 →
    Calls Try.prog 29 #[.string s] W fun e W' => e = .returned (.tuple #[leafV (leafOf s), .bool (leafOf s).isSome]) ∧ Below W.heap.size W W'
  count : ∀ (n : Int) W, -9223372036854775808 ≤ n → n ≤ 9223372036854775807 →
    Calls Try.prog 48 #[.int .i64 n] W fun e W' => e = .returned (.int .i64 ((countN n.toNat : Nat) : Int)) ∧ Below W.heap.size W W'
  great : ∀ F W p st, Dk F W p st → st.Ok →
    Calls Try.prog 17 #[.pointer (some ⟨p, 0, none⟩)] W fun e W' => e = .returned (.int .i64 st.great) ∧ Below W.heap.size W W'
  lay : ∀ F W p st (fr upto N : Int) (s : ByteArray), Dk F W p st → st.Room (countN s.size) → s.size ≤ 140737488351232 →
    Calls Try.prog 51 #[.pointer (some ⟨p, 0, none⟩), .int .i64 fr, .int .i64 upto, .int .i64 N, .string s] W fun e W' => e = .returned (.int .i64 (st.lay fr upto N s).1) ∧ DkPost Dk F p (st.lay fr upto N s).2 W W'
  take : ∀ F W p st (fr upto N size : Int), Dk F W p st → st.Ok → size ≤ 9223372036854775807 →
    Calls Try.prog 47 #[.pointer (some ⟨p, 0, none⟩), .int .i64 fr, .int .i64 upto, .int .i64 N, .int .i64 size] W fun e W' =>
      e = .returned (.tuple #[.string (textO (st.take fr upto N size)), .bool (st.take fr upto N size).isSome]) ∧ Below W.heap.size W W'

end Go.Proofs.Ytmhafgginbeihaa
namespace Go.Proofs.Ytmhafgginbeihaa
open Go.RowKit Go.Sort Cr

def numOk (n : Int) : Bool := decide (1 ≤ n) && decide (n ≤ 1152921504606846976)
set_option maxRecDepth 100000 in
theorem isNumber_any (n : Int) (W : World) : Calls Try.prog 40 #[.int .i64 n] W fun e W' => e = .returned (.bool (numOk n)) ∧ W = W' := by
  by_cases h : 1 ≤ n
  · have hb : decide (n ≤ 1152921504606846976) = numOk n := by unfold numOk; rw [decide_eq_true h]; rfl
    replace hb := Lib.hid hb
    go_enter Try.func40, Try.ntmps40
    go_wp2
    go_ret
    exact ⟨by rw [← hb.out]; rfl, rfl⟩
  · have hb := Lib.hid (show numOk n = false by unfold numOk; rw [decide_eq_false h]; rfl)
    go_enter Try.func40, Try.ntmps40
    go_wp2
    go_ret
    exact ⟨by rw [hb.out]; rfl, rfl⟩
theorem okLeaf_num (N I : Int) (D : ByteArray) : okLeaf N I D = (numOk N && (decide (0 ≤ I) && (decide (I < 4096) && decide (D.size ≤ 104)))) := by
  unfold okLeaf numOk
  simp only [Bool.and_assoc]
set_option maxRecDepth 100000 in
theorem canBe_any (N I : Int) (D : ByteArray) (W : World) : Calls Try.prog 58 #[leafA N I D] W fun e W' => e = .returned (.bool (okLeaf N I D)) ∧ Below W.heap.size W W' := by
  have hN := Lib.hid (fun W => isNumber_any N W)
  have hok := Lib.hid (okLeaf_num N I D)
  unfold leafA
  generalize okLeaf N I D = B at *
  generalize numOk N = b at *
  have hbl : Below W.heap.size W (W.alloc (.cells #[.int .i64 N, .int .i64 I, .string D] 52)) := (Below.refl _ _).alloc (Nat.le_refl _) _
  replace hbl := Lib.hid hbl
  cases b
  · go_enter Try.func58, Try.ntmps58
    go_wp2_with (go_at_call 40; refine (hN.out _).mono ?_; rintro e W1 ⟨rfl, rfl⟩)
    go_ret
    exact ⟨by rw [hok.out]; rfl, hbl.out⟩
  · by_cases h0 : 0 ≤ I
    · by_cases h1 : I < 4096
      · have e : decide (((D.size : Nat) : Int) ≤ 104) = B := by
          rw [hok.out, decide_eq_true h0, decide_eq_true h1]
          simp only [Bool.true_and]
          exact decide_eq_decide.mpr (by omega)
        replace e := Lib.hid e
        go_enter Try.func58, Try.ntmps58
        go_wp2_with (go_at_call 40; refine (hN.out _).mono ?_; rintro e W1 ⟨rfl, rfl⟩)
        all_goals (go_ret; exact ⟨by rw [← e.out]; rfl, hbl.out⟩)
      · have e := Lib.hid (show B = false by rw [hok.out, decide_eq_false h1]; simp)
        go_enter Try.func58, Try.ntmps58
        go_wp2_with (go_at_call 40; refine (hN.out _).mono ?_; rintro e W1 ⟨rfl, rfl⟩)
        all_goals (go_ret; exact ⟨by rw [e.out]; rfl, hbl.out⟩)
    · have e := Lib.hid (show B = false by rw [hok.out, decide_eq_false h0]; simp)
      go_enter Try.func58, Try.ntmps58
      go_wp2_with (go_at_call 40; refine (hN.out _).mono ?_; rintro e W1 ⟨rfl, rfl⟩)
      all_goals (go_ret; exact ⟨by rw [e.out]; rfl, hbl.out⟩)
/-- How many sectors. -/
theorem countN_form (n : Int) : ((countN n.toNat : Nat) : Int) = (max n 1 - 1) / 104 + 1 := by
  unfold countN
  split <;> omega
set_option maxRecDepth 100000 in
theorem count_any (n : Int) (W : World) (h2 : n ≤ 9223372036854775807) :
    Calls Try.prog 48 #[.int .i64 n] W fun e W' => e = .returned (.int .i64 ((countN n.toNat : Nat) : Int)) ∧ Below W.heap.size W W' := by
  have hc := Lib.hid (countN_form n)
  generalize ((countN n.toNat : Nat) : Int) = c at *
  obtain ⟨m, hm⟩ : ∃ m, max n 1 = m := ⟨_, rfl⟩
  have hm2 : 1 ≤ m ∧ m ≤ 9223372036854775807 := by omega
  rw [hm] at hc
  have he : wrap64 (wrap64 ((wrap64 (m - 1)).tdiv 104) + 1) = c := by
    have a1 : wrap64 (m - 1) = m - 1 := by unfold wrap64; omega
    rw [a1, Int.tdiv_eq_ediv_of_nonneg (by omega), hc.out]
    unfold wrap64; omega
  replace he := Lib.hid he
  replace hm := Lib.hid hm
  clear h2 hc hm2
  go_enter Try.func48, Try.ntmps48
  go_wp2
  rw [hm.out, he.out]
  go_ret
  exact ⟨rfl, Below.refl _ _⟩
/-- Places. -/
def placeB (st : St) (fr upto : Int) : Bool := decide (0 ≤ fr) && (decide (fr ≤ upto) && decide (upto ≤ ((st.safe.length : Nat) : Int)))
set_option maxRecDepth 100000 in
theorem arePlaces_any {Dk : (Nat → Prop) → World → Nat → St → Prop} (K : LandedDk Dk) {F : Nat → Prop} {W : World} {p : Nat} {st : St} (h : Dk F W p st) (hok : st.Ok) (fr upto : Int) :
    Calls Try.prog 62 #[.pointer (some ⟨p, 0, none⟩), .int .i64 fr, .int .i64 upto] W fun e W' => e = .returned (.bool (placeB st fr upto)) ∧ Below W.heap.size W W' := by
  have hS := Lib.hid (K.sectors F W p st h hok)
  have hB := Lib.hid (show placeB st fr upto = (decide (0 ≤ fr) && (decide (fr ≤ upto) && decide (upto ≤ ((st.safe.length : Nat) : Int)))) from rfl)
  generalize placeB st fr upto = B at *
  by_cases h0 : 0 ≤ fr
  · by_cases h1 : fr ≤ upto
    · have e := Lib.hid (show decide (upto ≤ ((st.safe.length : Nat) : Int)) = B by rw [hB.out, decide_eq_true h0, decide_eq_true h1]; rfl)
      clear hB
      go_enter Try.func62, Try.ntmps62
      go_wp2_with (go_at_call 31; refine hS.out.mono ?_; rintro e W1 ⟨rfl, hb⟩)
      all_goals (go_ret; exact ⟨by rw [← e.out]; rfl, hb⟩)
    · have e := Lib.hid (show B = false by rw [hB.out, decide_eq_false h1]; simp)
      clear hB
      go_enter Try.func62, Try.ntmps62
      go_wp2_with (fail)
      all_goals (go_ret; exact ⟨by rw [e.out]; rfl, Below.refl _ _⟩)
  · have e := Lib.hid (show B = false by rw [hB.out, decide_eq_false h0]; simp)
    clear hB
    go_enter Try.func62, Try.ntmps62
    go_wp2_with (fail)
    all_goals (go_ret; exact ⟨by rw [e.out]; rfl, Below.refl _ _⟩)
end Go.Proofs.Ytmhafgginbeihaa
