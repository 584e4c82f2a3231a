/- The document's sectors of layer 5, walked. -/
/- What the walks of stage 5's laws ask of the landed sectors; a leaf's value; the question that each law asks first. -/
import Derived.Test.YtgolddcmhjdmdaaZPl
import Derived.Test.YtgolddcmhjdmdaaZQp
import Derived.Test.YtgolddcmhjdmdaaZQt
import Derived.Lib.QuietBelow
import Derived.Laws.StructEq
namespace Go.Proofs.Ytgolddcmhjdmdaa
open Go.RowKit Go.Sort Cr

theorem zeros_snoc (k : Nat) : zerosB k ++ ⟨#[0]⟩ = zerosB (k + 1) := by
  apply ByteArray.ext
  rw [ByteArray.data_append]
  show (List.replicate k (0 : UInt8)).toArray ++ #[0] = (List.replicate (k + 1) (0 : UInt8)).toArray
  apply Array.toList_inj.mp
  rw [Array.toList_append, List.toList_toArray, List.toList_toArray, List.replicate_succ']
/-- A sector's beginning, ahead of the noughts. -/
def headB (N I : Int) (D : ByteArray) : ByteArray := intB 8 N ++ intB 2 I ++ intB 2 ((D.size : Nat) : Int) ++ D
theorem headB_size (N I : Int) (D : ByteArray) : (headB N I D).size = 12 + D.size := by
  unfold headB
  rw [ByteArray.size_append, ByteArray.size_append, ByteArray.size_append, int8_size, int2_size, int2_size]
theorem headB_body (N I : Int) (D : ByteArray) : headB N I D ++ zerosB (104 - D.size) = bodyB N I D := by
  unfold headB bodyB
  simp only [ByteArray.append_assoc]
def lenOf : Value → Nat
  | .string s => s.size
  | _ => 0
theorem zeros_none (s : ByteArray) : s ++ zerosB 0 = s := ByteArray.append_empty

set_option maxRecDepth 100000 in
set_option maxHeartbeats 1000000 in
theorem refsec_any (N I : Int) (D : ByteArray) (hD : D.size ≤ 104) (w : World) :
    Calls Try.prog 21 #[.int .i64 N, .int .i64 I, .string D] w fun e w' => e = .returned (.string (secB N I D)) ∧ Below w.heap.size w w' := by
  have c1 := Lib.hid (refint_any 8 N)
  have c2 := Lib.hid (refint_any 2 I)
  have c3 := Lib.hid (refint_any 2 ((D.size : Nat) : Int))
  have hbs := bodyB_size (N := N) (I := I) hD
  have c4 := Lib.hid (fun W => refsum_any 0 (by rw [W_eq]; decide) (bodyB N I D) (by omega) W)
  have c5 := Lib.hid (fun W => refbytes4_any (sumC 0 (bytesC (bodyB N I D))) (sumC_lt 0 _) W)
  have hsec := Lib.hid (show secB N I D = bodyB N I D ++ fourT (sumC 0 (bytesC (bodyB N I D))) ++ intB 8 N from by unfold secB; rw [ByteArray.append_assoc])
  have hhead := Lib.hid (show headB N I D = intB 8 N ++ intB 2 I ++ intB 2 ((D.size : Nat) : Int) ++ D from rfl)
  have hhb := Lib.hid (headB_body N I D)
  have hhs := headB_size N I D
  have s1 := int8_size N
  have s2 := int2_size I
  have s3 := int2_size ((D.size : Nat) : Int)
  have s4 := fourT_size (sumC 0 (bytesC (bodyB N I D)))
  have q1 : (intB 8 N ++ intB 2 I).size = 10 := by rw [ByteArray.size_append]; omega
  have q2 : (intB 8 N ++ intB 2 I ++ intB 2 ((D.size : Nat) : Int)).size = 12 := by rw [ByteArray.size_append]; omega
  have q3 : (bodyB N I D ++ fourT (sumC 0 (bytesC (bodyB N I D)))).size = 120 := by rw [ByteArray.size_append]; omega
  go_enter Try.func21, Try.ntmps21
  go_wp2_with fail
  refine (c1.out _).mono ?_
  rintro e w1 ⟨rfl, hb⟩
  go_wp2_with fail
  refine (c2.out _).mono ?_
  rintro e w2 ⟨rfl, hb2⟩
  replace hb := hb.trans (hb2.mono hb.size)
  clear hb2
  go_wp2_with fail
  refine (c3.out _).mono ?_
  rintro e w3 ⟨rfl, hb2⟩
  replace hb := hb.trans (hb2.mono hb.size)
  clear hb2
  go_wp2_with fail
  rw [← hhead.out]
  generalize headB N I D = hd at *
  go_loopw [7] (fun s wr => ∃ k : Nat, k ≤ 104 - D.size ∧ s = .string (hd ++ zerosB k) ∧ w3 = wr) (fun s _ => 116 - lenOf s)
  case atStart => exact ⟨0, by omega, by rw [zeros_none], rfl⟩
  case round =>
    obtain ⟨k, hk, rfl, rfl⟩ := hrel
    have hz := zerosB_size k
    have hsz : (hd ++ zerosB k).size = 12 + D.size + k := by rw [ByteArray.size_append]; omega
    by_cases hlt : k < 104 - D.size
    · have hsn := Lib.hid (show hd ++ zerosB k ++ ⟨#[0]⟩ = hd ++ zerosB (k + 1) from by rw [ByteArray.append_assoc, zeros_snoc])
      have hsz2 : (hd ++ zerosB (k + 1)).size = 12 + D.size + (k + 1) := by rw [ByteArray.size_append, zerosB_size]; omega
      have h1 : (⟨#[0]⟩ : ByteArray).size = 1 := rfl
      have hlt2 : ((12 + D.size + k : Nat) : Int) < 116 := by omega
      go_wp2
      rw [hsn.out]
      exact ⟨⟨k + 1, by omega, rfl, by first | trivial | rfl⟩, by simp only [lenOf]; omega⟩
    · obtain rfl : k = 104 - D.size := by omega
      rw [hhb.out]
      generalize bodyB N I D = bd at *
      go_wp2_with fail
      refine (c4.out _).mono ?_
      rintro e w4 ⟨rfl, rfl⟩
      go_wp2_with fail
      refine (c5.out _).mono ?_
      rintro e w5 ⟨rfl, hb2⟩
      replace hb := hb.trans (hb2.mono hb.size)
      clear hb2
      go_wp2_with fail
      refine (c1.out _).mono ?_
      rintro e w6 ⟨rfl, hb2⟩
      replace hb := hb.trans (hb2.mono hb.size)
      clear hb2
      go_wp2
      go_ret
      exact ⟨by rw [hsec.out]; rfl, hb⟩

end Go.Proofs.Ytgolddcmhjdmdaa
namespace Go.Proofs.Ytgolddcmhjdmdaa
open Go.RowKit Go.Sort Cr

def leafA (N I : Int) (D : ByteArray) : Value := .agg #[.int .i64 N, .int .i64 I, .string D]
/-- What a sector is read as, as a value; an empty leaf, if nothing. -/
def leafV : Option (Int × Int × ByteArray) → Value
  | some x => leafA x.1 x.2.1 x.2.2
  | none => leafA 0 0 ⟨#[]⟩
def bytesS (N I : Int) (D : ByteArray) : ByteArray := if okLeaf N I D = true then secB N I D else ⟨#[]⟩
def bytesE (N I : Int) (D : ByteArray) : Int := if okLeaf N I D = true then 0 else 1
structure LandedSt (Dk : (Nat → Prop) → World → Nat → St → Prop) : Prop where
  bytes : ∀ (N I : Int) (D : ByteArray) W, D.size ≤ 140737488351232 →
    Calls Try.prog 46 #[leafA N I D] W fun e W' => e = .returned (.tuple #[.string (bytesS N I D), .int .i64 (bytesE N I D)]) ∧ Below W.heap.size W W'
  read : ∀ (s : ByteArray) W, s.size ≤ 140737488351232 →
    Calls Try.prog 24 #[.string s] W fun e W' => e = .returned (.tuple #[leafV (leafOf s), .bool (leafOf s).isSome]) ∧ Below W.heap.size W W'
  count : ∀ (n : Int) W, -9223372036854775808 ≤ n → n ≤ 9223372036854775807 →
    Calls Try.prog 50 #[.int .i64 n] W fun e W' => e = .returned (.int .i64 ((countN n.toNat : Nat) : Int)) ∧ Below W.heap.size W W'
  great : ∀ F W p st, Dk F W p st → st.Ok →
    Calls Try.prog 22 #[.pointer (some ⟨p, 0, none⟩)] W fun e W' => e = .returned (.int .i64 st.great) ∧ Below W.heap.size W W'
  lay : ∀ F W p st (fr upto N : Int) (s : ByteArray), Dk F W p st → st.Room (countN s.size) → s.size ≤ 140737488351232 →
    Calls Try.prog 35 #[.pointer (some ⟨p, 0, none⟩), .int .i64 fr, .int .i64 upto, .int .i64 N, .string s] W fun e W' => e = .returned (.int .i64 (st.lay fr upto N s).1) ∧ DkPost Dk F p (st.lay fr upto N s).2 W W'
end Go.Proofs.Ytgolddcmhjdmdaa
