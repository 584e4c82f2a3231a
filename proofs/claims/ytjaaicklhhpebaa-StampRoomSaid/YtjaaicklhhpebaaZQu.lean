/- What the walks of stage 5's laws ask of the landed sectors; a leaf's value; the question that each law asks first. -/
import Derived.Test.YtjaaicklhhpebaaZPl
import Derived.Test.YtjaaicklhhpebaaZQt
import Derived.Test.YtjaaicklhhpebaaZQr
import Derived.Laws.StructEq
namespace Go.Proofs.Ytjaaicklhhpebaa
open Go.RowKit Go.Sort Cr

def leafA (N I : Int) (D : ByteArray) : Value := .agg #[.int .i64 N, .int .i64 I, .string D]
/-- What a sector is read as, as a value; an empty leaf, if nothing. -/
def leafV : Option (Int × Int × ByteArray) → Value
  | some x => leafA x.1 x.2.1 x.2.2
  | none => leafA 0 0 ⟨#[]⟩
def bytesS (N I : Int) (D : ByteArray) : ByteArray := if okLeaf N I D = true then secB N I D else ⟨#[]⟩
def bytesE (N I : Int) (D : ByteArray) : Int := if okLeaf N I D = true then 0 else 1
/-- A text, or none. -/
def textO : Option ByteArray → ByteArray
  | some t => t
  | none => ⟨#[]⟩
structure LandedSt (Dk : (Nat → Prop) → World → Nat → St → Prop) : Prop where
  bytes : ∀ (N I : Int) (D : ByteArray) W, D.size ≤ 140737488351232 →
    Calls Try.prog 11 #[leafA N I D] W fun e W' => e = .returned (.tuple #[.string (bytesS N I D), .int .i64 (bytesE N I D)]) ∧ Below W.heap.size W W'
  read : ∀ (s : ByteArray) W, s.size ≤ 140737488351232 →
    Calls Try.prog 13 #[.string s] W fun e W' => e = .returned (.tuple #[leafV (leafOf s), .bool (leafOf s).isSome]) ∧ Below W.heap.size W W'
  count : ∀ (n : Int) W, -9223372036854775808 ≤ n → n ≤ 9223372036854775807 →
    Calls Try.prog 26 #[.int .i64 n] W fun e W' => e = .returned (.int .i64 ((countN n.toNat : Nat) : Int)) ∧ Below W.heap.size W W'
  great : ∀ F W p st, Dk F W p st → st.Ok →
    Calls Try.prog 23 #[.pointer (some ⟨p, 0, none⟩)] W fun e W' => e = .returned (.int .i64 st.great) ∧ Below W.heap.size W W'
  lay : ∀ F W p st (fr upto N : Int) (s : ByteArray), Dk F W p st → st.Room (countN s.size) → s.size ≤ 140737488351232 →
    Calls Try.prog 16 #[.pointer (some ⟨p, 0, none⟩), .int .i64 fr, .int .i64 upto, .int .i64 N, .string s] W fun e W' => e = .returned (.int .i64 (st.lay fr upto N s).1) ∧ DkPost Dk F p (st.lay fr upto N s).2 W W'
  take : ∀ F W p st (fr upto N size : Int), Dk F W p st → st.Ok → size ≤ 9223372036854775807 →
    Calls Try.prog 19 #[.pointer (some ⟨p, 0, none⟩), .int .i64 fr, .int .i64 upto, .int .i64 N, .int .i64 size] W fun e W' =>
      e = .returned (.tuple #[.string (textO (st.take fr upto N size)), .bool (st.take fr upto N size).isSome]) ∧ Below W.heap.size W W'

theorem sec_byte {s : ByteArray} (i : Nat) (t : ByteArray) (h : s.extract i (i + 8) = t) (j : Nat) (_hj : j < 8) (_hs : i + 8 ≤ s.size) (hi : i + j < s.size) (ht : j < t.size) : s[i + j] = t[j] := by
  subst h
  rw [ByteArray.getElem_extract]
theorem hi_ok : LeafOk 1 0 ⟨#[104, 105]⟩ := ⟨by decide, by decide, by decide⟩
theorem int8_one : intB 8 1 = ⟨#[1, 0, 0, 0, 0, 0, 0, 0]⟩ := by decide +kernel
theorem hi_first (h : 0 < (secB 1 0 ⟨#[104, 105]⟩).size) : (secB 1 0 ⟨#[104, 105]⟩)[0].toNat = 1 := by
  have hz := secB_size (N := 1) (I := 0) hi_ok.d
  have := sec_byte 0 _ ((secB_head (N := 1) (I := 0) hi_ok.d).trans int8_one) 0 (by omega) (by omega) (by omega) (by decide)
  simp only [Nat.add_zero] at this
  rw [this]; rfl
theorem hi_last (h : 120 < (secB 1 0 ⟨#[104, 105]⟩).size) : (secB 1 0 ⟨#[104, 105]⟩)[120].toNat = 1 := by
  have hz := secB_size (N := 1) (I := 0) hi_ok.d
  have := sec_byte 120 _ ((secB_tail (N := 1) (I := 0) hi_ok.d).trans int8_one) 0 (by omega) (by omega) (by omega) (by decide)
  simp only [Nat.add_zero] at this
  rw [this]; rfl
set_option maxRecDepth 100000 in
set_option maxHeartbeats 1000000 in
theorem stampAlive_any {Dk : (Nat → Prop) → World → Nat → St → Prop} (S : LandedSt Dk) (w : World) :
    Calls Try.prog 10 #[] w fun e w' => e = .returned (.bool true) ∧ Below w.heap.size w w' := by
  have hby := Lib.hid (fun W => S.bytes 1 0 ⟨#[104, 105]⟩ W (by decide))
  rw [show bytesS 1 0 ⟨#[104, 105]⟩ = secB 1 0 ⟨#[104, 105]⟩ from by unfold bytesS; rw [if_pos (by decide)], show bytesE 1 0 ⟨#[104, 105]⟩ = 0 from by unfold bytesE; rw [if_pos (by decide)]] at hby
  have hco := Lib.hid (fun W => S.count 105 W (by decide) (by decide))
  rw [show ((countN (105 : Int).toNat : Nat) : Int) = 2 from by decide] at hco
  have z1 := secB_size (N := 1) (I := 0) hi_ok.d
  have y1 := hi_first
  have y2 := hi_last
  generalize secB 1 0 ⟨#[104, 105]⟩ = ta at *
  replace y1 := y1 (by omega)
  replace y2 := y2 (by omega)
  unfold leafA at hby
  go_enter Try.func10, Try.ntmps10
  go_wp2_with fail
  refine (hby.out _).mono ?_
  rintro e w1 ⟨rfl, hb1⟩
  go_wp2_with fail
  refine (hco.out _).mono ?_
  rintro e w2 ⟨rfl, hb2⟩
  replace hb1 := hb1.trans (hb2.mono hb1.size)
  go_wp2
  go_ret
  exact ⟨rfl, hb1⟩
end Go.Proofs.Ytjaaicklhhpebaa
