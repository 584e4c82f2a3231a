/- What the walks of stage 3's laws ask of the landed reader; and a row of items' bytes from its end. -/
/- TapePuts' walk, out of the landed contracts. -/
/- TapeCuts' walk, out of the landed contracts. -/
/- TapeTakes' walk, out of the landed contracts. -/
import Derived.Test.YtfdanlfiaoedfaaZTp
import Derived.RegionTactic
import Derived.Deep.RegionHeld3
import Derived.OwnWalk
import Derived.Lib.AppendZeros
namespace Go.Proofs.Ytfdanlfiaoedfaa
open Go.RowKit Wm

/-- What is taken of what is left (none: torn), and what is left then. -/
def rdPart (st : Option ByteArray) (n : Int) : ByteArray :=
  match st with
  | none => ByteArray.empty
  | some s => if 0 ≤ n ∧ n ≤ ((s.size : Nat) : Int) then s.extract 0 n.toNat else ByteArray.empty
def rdNext (st : Option ByteArray) (n : Int) : Option ByteArray :=
  match st with
  | none => none
  | some s => if 0 ≤ n ∧ n ≤ ((s.size : Nat) : Int) then some (s.extract n.toNat s.size) else none
/-- A flag: yes just of a byte 1; torn of a greater one. -/
def flagYes (st : Option ByteArray) : Bool := decide (bytesN (rdPart st 1) = [1])
def flagNext (st : Option ByteArray) : Option ByteArray := if valL (bytesN (rdPart st 1)) ≤ 1 then rdNext st 1 else none
def leftN (st : Option ByteArray) : Nat :=
  match st with
  | none => 0
  | some s => s.size
def endB (st : Option ByteArray) : Bool := st.isSome && decide (leftN st = 0)

def RdPost (Rd : (Nat → Prop) → World → Nat → Option ByteArray → Prop) (F : Nat → Prop) (p : Nat) (st : Option ByteArray) (W W' : World) : Prop :=
  ∃ F', Rd F' W' p st ∧ Only F W W' ∧ ∀ k, k < W.heap.size → F' k → F k
def ReadPost (Rd : (Nat → Prop) → World → Nat → Option ByteArray → Prop) (s : ByteArray) (W : World) (e : Ending) (W' : World) : Prop :=
  ∃ p F, e = .returned (.pointer (some ⟨p, 0, none⟩)) ∧ Rd F W' p (some s) ∧ (∀ k, F k → W.heap.size ≤ k) ∧ Below W.heap.size W W'
/-- The landed reader. -/
structure LandedRd (Rd : (Nat → Prop) → World → Nat → Option ByteArray → Prop) : Prop where
  near : ∀ F W p st, Rd F W p st → ∀ k, F k → k < W.heap.size
  keep : ∀ F G W W' p st, Rd F W p st → Only G W W' → (∀ k, F k → ¬ G k) → Rd F W' p st
  read : ∀ (s : ByteArray) W, s.size ≤ 16384 → Calls Try.prog 34 #[.string s] W (ReadPost Rd s W)
  raw : ∀ F W p st (n : Int), Rd F W p st → -9223372036854775808 ≤ n → n ≤ 9223372036854775807 →
    Calls Try.prog 74 #[.pointer (some ⟨p, 0, none⟩), .int .i64 n] W fun e W' => e = .returned (.string (rdPart st n)) ∧ RdPost Rd F p (rdNext st n) W W'
  int : ∀ F W p st (size : Int), Rd F W p st →
    Calls Try.prog 44 #[.pointer (some ⟨p, 0, none⟩), .int .i64 size] W fun e W' => e = .returned (.int .i64 (backZ (rdPart st ((sizeK size : Nat) : Int)))) ∧ RdPost Rd F p (rdNext st ((sizeK size : Nat) : Int)) W W'
  num : ∀ F W p st, Rd F W p st →
    Calls Try.prog 65 #[.pointer (some ⟨p, 0, none⟩)] W fun e W' => e = .returned (numV (valL (bytesN (rdPart st 16)))) ∧ RdPost Rd F p (rdNext st 16) W W'
  flag : ∀ F W p st, Rd F W p st →
    Calls Try.prog 80 #[.pointer (some ⟨p, 0, none⟩)] W fun e W' => e = .returned (.bool (flagYes st)) ∧ RdPost Rd F p (flagNext st) W W'
  fin : ∀ F W p st, Rd F W p st →
    Calls Try.prog 36 #[.pointer (some ⟨p, 0, none⟩)] W fun e W' => e = .returned (.bool (endB st)) ∧ Below W.heap.size W W'
theorem LandedRd.later {Rd : (Nat → Prop) → World → Nat → Option ByteArray → Prop} (K : LandedRd Rd) {F : Nat → Prop} {W W' : World} {p : Nat} {st : Option ByteArray} (h : Rd F W p st) (hb : Below W.heap.size W W') : Rd F W' p st :=
  K.keep F (fun _ => False) W W' p st h (Only.of_below hb) (fun _ _ e => e)
theorem RdPost.only {Rd : (Nat → Prop) → World → Nat → Option ByteArray → Prop} {F : Nat → Prop} {p : Nat} {st : Option ByteArray} {W W' : World} (h : RdPost Rd F p st W W') : Only F W W' := h.choose_spec.2.1
theorem RdPost.later {Rd : (Nat → Prop) → World → Nat → Option ByteArray → Prop} (K : LandedRd Rd) {F : Nat → Prop} {p : Nat} {st : Option ByteArray} {W W1 W2 : World} (h : RdPost Rd F p st W W1) (hb : Below W1.heap.size W1 W2) : RdPost Rd F p st W W2 := by
  obtain ⟨F', h1, h2, h3⟩ := h
  exact ⟨F', K.later h1 hb, h2.later hb, h3⟩
/-- The number that so many digits are. -/
theorem valL_digits : ∀ (k n : Nat), valL ((List.range k).map fun j => n / 256 ^ j % 256) = n % 256 ^ k
  | 0, n => by simp [valL]; omega
  | k + 1, n => by
    rw [List.range_succ_eq_map, List.map_cons, List.map_map, valL]
    have e : ((fun j => n / 256 ^ j % 256) ∘ Nat.succ) = fun j => n / 256 / 256 ^ j % 256 := by
      funext j
      show n / 256 ^ (j + 1) % 256 = _
      rw [Nat.pow_succ, Nat.mul_comm, ← Nat.div_div_eq_div_mul]
    rw [e, valL_digits k (n / 256), Nat.pow_zero, Nat.div_one, Nat.pow_succ, Nat.mul_comm (256 ^ k), Nat.mod_mul]
theorem bytesN_textP (n k : Nat) : bytesN (textP n k) = (List.range k).map fun j => n / 256 ^ j % 256 := by
  unfold bytesN textP bytesP
  rw [List.toList_toArray, List.map_map]
  apply List.map_congr_left
  intro j _
  show (byteN n j).toNat = _
  rw [byteN_toNat, Nat.pow_mul]
theorem valL_textP (n k : Nat) : valL (bytesN (textP n k)) = n % 256 ^ k := by rw [bytesN_textP, valL_digits]
theorem valL_numB {n : Nat} (h : n < big) : valL (bytesN (numB n)) = n := by
  have := valL_textP n 16
  rw [big_eq] at h
  rw [show numB n = textP n 16 from rfl, this]
  exact Nat.mod_eq_of_lt (by omega)
theorem rd_part (a b : ByteArray) : rdPart (some (a ++ b)) ((a.size : Nat) : Int) = a := by
  unfold rdPart
  dsimp only
  rw [if_pos (by rw [ByteArray.size_append]; omega), Int.toNat_natCast]
  exact ByteArray.extract_append_eq_left rfl
theorem rd_next (a b : ByteArray) : rdNext (some (a ++ b)) ((a.size : Nat) : Int) = some b := by
  unfold rdNext
  dsimp only
  rw [if_pos (by rw [ByteArray.size_append]; omega), Int.toNat_natCast, ByteArray.size_append]
  exact congrArg some (ByteArray.extract_append_eq_right rfl rfl)
end Go.Proofs.Ytfdanlfiaoedfaa
namespace Go.Proofs.Ytfdanlfiaoedfaa
open Go.RowKit Wm

/-- What is known while items are read. -/
structure Reading (Rd : (Nat → Prop) → World → Nat → Option ByteArray → Prop) (w wr : World) (p : Nat) (st : Option ByteArray) : Prop where
  own : ∃ F : Nat → Prop, Rd F wr p st ∧ ∀ j, F j → w.heap.size ≤ j
  below : Below w.heap.size w wr
theorem Reading.next {Rd : (Nat → Prop) → World → Nat → Option ByteArray → Prop} {w wx w2 : World} {p : Nat} {F : Nat → Prop} {st : Option ByteArray} (hF : ∀ j, F j → w.heap.size ≤ j)
    (hb : Below w.heap.size w wx) (h : RdPost Rd F p st wx w2) : Reading Rd w w2 p st := by
  obtain ⟨F', h1, h2, h4⟩ := h
  refine ⟨⟨F', h1, fun j hj => ?_⟩, hb.trans (h2.to_below hb.size hF)⟩
  by_cases hlt : j < wx.heap.size
  · exact hF j (h4 j hlt hj)
  · have := hb.size; omega
theorem yesB_size (b : Bool) : (yesB b).size = 1 := by cases b <;> rfl
end Go.Proofs.Ytfdanlfiaoedfaa
namespace Go.Proofs.Ytfdanlfiaoedfaa
open Go.RowKit Wm

theorem Reading.step {Rd : (Nat → Prop) → World → Nat → Option ByteArray → Prop} (R : LandedRd Rd) {w wx w2 w3 : World} {p : Nat} {F : Nat → Prop} {st : Option ByteArray} (hF : ∀ j, F j → w.heap.size ≤ j)
    (hb : Below w.heap.size w wx) (h : RdPost Rd F p st wx w2) (h3 : Below w2.heap.size w2 w3) : Reading Rd w w3 p st := Reading.next hF hb (h.later R h3)
end Go.Proofs.Ytfdanlfiaoedfaa
namespace Go.Proofs.Ytfdanlfiaoedfaa
open Go.RowKit Wm

theorem digits_valL : ∀ (l : List Nat), (∀ b ∈ l, b < 256) → (List.range l.length).map (fun j => valL l / 256 ^ j % 256) = l
  | [], _ => rfl
  | b :: r, h => by
    have ih := digits_valL r (fun x hx => h x (List.mem_cons_of_mem _ hx))
    have hb := h b (List.mem_cons_self ..)
    rw [List.length_cons, List.range_succ_eq_map, List.map_cons, List.map_map, valL]
    congr 1
    · rw [Nat.pow_zero, Nat.div_one]; omega
    · conv => rhs; rw [← ih]
      apply List.map_congr_left
      intro j _
      show (b + 256 * valL r) / 256 ^ (j + 1) % 256 = _
      rw [Nat.pow_succ, Nat.mul_comm (256 ^ j), ← Nat.div_div_eq_div_mul, show (b + 256 * valL r) / 256 = valL r by omega]
theorem bytesN_inj {s t : ByteArray} (h : bytesN s = bytesN t) : s = t := by
  unfold bytesN at h
  have := List.map_inj_right (f := UInt8.toNat) (fun a b e => UInt8.toNat_inj.mp e) |>.mp h
  exact ByteArray.ext (Array.toList_inj.mp this)
theorem numB_valL (s : ByteArray) (h : s.size = 16) : numB (valL (bytesN s)) = s := by
  apply bytesN_inj
  rw [show numB (valL (bytesN s)) = textP (valL (bytesN s)) 16 from rfl, bytesN_textP]
  have := digits_valL (bytesN s) (bytesN_lt s)
  rw [bytesN_length, h] at this
  exact this

theorem part_some (rem : ByteArray) (m : Nat) (h : m ≤ rem.size) : rdPart (some rem) ((m : Nat) : Int) = rem.extract 0 m := by
  unfold rdPart; dsimp only; rw [if_pos (by omega), Int.toNat_natCast]
theorem next_some (rem : ByteArray) (m : Nat) (h : m ≤ rem.size) : rdNext (some rem) ((m : Nat) : Int) = some (rem.extract m rem.size) := by
  unfold rdNext; dsimp only; rw [if_pos (by omega), Int.toNat_natCast]
theorem part_out (rem : ByteArray) (n : Int) (h : ¬ (0 ≤ n ∧ n ≤ ((rem.size : Nat) : Int))) : rdPart (some rem) n = ⟨#[]⟩ := by
  unfold rdPart; dsimp only; rw [if_neg h]; rfl
theorem flag_three (rem : ByteArray) (h : 1 ≤ rem.size) :
    (Op.bytesLess (rem.extract 0 1).toList [1] = true ∧ ((rem.extract 0 1).toList == [1]) = false ∧ flagYes (some rem) = false ∧ flagNext (some rem) = some (rem.extract 1 rem.size)) ∨
    (Op.bytesLess (rem.extract 0 1).toList [1] = false ∧ ((rem.extract 0 1).toList == [1]) = true ∧ flagYes (some rem) = true ∧ flagNext (some rem) = some (rem.extract 1 rem.size)) ∨
    (Op.bytesLess (rem.extract 0 1).toList [1] = false ∧ ((rem.extract 0 1).toList == [1]) = false ∧ flagYes (some rem) = false ∧ flagNext (some rem) = none) := by
  have hp := part_some rem 1 h
  have hn := next_some rem 1 h
  rw [show ((1 : Nat) : Int) = 1 from rfl] at hp hn
  unfold flagYes flagNext
  rw [hp, hn]
  have hs : (rem.extract 0 1).size = 1 := by rw [ByteArray.size_extract]; omega
  generalize rem.extract 0 1 = q at *
  obtain ⟨⟨l⟩⟩ := q
  match l, hs with
  | [b], _ =>
    have hb : (⟨⟨[b]⟩⟩ : ByteArray).toList = [b] := ByteArray.toList_eq _
    have hv : bytesN ⟨⟨[b]⟩⟩ = [b.toNat] := rfl
    rw [hb, hv]
    have hvl : valL [b.toNat] = b.toNat := by simp [valL]
    rw [hvl]
    have hb8 := UInt8.toNat_lt b
    by_cases c0 : b.toNat = 0
    · left
      have : b = 0 := UInt8.toNat_inj.mp c0
      subst this
      exact ⟨by decide +kernel, by decide +kernel, by decide +kernel, if_pos (by decide +kernel)⟩
    · by_cases c1 : b.toNat = 1
      · right; left
        have : b = 1 := UInt8.toNat_inj.mp c1
        subst this
        exact ⟨by decide +kernel, by decide +kernel, by decide +kernel, if_pos (by decide +kernel)⟩
      · right; right
        refine ⟨?_, ?_, ?_, ?_⟩
        · have h1 : ¬ b < 1 := by rw [UInt8.lt_iff_toNat_lt]; show ¬ b.toNat < 1; omega
          have h2 : (1 : UInt8) < b := by rw [UInt8.lt_iff_toNat_lt]; show 1 < b.toNat; omega
          simp [Op.bytesLess, h1]
        · rw [beq_eq_false_iff_ne]
          intro e
          apply c1
          have := List.cons.inj e
          rw [this.1]; rfl
        · rw [decide_eq_false]
          intro e
          exact c1 (List.cons.inj e).1
        · rw [if_neg (by omega)]
theorem empty_iff (rest : ByteArray) : rest.toList.isEmpty = endB (some rest) := by
  rw [ByteArray.toList_eq]
  unfold endB leftN
  obtain ⟨⟨l⟩⟩ := rest
  cases l <;> simp [ByteArray.size]
end Go.Proofs.Ytfdanlfiaoedfaa
