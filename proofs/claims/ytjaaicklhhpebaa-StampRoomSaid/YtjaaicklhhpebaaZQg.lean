/- StampLays' walk, out of the landed contracts. -/
import Derived.Test.YtjaaicklhhpebaaZQe
import Derived.Test.YtjaaicklhhpebaaZQf
namespace Go.Proofs.Ytjaaicklhhpebaa
open Go.RowKit Go.Sort Cr

theorem empty_none : leafOf ByteArray.empty = none := by
  cases h : leafOf ByteArray.empty with
  | none => rfl
  | some x =>
    obtain ⟨N, I, D⟩ := x
    obtain ⟨hk, e⟩ := leafOf_some h
    have h1 := secB_size (N := N) (I := I) hk.d
    rw [e] at h1
    exact absurd h1 (by decide)
theorem count_mono {a b : Nat} (h : a ≤ b) : countN a ≤ countN b := by
  have h1 := countN_pos b
  have h2 := countN_ge b
  exact countN_stop a _ h1 (by omega)
theorem lay_bad {st : St} {fr upto N : Int} (h : layPlace st fr upto N = false) (s : ByteArray) : st.lay fr upto N s = (1, st) := by
  unfold St.lay; rw [h, if_neg (by decide)]
theorem lay_long {st : St} {fr upto N : Int} (h : layPlace st fr upto N = true) (s : ByteArray) (hl : upto - fr < ((countN s.size : Nat) : Int)) : st.lay fr upto N s = (3, st) := by
  unfold St.lay; rw [if_pos h, if_pos hl]
/-- A disk on which something was laid. -/
def laidSt (st : St) (f : Nat) (N : Int) (s : ByteArray) : St := { st with later := st.later ++ layW N s f 0 (countN s.size), ops := st.ops + (countN s.size : Nat), arm := st.arm - (countN s.size : Nat) }
theorem lay_good {st : St} {fr upto N : Int} (h : layPlace st fr upto N = true) (s : ByteArray) (hl : ¬ upto - fr < ((countN s.size : Nat) : Int)) (ha : st.arm ≤ 0) : st.lay fr upto N s = (0, laidSt st fr.toNat N s) := by
  unfold St.lay
  rw [if_pos h, if_neg hl]
  unfold layPlace at h
  simp only [Bool.and_eq_true, decide_eq_true_eq] at h
  rw [layAll_calm N s fr.toNat (countN s.size) 0 st ha (by omega)]
  rfl
theorem layW_length (N : Int) (s : ByteArray) (f i k : Nat) : (layW N s f i k).length = k := by unfold layW; rw [List.length_map, List.length_range]
theorem laid_len (st : St) (f : Nat) (N : Int) (s : ByteArray) (h : st.later = []) : (laidSt st f N s).later.length = countN s.size := by
  unfold laidSt; rw [h]; exact layW_length _ _ _ _ _
theorem laid_ok {st : St} {k : Nat} (h : st.Wet k) (f : Nat) (N : Int) (s : ByteArray) (hf : f + countN s.size ≤ 12) : (laidSt st f N s).Wet (k + 12) := by
  have h1 := h.few
  have h2 := h.ops
  have h3 := h.arm
  have h4 := layW_length N s f 0 (countN s.size)
  refine ⟨h.len, h.safe, fun w hw => ?_, ?_, ?_, ?_⟩
  · rcases List.mem_append.mp hw with hw | hw
    · exact h.data w hw
    · unfold layW at hw
      obtain ⟨j, hj, rfl⟩ := List.mem_map.mp hw
      have := List.mem_range.mp hj
      refine ⟨secB_size (partS_le _ _), ?_⟩
      show f + (0 + j) < st.safe.length
      rw [h.len]; omega
  · show (st.later ++ layW N s f 0 (countN s.size)).length ≤ _
    rw [List.length_append, h4]; omega
  · show 0 ≤ st.ops + ((countN s.size : Nat) : Int) ∧ st.ops + ((countN s.size : Nat) : Int) ≤ _; omega
  · show _ ≤ st.arm - ((countN s.size : Nat) : Int) ∧ st.arm - ((countN s.size : Nat) : Int) ≤ _; omega
theorem laid_now (st : St) (f : Nat) (N : Int) (s : ByteArray) (h : st.later = []) (j : Nat) : (laidSt st f N s).now j = if f ≤ j ∧ j < f + countN s.size then secB N (((j - f : Nat)) : Int) (partS s (j - f)) else st.now j := by
  have e : (laidSt st f N s).now j = nowAt (layW N s f 0 (countN s.size)) j (st.safe.getD j ByteArray.empty) := by
    unfold laidSt St.now
    rw [h]; rfl
  have e2 : st.now j = st.safe.getD j ByteArray.empty := by unfold St.now nowAt; rw [h]; rfl
  rw [e, now_laid, e2]
theorem new_now (j : Nat) : leafOf ((St.new 12).now j) = none := by
  have e : (St.new 12).now j = (List.replicate 12 (zerosB 128)).getD j ByteArray.empty := rfl
  rw [e, List.getD_eq_getElem?_getD, List.getElem?_replicate]
  split
  · exact blank_none
  · exact empty_none
open Classical in
theorem new_take {fr upto N : Int} {s : ByteArray} (h : layPlace (St.new 12) fr upto N = true) (hl : ¬ upto - fr < ((countN s.size : Nat) : Int)) (N' size : Int) :
    (laidSt (St.new 12) fr.toNat N s).take fr upto N' size = if 0 ≤ size ∧ mayTake N s N' size.toNat then some (s.extract 0 size.toNat) else none := by
  unfold layPlace at h
  simp only [Bool.and_eq_true, decide_eq_true_eq] at h
  obtain ⟨⟨⟨⟨g1, g2⟩, g3⟩, g4⟩, g5⟩ := h
  have g5' : upto ≤ 12 := g5
  have hL : LaidAs (fun i => (laidSt (St.new 12) fr.toNat N s).now (fr.toNat + i)) N s := by
    refine ⟨fun i hi => ?_, fun i hi => ?_⟩
    · show (laidSt (St.new 12) fr.toNat N s).now (fr.toNat + i) = _
      rw [laid_now _ _ _ _ rfl, if_pos (by omega), show fr.toNat + i - fr.toNat = i by omega]
    · show leafOf ((laidSt (St.new 12) fr.toNat N s).now (fr.toNat + i)) = none
      rw [laid_now _ _ _ _ rfl, if_neg (by omega)]
      exact new_now _
  have hlen : (laidSt (St.new 12) fr.toNat N s).safe.length = 12 := rfl
  unfold St.take
  by_cases hp : takePlace (laidSt (St.new 12) fr.toNat N s) fr upto size
  · rw [if_pos hp, takeOf_laid g1 g2 (by omega) hL]
    by_cases hm : mayTake N s N' size.toNat
    · rw [if_pos hm, if_pos ⟨hp.2.2.2.1, hm⟩]
    · rw [if_neg hm, if_neg (fun e => hm e.2)]
  · rw [if_neg hp, if_neg]
    rintro ⟨e1, e2⟩
    apply hp
    have hle : size.toNat ≤ s.size := by
      rcases e2.2 with e | e <;> omega
    have := count_mono hle
    exact ⟨g3, g4, by rw [hlen]; exact g5', e1, by omega⟩
end Go.Proofs.Ytjaaicklhhpebaa
