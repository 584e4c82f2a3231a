/- A text that holds, turned in four bytes in a row: plain arithmetic. No condition. -/
import Derived.Test.YtbjhkggdklnkjaaCv
import Derived.Test.YtbjhkggdklnkjaaRow
namespace Go.Proofs.Ytbjhkggdklnkjaa
open Go.RowKit Go.Sort Cr

theorem text_eq_iff (a b : ByteArray) : (a.toList == b.toList) = true ↔ a = b := by
  rw [beq_iff_eq, ByteArray.toList_eq, ByteArray.toList_eq]
  constructor
  · intro h; exact ByteArray.ext (Array.toList_inj.mp h)
  · intro h; rw [h]
/-- A text holds just if the register ends on one number. -/
theorem holdsB_iff (s : ByteArray) (h4 : 4 ≤ s.size) : holdsB s = true ↔ rowC 4294967295 (bytesC s) = bitsC 32 4294967295 := by
  have hl := bytesC_length s
  have hlt := bytesC_lt s
  unfold holdsB
  rw [decide_eq_true h4, Bool.true_and, text_eq_iff]
  have hd : bytesC (s.extract (s.size - 4) s.size) = (bytesC s).drop (s.size - 4) := bytesC_drop s _
  have ht : bytesC (s.extract 0 (s.size - 4)) = (bytesC s).take (s.size - 4) := bytesC_take s _
  have hdl : ((bytesC s).drop (s.size - 4)).length = 4 := by rw [List.length_drop, hl]; omega
  have hdm : ∀ b ∈ (bytesC s).drop (s.size - 4), b < 256 := fun b hb => hlt b (List.mem_of_mem_drop hb)
  have hwhole := List.take_append_drop (s.size - 4) (bytesC s)
  rw [← hwhole]
  have key : fourT (sumC 0 (bytesC (s.extract 0 (s.size - 4)))) = s.extract (s.size - 4) s.size ↔ (bytesC s).drop (s.size - 4) = four4 (sumC 0 ((bytesC s).take (s.size - 4))) := by
    rw [← ht, ← bytesC_fourT (sumC_lt 0 _), ← hd]
    constructor
    · intro h; rw [h]
    · intro h; exact (bytesC_inj h).symm
  rw [key]
  have htm : ∀ b ∈ (bytesC s).take (s.size - 4), b < 256 := fun b hb => hlt b (List.mem_of_mem_take hb)
  generalize (bytesC s).drop (s.size - 4) = D at *
  generalize (bytesC s).take (s.size - 4) = T at *
  match D, hdl with
  | [b0, b1, b2, b3], _ => exact holds_iff T htm (hdm b0 (by simp)) (hdm b1 (by simp)) (hdm b2 (by simp)) (hdm b3 (by simp))

/-- A row, as its beginning, four in the middle, and its end. -/
theorem row4 (L : List Nat) (k : Nat) (hk : k + 4 ≤ L.length) (g : Nat → Nat) (hg : ∀ j, ¬ (k ≤ j ∧ j < k + 4) → g j = L.getD j 0) :
    (List.range L.length).map g = L.take k ++ ([g k, g (k + 1), g (k + 2), g (k + 3)] ++ L.drop (k + 4)) := by
  apply List.ext_getElem?
  intro j
  rw [List.getElem?_map]
  by_cases hj : j < L.length
  · rw [List.getElem?_range hj, Option.map_some]
    by_cases h1 : j < k
    · rw [List.getElem?_append_left (by rw [List.length_take]; omega), List.getElem?_take_of_lt h1, hg j (by omega), List.getD_eq_getElem?_getD, List.getElem?_eq_getElem hj]
      rfl
    · have hlen : (L.take k).length = k := by rw [List.length_take]; omega
      rw [List.getElem?_append_right (by omega), hlen]
      by_cases h2 : j < k + 4
      · obtain rfl | rfl | rfl | rfl : j = k ∨ j = k + 1 ∨ j = k + 2 ∨ j = k + 3 := by omega
        · rw [Nat.sub_self]; rfl
        · rw [show k + 1 - k = 1 by omega]; rfl
        · rw [show k + 2 - k = 2 by omega]; rfl
        · rw [show k + 3 - k = 3 by omega]; rfl
      · rw [List.getElem?_append_right (by simp; omega), List.getElem?_drop]
        rw [show k + 4 + (j - k - [g k, g (k + 1), g (k + 2), g (k + 3)].length) = j by simp; omega]
        rw [hg j (by omega), List.getD_eq_getElem?_getD, List.getElem?_eq_getElem hj]
        rfl
  · rw [List.getElem?_eq_none (by rw [List.length_range]; omega), List.getElem?_eq_none]
    · rfl
    · simp; omega

/-- m bytes turned from k on. -/
def gF (f : Nat → Nat) (k t m : Nat) : Nat → Nat := fun j => if k ≤ j ∧ j < k + m then f j ^^^ (t / 2 ^ (8 * (j - k)) % 256) else f j
theorem gF_zero (f : Nat → Nat) (k t : Nat) : gF f k t 0 = f := by
  funext j
  unfold gF
  rw [if_neg (by omega)]
theorem gF_at (f : Nat → Nat) (k t m : Nat) : gF f k t m (k + m) = f (k + m) := by
  unfold gF
  rw [if_neg (by omega)]
theorem gF_succ (f : Nat → Nat) (k t m : Nat) : gF f k t (m + 1) = setF (gF f k t m) (k + m) (f (k + m) ^^^ (t / 2 ^ (8 * m) % 256)) := by
  funext j
  unfold setF gF
  by_cases e : j = k + m
  · subst e
    rw [if_pos (by omega), if_pos rfl, show k + m - k = m by omega]
  · rw [if_neg e]
    by_cases h : k ≤ j ∧ j < k + m
    · rw [if_pos h, if_pos (by omega)]
    · rw [if_neg h, if_neg (by omega)]
theorem xor_lt_256 {a b : Nat} (ha : a < 256) (hb : b < 256) : a ^^^ b < 256 := Nat.xor_lt_two_pow (n := 8) ha hb
theorem gF_lt {f : Nat → Nat} (hf : ∀ j, f j < 256) (k t m j : Nat) : gF f k t m j < 256 := by
  unfold gF
  split
  · exact xor_lt_256 (hf j) (Nat.mod_lt _ (by decide))
  · exact hf j
theorem bytesC_textOf (n : Nat) (f : Nat → Nat) (hf : ∀ j, f j < 256) : bytesC (textOf n f) = (List.range n).map f := by
  unfold bytesC textOf
  rw [List.toList_toArray, List.map_map]
  apply List.map_congr_left
  intro j _
  simp only [Function.comp, UInt8.toNat_ofNat']
  have := hf j
  omega
theorem byteOf_get (s : ByteArray) (j : Nat) : byteOf s j = (bytesC s).getD j 0 := by
  unfold byteOf bytesC
  rw [List.getD_eq_getElem?_getD, List.getD_eq_getElem?_getD, List.getElem?_map]
  cases s.data.toList[j]? <;> rfl

theorem turned_not (s : ByteArray) (hs : holdsB s = true) (h4 : 4 ≤ s.size) (k : Nat) (hk : k + 4 ≤ s.size) (t : Nat) (ht : t < W) (hne : t ≠ 0) :
    holdsB (textOf s.size (gF (byteOf s) k t 4)) = false := by
  have hl := bytesC_length s
  have hlt := bytesC_lt s
  rw [holdsB_iff s h4] at hs
  rw [Bool.eq_false_iff]
  intro h
  rw [holdsB_iff _ (by rw [textOf_size]; exact h4), bytesC_textOf _ _ (gF_lt (byteOf_lt s) k t 4)] at h
  have f0 := row4 (bytesC s) k (by omega) (byteOf s) (fun j _ => byteOf_get s j)
  have f1 := row4 (bytesC s) k (by omega) (gF (byteOf s) k t 4) (fun j hj => by unfold gF; rw [if_neg hj]; exact byteOf_get s j)
  have fid : (List.range (bytesC s).length).map (byteOf s) = bytesC s := by
    apply List.ext_getElem?
    intro j
    rw [List.getElem?_map]
    by_cases hj : j < (bytesC s).length
    · rw [List.getElem?_range hj, Option.map_some, byteOf_get, List.getD_eq_getElem?_getD, List.getElem?_eq_getElem hj]; rfl
    · rw [List.getElem?_eq_none (by rw [List.length_range]; omega), List.getElem?_eq_none (by omega)]; rfl
  rw [hl] at f1
  rw [f1] at h
  rw [fid] at f0
  rw [f0] at hs
  have b := byteOf_lt s
  rw [W_eq] at ht
  have e0 : gF (byteOf s) k t 4 k = byteOf s k ^^^ (t % 256) := by unfold gF; rw [if_pos (by omega), Nat.sub_self]; simp
  have e1 : gF (byteOf s) k t 4 (k + 1) = byteOf s (k + 1) ^^^ (t / 256 % 256) := by unfold gF; rw [if_pos (by omega), show k + 1 - k = 1 by omega]
  have e2 : gF (byteOf s) k t 4 (k + 2) = byteOf s (k + 2) ^^^ (t / 65536 % 256) := by unfold gF; rw [if_pos (by omega), show k + 2 - k = 2 by omega]
  have e3 : gF (byteOf s) k t 4 (k + 3) = byteOf s (k + 3) ^^^ (t / 16777216) := by
    unfold gF; rw [if_pos (by omega), show k + 3 - k = 3 by omega]
    congr 1
    show t / 16777216 % 256 = _
    omega
  rw [e0, e1, e2, e3] at h
  exact turned_ends (by rw [W_eq]; decide) ((bytesC s).take k) ((bytesC s).drop (k + 4)) _ _ _ _ (t % 256) (t / 256 % 256) (t / 65536 % 256) (t / 16777216)
    (fun b hb => hlt b (List.mem_of_mem_take hb)) (b _) (b _) (b _) (b _) (by omega) (by omega) (by omega) (by omega)
    (fun b hb => hlt b (List.mem_of_mem_drop hb)) (by rw [wordN_of (by rw [W_eq]; exact ht)]; exact hne) hs h
end Go.Proofs.Ytbjhkggdklnkjaa
