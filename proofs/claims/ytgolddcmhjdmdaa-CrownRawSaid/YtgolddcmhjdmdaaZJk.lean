/- Stage 6: sectors whose ends bear small numbers, and what is left of a record that was being added. Plain: no program, no condition. -/
import Derived.Test.YtgolddcmhjdmdaaZJg
namespace Go.Proofs.Ytgolddcmhjdmdaa
open Go Go.RowKit Cr

theorem int8_small : ∀ m : Fin 256, intB 8 ((m.val : Nat) : Int) = ⟨#[UInt8.ofNat m.val, 0, 0, 0, 0, 0, 0, 0]⟩ := by decide +kernel
/-- A sector whose ends bear numbers below 256. -/
structure Ends (x : ByteArray) (h t : Nat) : Prop where
  size : x.size = 128
  hlt : h < 256
  tlt : t < 256
  h0 : x[0]'(by omega) = UInt8.ofNat h
  hz : ∀ d (h1 : 1 ≤ d) (h2 : d < 8), x[d]'(by omega) = 0
  t0 : x[120]'(by omega) = UInt8.ofNat t
  tz : ∀ d (h1 : 1 ≤ d) (h2 : d < 8), x[120 + d]'(by omega) = 0
theorem eight_get (b : UInt8) (d : Nat) (hd : d < 8) : (⟨#[b, 0, 0, 0, 0, 0, 0, 0]⟩ : ByteArray)[d]'hd = if d = 0 then b else 0 := by
  match d, hd with
  | 0, _ => rfl
  | 1, _ => rfl
  | 2, _ => rfl
  | 3, _ => rfl
  | 4, _ => rfl
  | 5, _ => rfl
  | 6, _ => rfl
  | 7, _ => rfl
theorem int8_is {h : Nat} (hh : h < 256) : intB 8 ((h : Nat) : Int) = ⟨#[UInt8.ofNat h, 0, 0, 0, 0, 0, 0, 0]⟩ := int8_small ⟨h, hh⟩
theorem Ends.head {x : ByteArray} {h t : Nat} (e : Ends x h t) : x.extract 0 8 = intB 8 ((h : Nat) : Int) := by
  have hs := e.size
  rw [int8_is e.hlt]
  refine ByteArray.ext_getElem (by rw [ByteArray.size_extract]; show min 8 x.size - 0 = 8; omega) (fun d h1 h2 => ?_)
  have hd : d < 8 := h2
  rw [ByteArray.getElem_extract, eight_get _ d hd]
  by_cases e0 : d = 0
  · subst e0
    rw [if_pos rfl]; exact e.h0
  · rw [if_neg e0]
    have := e.hz d (by omega) hd
    simpa using this
theorem Ends.tail {x : ByteArray} {h t : Nat} (e : Ends x h t) : x.extract 120 128 = intB 8 ((t : Nat) : Int) := by
  have hs := e.size
  rw [int8_is e.tlt]
  refine ByteArray.ext_getElem (by rw [ByteArray.size_extract]; show min 128 x.size - 120 = 8; omega) (fun d h1 h2 => ?_)
  have hd : d < 8 := h2
  rw [ByteArray.getElem_extract, eight_get _ d hd]
  by_cases e0 : d = 0
  · subst e0
    rw [if_pos rfl]; exact e.t0
  · rw [if_neg e0]; exact e.tz d (by omega) hd
theorem byte_of {x s : ByteArray} {i : Nat} (hx : x.size = 128) (hi : i ≤ 120) (hs : s.size = 8) (h : x.extract i (i + 8) = s) (d : Nat) (hd : d < 8) : x[i + d]'(by omega) = s[d]'(by omega) := by
  subst h
  rw [ByteArray.getElem_extract]
theorem ends_of {x : ByteArray} {h t : Nat} (hs : x.size = 128) (h1 : h < 256) (h2 : t < 256) (e1 : x.extract 0 8 = intB 8 ((h : Nat) : Int)) (e2 : x.extract 120 128 = intB 8 ((t : Nat) : Int)) : Ends x h t := by
  rw [int8_is h1] at e1
  rw [int8_is h2] at e2
  refine ⟨hs, h1, h2, ?_, fun d d1 d2 => ?_, ?_, fun d d1 d2 => ?_⟩
  · have := byte_of hs (i := 0) (by omega) rfl e1 0 (by omega)
    rw [eight_get _ 0 (by omega), if_pos rfl] at this
    simpa using this
  · have := byte_of hs (i := 0) (by omega) rfl e1 d (by omega)
    rw [eight_get _ d d2, if_neg (by omega)] at this
    simpa using this
  · have := byte_of hs (i := 120) (by omega) rfl e2 0 (by omega)
    rw [eight_get _ 0 (by omega), if_pos rfl] at this
    simpa using this
  · have := byte_of hs (i := 120) (by omega) rfl e2 d (by omega)
    rw [eight_get _ d d2, if_neg (by omega)] at this
    exact this
theorem ends_sec {N : Nat} (hN : N < 256) (I : Int) {D : ByteArray} (hD : D.size ≤ 104) : Ends (secB ((N : Nat) : Int) I D) N N := ends_of (secB_size hD) hN hN (secB_head hD) (secB_tail hD)
theorem ends_blank : Ends (zerosB 128) 0 0 := ends_of (zerosB_size 128) (by omega) (by omega) (by decide +kernel) (by decide +kernel)
theorem Ends.mix {x y : ByteArray} {N h t : Nat} (hx : Ends x N N) (hy : Ends y h t) {k : Nat} (hk : k ≤ 128) : Ends (mixB x y k) (if 0 < k then N else h) (if 120 < k then N else t) := by
  have sx := hx.size
  have sy := hy.size
  refine ⟨mixB_size sx sy hk, by split; exact hx.hlt; exact hy.hlt, by split; exact hx.hlt; exact hy.tlt, ?_, fun d d1 d2 => ?_, ?_, fun d d1 d2 => ?_⟩
  · rw [mixB_get sx sy hk 0 (by omega)]
    split
    · exact hx.h0
    · exact hy.h0
  · rw [mixB_get sx sy hk d (by omega)]
    split
    · exact hx.hz d d1 d2
    · exact hy.hz d d1 d2
  · rw [mixB_get sx sy hk 120 (by omega)]
    split
    · exact hx.t0
    · exact hy.t0
  · rw [mixB_get sx sy hk (120 + d) (by omega)]
    split
    · exact hx.tz d d1 d2
    · exact hy.tz d d1 d2
theorem ends_leaf {z : ByteArray} {h t : Nat} (hz : Ends z h t) {N I : Int} {D : ByteArray} (hl : LeafOk N I D) (e : secB N I D = z) : N = (h : Int) ∧ N = (t : Int) := by
  have hn := hl.n
  have h1 := hz.hlt
  have h2 := hz.tlt
  have a := (secB_head (N := N) (I := I) hl.d).symm.trans ((congrArg (fun s => s.extract 0 8) e).trans hz.head)
  have b := (secB_tail (N := N) (I := I) hl.d).symm.trans ((congrArg (fun s => s.extract 120 128) e).trans hz.tail)
  exact ⟨intB_inj8 (by omega) (by omega) a, intB_inj8 (by omega) (by omega) b⟩
theorem mixB_zero {x y : ByteArray} (hy : y.size = 128) : mixB x y 0 = y := by
  unfold mixB
  have e : x.extract 0 0 = ByteArray.empty := ByteArray.extract_eq_empty_iff.mpr (by omega)
  rw [e, ByteArray.empty_append]
  exact cut_all _ _ hy.symm
theorem mixB_all {x y : ByteArray} (hx : x.size = 128) (hy : y.size = 128) : mixB x y 128 = x := by
  unfold mixB
  have e : y.extract 128 128 = ByteArray.empty := ByteArray.extract_eq_empty_iff.mpr (by omega)
  rw [e, ByteArray.append_empty]
  exact cut_all _ _ hx.symm
/-- A leaf that is read of a sector that was being written is the new one, or the old one. -/
theorem mix_leaf {x y : ByteArray} {N h t : Nat} (hx : Ends x N N) (hy : Ends y h t) (ht : t < N) {k : Nat} (hk : k ≤ 128) {N' I' : Int} {D' : ByteArray} (hl : LeafOk N' I' D') (e : secB N' I' D' = mixB x y k) : mixB x y k = x ∨ mixB x y k = y := by
  by_cases h0 : k = 0
  · right; subst h0; exact mixB_zero hy.size
  · left
    have hm := hx.mix hy hk
    rw [if_pos (by omega)] at hm
    obtain ⟨e1, e2⟩ := ends_leaf hm hl e
    by_cases h1 : 120 < k
    · refine mix_is_first hx.size hy.size hk (by omega) ?_
      rw [if_pos h1] at hm
      show (mixB x y k).extract 120 128 = x.extract 120 128
      rw [hm.tail, hx.tail]
    · rw [if_neg h1] at e2
      omega
/-- Sectors from a place on, each of which has the first bytes of a new one. -/
structure Flown (get get' : Nat → ByteArray) (a c : Nat) (N : Int) (f : ByteArray) : Prop where
  part : ∀ i, i < c → ∃ k, k ≤ 128 ∧ get' (a + i) = mixB (secB N ((i : Nat) : Int) (partS f i)) (get (a + i)) k
  rest : ∀ j, (j < a ∨ a + c ≤ j) → get' j = get j
/-- Ends that bear numbers below one. -/
def EndsBelow (get : Nat → ByteArray) (n N : Nat) : Prop := ∀ j, j < n → ∃ h t, Ends (get j) h t ∧ h < N ∧ t < N
theorem EndsBelow.mono {get : Nat → ByteArray} {n N M : Nat} (h : EndsBelow get n N) (hM : N ≤ M) : EndsBelow get n M := fun j hj => by
  obtain ⟨a, b, e, h1, h2⟩ := h j hj
  exact ⟨a, b, e, by omega, by omega⟩
theorem Flown.ends {get get' : Nat → ByteArray} {a c n N : Nat} {f : ByteArray} (h : Flown get get' a c (N : Int) f) (hN : 1 ≤ N ∧ N < 256) (_hac : a + c ≤ n) (he : EndsBelow get n N) : EndsBelow get' n (N + 1) := fun j hj => by
  by_cases hin : a ≤ j ∧ j < a + c
  · obtain ⟨k, hk, e1⟩ := h.part (j - a) (by omega)
    rw [show a + (j - a) = j by omega] at e1
    obtain ⟨p, q, e2, h1, h2⟩ := he j hj
    rw [e1]
    exact ⟨_, _, (ends_sec hN.2 _ (partS_le f (j - a))).mix e2 hk, by split <;> omega, by split <;> omega⟩
  · rw [h.rest j (by omega)]
    obtain ⟨p, q, e2, h1, h2⟩ := he j hj
    exact ⟨p, q, e2, by omega, by omega⟩
end Go.Proofs.Ytgolddcmhjdmdaa
