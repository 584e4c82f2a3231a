/- Stage 5: what is taken of what was laid, behind a crash, too. Plain: no program, no condition. -/
import Derived.Test.YtjaaicklhhpebaaZQt
namespace Go.Proofs.Ytjaaicklhhpebaa
open Go Go.RowKit Cr

theorem zeros_head : (zerosB 128).extract 0 8 = intB 8 0 := by decide +kernel
theorem blank_none : leafOf (zerosB 128) = none := by
  cases h : leafOf (zerosB 128) with
  | none => rfl
  | some x =>
    obtain ⟨N, I, D⟩ := x
    obtain ⟨hk, e⟩ := leafOf_some h
    have h1 := (secB_head (N := N) (I := I) hk.d).symm.trans ((congrArg (fun s => s.extract 0 8) e).trans zeros_head)
    have hn := hk.n
    have := intB_inj8 (by omega) (by omega) h1
    omega
/-- So many sectors bear a text's parts; no other one bears anything. -/
structure LaidAs (get : Nat → ByteArray) (N : Int) (s : ByteArray) : Prop where
  sec : ∀ i, i < countN s.size → get i = secB N ((i : Nat) : Int) (partS s i)
  rest : ∀ i, countN s.size ≤ i → leafOf (get i) = none
theorem part_ok {N : Int} (h0 : 1 ≤ N) (h1 : N ≤ 1152921504606846976) (s : ByteArray) (i : Nat) (hi : i < 4096) : LeafOk N ((i : Nat) : Int) (partS s i) := ⟨⟨h0, h1⟩, by omega, partS_le s i⟩
/-- May so many bytes of a text be taken? -/
def mayTake (N : Int) (s : ByteArray) (N' : Int) (size : Nat) : Prop := N' = N ∧ (size = s.size ∨ (0 < size ∧ size < s.size ∧ size % 104 = 0))
theorem count_whole (m : Nat) (h : 1 ≤ m) : countN (104 * m) = m := by unfold countN; split <;> omega
theorem may_is {get : Nat → ByteArray} {N : Int} {s : ByteArray} (h0 : 1 ≤ N) (h1 : N ≤ 1152921504606846976) (hs : countN s.size ≤ 4096) (h : LaidAs get N s) {N' : Int} {size : Nat} (hm : mayTake N s N' size) : TakeIs get N' size (s.extract 0 size) := by
  obtain ⟨rfl, hm⟩ := hm
  rcases hm with rfl | ⟨m0, m1, m2⟩
  · rw [cut_all s _ rfl]
    refine ⟨rfl, fun i hi => ?_⟩
    rw [h.sec i hi]
    exact leafOf_sec (part_ok h0 h1 s i (by omega))
  · obtain ⟨m, rfl⟩ : ∃ m, size = 104 * m := ⟨size / 104, by omega⟩
    have hm1 : 1 ≤ m := by omega
    refine ⟨by rw [ByteArray.size_extract]; omega, fun i hi => ?_⟩
    rw [count_whole m hm1] at hi
    have hlt : i < countN s.size := by
      have := countN_ge s.size
      omega
    rw [h.sec i hlt, part_of_start s m i (by omega) hi]
    exact leafOf_sec (part_ok h0 h1 s i (by omega))
theorem is_may {get : Nat → ByteArray} {N : Int} {s : ByteArray} (h0 : 1 ≤ N) (h1 : N ≤ 1152921504606846976) (hs : countN s.size ≤ 4096) (h : LaidAs get N s) {N' : Int} {size : Nat} {t : ByteArray} (ht : TakeIs get N' size t) : mayTake N s N' size := by
  obtain ⟨hz, ht⟩ := ht
  have hc := countN_pos size
  have hcs := countN_pos s.size
  have hle : countN size ≤ countN s.size := by
    by_cases e : countN size ≤ countN s.size
    · exact e
    · have a := ht (countN s.size) (by omega)
      rw [h.rest _ (Nat.le_refl _)] at a
      cases a
  have hpart : ∀ i, i < countN size → N' = N ∧ partS t i = partS s i := fun i hi => by
    have a := ht i hi
    rw [h.sec i (by omega), leafOf_sec (part_ok h0 h1 s i (by omega))] at a
    injection a with a
    injection a with a b
    injection b with _ c
    exact ⟨a.symm, c.symm⟩
  refine ⟨(hpart 0 (by omega)).1, ?_⟩
  have hl := congrArg ByteArray.size (hpart (countN size - 1) (by omega)).2
  rw [partS_size, partS_size, hz] at hl
  have g1 := countN_ge size
  have g2 := countN_ge s.size
  have g3 := countN_least size (countN size - 1) (by omega)
  have g4 := countN_least s.size (countN size - 1) (by omega)
  by_cases e : countN size = countN s.size
  · left
    rw [e] at g3 g4 hl g1
    generalize countN s.size = c at *
    rcases g3 with g3 | g3
    · rcases g4 with g4 | g4 <;> omega
    · rcases g4 with g4 | g4 <;> omega
  · right
    have g5 := countN_least s.size (countN size) (by omega)
    generalize countN size = c at *
    have : 104 * c < s.size := by omega
    have hsz : size = 104 * c := by
      rcases g3 with g3 | g3 <;> omega
    omega
open Classical in
theorem takeOf_laid {get : Nat → ByteArray} {N : Int} {s : ByteArray} (h0 : 1 ≤ N) (h1 : N ≤ 1152921504606846976) (hs : countN s.size ≤ 4096) (h : LaidAs get N s) (N' : Int) (size : Nat) :
    takeOf get N' size = if mayTake N s N' size then some (s.extract 0 size) else none := by
  split
  · rename_i hm
    exact takeOf_some (may_is h0 h1 hs h hm)
  · rename_i hm
    exact takeOf_none (fun t ht => hm (is_may h0 h1 hs h ht))
theorem nowAt_snoc (later : List (Nat × ByteArray)) (w : Nat × ByteArray) (i : Nat) (s : ByteArray) : nowAt (later ++ [w]) i s = if w.1 = i then w.2 else nowAt later i s := by
  unfold nowAt; rw [List.foldl_append]; rfl
theorem layW_snoc (N : Int) (s : ByteArray) (f i k : Nat) : layW N s f i (k + 1) = layW N s f i k ++ [(f + (i + k), secB N (((i + k : Nat)) : Int) (partS s (i + k)))] := by
  unfold layW
  rw [List.range_succ, List.map_append]
  rfl
/-- What sectors hold behind what is laid. -/
theorem now_laid (N : Int) (s : ByteArray) (f : Nat) (x : ByteArray) (j : Nat) : ∀ k, nowAt (layW N s f 0 k) j x = if f ≤ j ∧ j < f + k then secB N (((j - f : Nat)) : Int) (partS s (j - f)) else x
  | 0 => by
    rw [if_neg (by omega)]
    rfl
  | k + 1 => by
    rw [layW_snoc, nowAt_snoc]
    by_cases e : f + (0 + k) = j
    · rw [if_pos e, if_pos (by omega), show j - f = 0 + k by omega]
    · rw [if_neg e, now_laid N s f x j k]
      by_cases e2 : f ≤ j ∧ j < f + k
      · rw [if_pos e2, if_pos (by omega)]
      · rw [if_neg e2, if_neg (by omega)]
/-- What a sector is behind a crash, of writes of which each has its own one. -/
def OneLasts (sec old v : ByteArray) (c : Nat) : Prop := v = old ∨ v = sec ∨ v = mixB sec old c
theorem lasting_lay (N : Int) (s : ByteArray) (mask : Nat) (torn : Int) (c j : Nat) : ∀ (k i : Nat) (safe : List ByteArray), i + k ≤ safe.length →
    if i ≤ j ∧ j < i + k then OneLasts (secB N ((j : Nat) : Int) (partS s j)) (safe.getD j ByteArray.empty) ((lasting mask torn c i (layW N s 0 i k) safe).getD j ByteArray.empty) c
    else (lasting mask torn c i (layW N s 0 i k) safe).getD j ByteArray.empty = safe.getD j ByteArray.empty
  | 0, i, safe, _ => by
    rw [if_neg (by omega)]
    rfl
  | k + 1, i, safe, hl => by
    rw [layW_cons, lasting]
    have hset : ∀ x : ByteArray, (safe.set (0 + i) x).length = safe.length := fun x => List.length_set
    generalize hst : (if ((i : Nat) : Int) = torn then safe.set (0 + i) ((secB N ((i : Nat) : Int) (partS s i)).extract 0 c ++ (safe.getD (0 + i) ByteArray.empty).extract c 128)
      else if mask / 2 ^ (min i 63) % 2 = 1 then safe.set (0 + i) (secB N ((i : Nat) : Int) (partS s i)) else safe) = safe2
    have hlen : safe2.length = safe.length := by
      rw [← hst]
      split
      · exact hset _
      · split
        · exact hset _
        · rfl
    have hother : ∀ m, m ≠ i → safe2.getD m ByteArray.empty = safe.getD m ByteArray.empty := fun m hm => by
      rw [← hst]
      split
      · rw [List.getD_eq_getElem?_getD, List.getElem?_set_ne (by omega), List.getD_eq_getElem?_getD]
      · split
        · rw [List.getD_eq_getElem?_getD, List.getElem?_set_ne (by omega), List.getD_eq_getElem?_getD]
        · rfl
    have ih := lasting_lay N s mask torn c j k (i + 1) safe2 (by omega)
    by_cases e : j = i
    · subst e
      rw [if_neg (by omega)] at ih
      rw [if_pos (by omega), ih, ← hst]
      unfold OneLasts mixB
      have hj : 0 + j < safe.length := by omega
      split
      · right; right
        rw [List.getD_eq_getElem?_getD, Nat.zero_add, List.getElem?_set_self (by omega)]
        rfl
      · split
        · right; left
          rw [List.getD_eq_getElem?_getD, Nat.zero_add, List.getElem?_set_self (by omega)]
          rfl
        · left; rfl
    · rw [hother j e] at ih
      by_cases e2 : i + 1 ≤ j ∧ j < i + 1 + k
      · rw [if_pos e2] at ih
        rw [if_pos (by omega)]
        exact ih
      · rw [if_neg e2] at ih
        rw [if_neg (by omega)]
        exact ih
/-- What is taken behind a crash: all, if all its sectors are whole; nothing else. -/
theorem take_crashed {get old : Nat → ByteArray} {N : Int} {s : ByteArray} (h0 : 1 ≤ N) (h1 : N ≤ 1152921504606846976) (hs : countN s.size ≤ 4096) {c : Nat} (hc : c ≤ 128)
    (hold : ∀ i, i < countN s.size → (old i).size = 128 ∧ (old i).extract 120 128 ≠ intB 8 N)
    (h : ∀ i, i < countN s.size → OneLasts (secB N ((i : Nat) : Int) (partS s i)) (old i) (get i) c) :
    (takeOf get N s.size = some s ∧ ∀ i, i < countN s.size → get i = secB N ((i : Nat) : Int) (partS s i)) ∨ (takeOf get N s.size = none ∧ ∃ i, i < countN s.size ∧ get i ≠ secB N ((i : Nat) : Int) (partS s i)) := by
  by_cases e : ∀ i, i < countN s.size → get i = secB N ((i : Nat) : Int) (partS s i)
  · left
    refine ⟨takeOf_some ⟨rfl, fun i hi => ?_⟩, e⟩
    rw [e i hi]
    exact leafOf_sec (part_ok h0 h1 s i (by omega))
  · right
    have e2 : ∃ i, i < countN s.size ∧ get i ≠ secB N ((i : Nat) : Int) (partS s i) := by
      by_cases e3 : ∃ i, i < countN s.size ∧ get i ≠ secB N ((i : Nat) : Int) (partS s i)
      · exact e3
      · exact absurd (fun i hi => by
          by_cases e4 : get i = secB N ((i : Nat) : Int) (partS s i)
          · exact e4
          · exact absurd ⟨i, hi, e4⟩ e3) e
    refine ⟨takeOf_none (fun t ht => ?_), e2⟩
    obtain ⟨i, hi, hne⟩ := e2
    have a := ht.2 i hi
    obtain ⟨hk, hse⟩ := leafOf_some a
    obtain ⟨z1, z2⟩ := hold i hi
    rcases h i hi with e3 | e3 | e3
    · have := (secB_tail (N := N) (I := ((i : Nat) : Int)) hk.d).symm.trans (congrArg (fun s => s.extract 120 128) hse)
      rw [e3] at this
      exact z2 this.symm
    · exact hne e3
    · have := secB_crash z1 (part_ok h0 h1 s i (by omega)) hk z2 hc (e3.symm.trans hse.symm)
      exact hne (e3.trans this)
end Go.Proofs.Ytjaaicklhhpebaa
