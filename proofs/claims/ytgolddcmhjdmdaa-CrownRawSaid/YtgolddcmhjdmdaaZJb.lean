/- Stage 6: a journal's state, and what adding makes of it and of the disk. Plain: no program, no condition. -/
import Derived.Test.YtgolddcmhjdmdaaZJa
import Derived.Test.YtgolddcmhjdmdaaZQj
namespace Go.Proofs.Ytgolddcmhjdmdaa
open Go Go.RowKit Cr

/-- From where, to where, the next place, the last record's number, sick? -/
structure JSt where
  fr : Nat
  upto : Nat
  spot : Nat
  seq : Int
  sick : Bool
def JSt.room (js : JSt) (n : Int) : Bool := decide (0 ≤ n) && decide (n ≤ 32768) && decide (((js.spot + cntR n.toNat : Nat) : Int) ≤ (js.upto : Int))
/-- What adding answers, and makes of both. -/
def addJ (st : St) (js : JSt) (N : Int) (s : ByteArray) : Int × St × JSt :=
  if js.sick = true then (9, st, js) else
  if ¬ (1 ≤ N ∧ N ≤ 1152921504606846976) then (1, st, js) else
  if ¬ js.room (s.size : Int) = true then (6, st, js) else
  if (st.lay (js.spot : Int) (js.upto : Int) N (frameB (js.seq + 1) s)).1 ≠ 0 then ((st.lay (js.spot : Int) (js.upto : Int) N (frameB (js.seq + 1) s)).1, (st.lay (js.spot : Int) (js.upto : Int) N (frameB (js.seq + 1) s)).2, { js with sick := true }) else
  if (st.lay (js.spot : Int) (js.upto : Int) N (frameB (js.seq + 1) s)).2.sync.1 ≠ 0 then ((st.lay (js.spot : Int) (js.upto : Int) N (frameB (js.seq + 1) s)).2.sync.1, (st.lay (js.spot : Int) (js.upto : Int) N (frameB (js.seq + 1) s)).2.sync.2, { js with sick := true }) else
  (0, (st.lay (js.spot : Int) (js.upto : Int) N (frameB (js.seq + 1) s)).2.sync.2, { js with spot := js.spot + cntR s.size, seq := js.seq + 1 })
/-- What can be. -/
structure JSt.Ok (js : JSt) (st : St) : Prop where
  fr : js.fr ≤ js.spot
  spot : js.spot ≤ js.upto
  upto : js.upto ≤ st.safe.length
  seq : 0 ≤ js.seq ∧ js.seq < 1152921504606846976
/-- A disk without unsynced writes, on which nothing is armed, behind so many operations. -/
structure St.Dry (st : St) (n k : Nat) : Prop where
  len : st.safe.length = n
  safe : ∀ s ∈ st.safe, s.size = 128
  later : st.later = []
  ops : 0 ≤ st.ops ∧ st.ops ≤ k
  arm : -(k : Int) ≤ st.arm ∧ st.arm ≤ 0
theorem St.Dry.mono {st : St} {n j k : Nat} (h : st.Dry n j) (hk : j ≤ k) : st.Dry n k := ⟨h.len, h.safe, h.later, by have := h.ops; omega, by have := h.arm; omega⟩
theorem St.Dry.room {st : St} {n k m : Nat} (h : st.Dry n k) (hn : n ≤ 4096) (hm : m ≤ 1000) (hk : k + m ≤ 1000000) : st.Room m where
  safe := h.safe
  data := fun w hw => by rw [h.later] at hw; simp at hw
  many := by rw [h.len]; omega
  few := by rw [h.later]; simp; omega
  ops := by have := h.ops; omega
  arm := by have := h.arm; omega
theorem St.Dry.ok {st : St} {n k : Nat} (h : st.Dry n k) (hn : n ≤ 4096) (hk : k ≤ 1000000) : st.Ok := (h.room (m := 0) hn (by omega) (by omega)).ok
theorem St.Dry.new (n : Nat) (hn : n ≤ 4096) : (St.new (n : Int)).Dry n 0 where
  len := by
    have : (min (max (n : Int) 0) 4096).toNat = n := by omega
    show (List.replicate (min (max (n : Int) 0) 4096).toNat (zerosB 128)).length = n
    rw [List.length_replicate, this]
  safe := (St.Ok.new n).safe
  later := rfl
  ops := by simp [St.new]
  arm := by simp [St.new]
theorem bit_ones (k : Nat) : allOnes / 2 ^ (min k 63) % 2 = 1 := by
  have h : ∀ j, j ≤ 63 → allOnes / 2 ^ j % 2 = 1 := by decide
  exact h _ (by omega)
theorem lasting_ones (i : Nat) : ∀ (r : List (Nat × ByteArray)) (k : Nat) (safe : List ByteArray), i < safe.length → (lasting allOnes (-1) 0 k r safe).getD i ByteArray.empty = nowAt r i (safe.getD i ByteArray.empty)
  | [], _, safe, hi => rfl
  | w :: r, k, safe, hi => by
    rw [lasting, if_neg (by omega), if_pos (bit_ones k), lasting_ones i r (k + 1) _ (by rw [List.length_set]; exact hi)]
    unfold nowAt
    rw [List.foldl_cons]
    congr 1
    by_cases e : w.1 = i
    · rw [if_pos e, e, List.getD_eq_getElem?_getD, List.getElem?_set_self hi]; rfl
    · rw [if_neg e, List.getD_eq_getElem?_getD, List.getElem?_set_ne e, List.getD_eq_getElem?_getD]
/-- A sync that isn't refused. -/
theorem sync_calm {st : St} (ha : st.arm ≤ 0) : st.sync = (0, st.tried.crash allOnes (-1) 0) := by
  unfold St.sync
  rw [fails_calm ha, if_neg (by decide)]
theorem sync_now (st : St) (j : Nat) (hj : j < st.safe.length) : (st.tried.crash allOnes (-1) 0).now j = st.now j := by
  have h := lasting_ones j st.later 0 st.safe hj
  exact h
/-- Adding, where nothing is armed, and there is room. -/
theorem add_calm {st : St} {n k : Nat} (h : st.Dry n k) {js : JSt} (hj : js.Ok st) (hs : js.sick = false) {N : Int} (hN : 1 ≤ N ∧ N ≤ 1152921504606846976) {s : ByteArray} (hr : js.room (s.size : Int) = true) :
    ∃ st', addJ st js N s = (0, st', { js with spot := js.spot + cntR s.size, seq := js.seq + 1 }) ∧ st'.Dry n (k + 400) ∧
      ∀ j, j < n → st'.now j = if js.spot ≤ j ∧ j < js.spot + cntR s.size then secB N (((j - js.spot : Nat)) : Int) (partS (frameB (js.seq + 1) s) (j - js.spot)) else st.now j := by
  have hr' := hr
  unfold JSt.room at hr'
  simp only [Bool.and_eq_true, decide_eq_true_eq] at hr'
  obtain ⟨⟨r1, r2⟩, r3⟩ := hr'
  rw [Int.toNat_natCast] at r3
  have hcl := cntR_le (n := s.size) (by omega)
  have hu := hj.upto
  rw [h.len] at hu
  have hsp := hj.spot
  have hfs := frameB_size (js.seq + 1) s
  have hcn : countN (frameB (js.seq + 1) s).size = cntR s.size := by rw [hfs]; rfl
  have hpl : layPlace st (js.spot : Int) (js.upto : Int) N = true := by
    unfold layPlace
    rw [h.len, decide_eq_true hN.1, decide_eq_true hN.2, decide_eq_true (by omega), decide_eq_true (by omega), decide_eq_true (by omega)]; rfl
  have hlay := lay_good hpl (frameB (js.seq + 1) s) (by rw [hcn]; omega) h.arm.2
  rw [Int.toNat_natCast] at hlay
  have harm : (laidSt st js.spot N (frameB (js.seq + 1) s)).arm ≤ 0 := by
    have := h.arm.2
    show st.arm - ((countN (frameB (js.seq + 1) s).size : Nat) : Int) ≤ 0
    omega
  have hsy := sync_calm harm
  have hdata : ∀ w ∈ (laidSt st js.spot N (frameB (js.seq + 1) s)).later, w.2.size = 128 ∧ w.1 < st.safe.length := fun w hw => by
    have hw2 : w ∈ layW N (frameB (js.seq + 1) s) js.spot 0 (countN (frameB (js.seq + 1) s).size) := by
      have e : (laidSt st js.spot N (frameB (js.seq + 1) s)).later = layW N (frameB (js.seq + 1) s) js.spot 0 (countN (frameB (js.seq + 1) s).size) := by unfold laidSt; rw [h.later]; rfl
      rw [e] at hw; exact hw
    unfold layW at hw2
    obtain ⟨j, hj2, rfl⟩ := List.mem_map.mp hw2
    have := List.mem_range.mp hj2
    refine ⟨secB_size (partS_le _ _), ?_⟩
    show js.spot + (0 + j) < st.safe.length
    rw [h.len]; omega
  refine ⟨(laidSt st js.spot N (frameB (js.seq + 1) s)).tried.crash allOnes (-1) 0, ?_, ?_, fun j hjn => ?_⟩
  · unfold addJ
    rw [hs, if_neg (by decide), if_neg (fun e => e hN), if_neg (fun e => e hr), hlay]
    dsimp only
    rw [if_neg (fun e => e rfl), hsy]
    exact if_neg (fun e => e rfl)
  · refine ⟨?_, ?_, rfl, ?_, ?_⟩
    · rw [crash_length]; exact h.len
    · exact lasting_sizes _ _ _ (cutC_le 0) (laidSt st js.spot N (frameB (js.seq + 1) s)).later 0 st.safe hdata h.safe
    · have := h.ops
      show 0 ≤ st.ops + ((countN (frameB (js.seq + 1) s).size : Nat) : Int) + 1 ∧ st.ops + ((countN (frameB (js.seq + 1) s).size : Nat) : Int) + 1 ≤ _
      omega
    · have := h.arm
      show _ ≤ st.arm - ((countN (frameB (js.seq + 1) s).size : Nat) : Int) - 1 ∧ st.arm - ((countN (frameB (js.seq + 1) s).size : Nat) : Int) - 1 ≤ _
      omega
  · rw [sync_now _ j (by show j < st.safe.length; rw [h.len]; exact hjn), laid_now st js.spot N (frameB (js.seq + 1) s) h.later j, hcn]
/-- A record that was added lies there. -/
theorem added_rec {st st' : St} {n : Nat} {js : JSt} {N : Int} (hN : 1 ≤ N ∧ N ≤ 1152921504606846976) {s : ByteArray} (hs : s.size ≤ 32768) (hq : 0 ≤ js.seq ∧ js.seq < 1152921504606846976) (hu : js.spot + cntR s.size ≤ js.upto) (hun : js.upto ≤ n)
    (h : ∀ j, j < n → st'.now j = if js.spot ≤ j ∧ j < js.spot + cntR s.size then secB N (((j - js.spot : Nat)) : Int) (partS (frameB (js.seq + 1) s) (j - js.spot)) else st.now j) :
    RecAt st'.now js.spot js.upto (js.seq + 1) N s :=
  ⟨by omega, hN, hs, hu, fun i hi => by rw [h (js.spot + i) (by omega), if_pos (by omega), show js.spot + i - js.spot = i by omega]⟩
end Go.Proofs.Ytgolddcmhjdmdaa
