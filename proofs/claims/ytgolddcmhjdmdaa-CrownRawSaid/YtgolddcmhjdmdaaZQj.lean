/- Stage 5: what is taken of what was laid, behind a crash, too. Plain: no program, no condition. -/
/- StampLays' walk, out of the landed contracts. -/
/- StampGreatest's walk, out of the landed contracts. -/
/- StampCrash' walk, out of the landed contracts. -/
import Derived.Test.YtgolddcmhjdmdaaZQt
import Derived.Test.YtgolddcmhjdmdaaZQe
import Derived.StillTailTactics
namespace Go.Proofs.Ytgolddcmhjdmdaa
open Go Go.RowKit Cr

theorem zeros_head : (zerosB 128).extract 0 8 = intB 8 0 := by decide +kernel
theorem blank_none : leafOf (zerosB 128) = none := by
  cases h : leafOf (zerosB 128) with
  | none => rfl
  | some x =>
    obtain ⟨N, I, D⟩ := x
    obtain ⟨hk, e⟩ := leafOf_some h
    have h1 := (secB_head (N := N) (I := I) hk.d).symm.trans ((congrArg (fun s => s.extract 0 8) e).trans zeros_head)
    have hn := hk.n
    have := intB_inj8 (by omega) (by omega) h1
    omega
theorem part_ok {N : Int} (h0 : 1 ≤ N) (h1 : N ≤ 1152921504606846976) (s : ByteArray) (i : Nat) (hi : i < 4096) : LeafOk N ((i : Nat) : Int) (partS s i) := ⟨⟨h0, h1⟩, by omega, partS_le s i⟩
theorem nowAt_snoc (later : List (Nat × ByteArray)) (w : Nat × ByteArray) (i : Nat) (s : ByteArray) : nowAt (later ++ [w]) i s = if w.1 = i then w.2 else nowAt later i s := by
  unfold nowAt; rw [List.foldl_append]; rfl
theorem layW_snoc (N : Int) (s : ByteArray) (f i k : Nat) : layW N s f i (k + 1) = layW N s f i k ++ [(f + (i + k), secB N (((i + k : Nat)) : Int) (partS s (i + k)))] := by
  unfold layW
  rw [List.range_succ, List.map_append]
  rfl
/-- What sectors hold behind what is laid. -/
theorem now_laid (N : Int) (s : ByteArray) (f : Nat) (x : ByteArray) (j : Nat) : ∀ k, nowAt (layW N s f 0 k) j x = if f ≤ j ∧ j < f + k then secB N (((j - f : Nat)) : Int) (partS s (j - f)) else x
  | 0 => by
    rw [if_neg (by omega)]
    rfl
  | k + 1 => by
    rw [layW_snoc, nowAt_snoc]
    by_cases e : f + (0 + k) = j
    · rw [if_pos e, if_pos (by omega), show j - f = 0 + k by omega]
    · rw [if_neg e, now_laid N s f x j k]
      by_cases e2 : f ≤ j ∧ j < f + k
      · rw [if_pos e2, if_pos (by omega)]
      · rw [if_neg e2, if_neg (by omega)]
/-- What a sector is behind a crash, of writes of which each has its own one. -/
def OneLasts (sec old v : ByteArray) (c : Nat) : Prop := v = old ∨ v = sec ∨ v = mixB sec old c
end Go.Proofs.Ytgolddcmhjdmdaa
namespace Go.Proofs.Ytgolddcmhjdmdaa
open Go.RowKit Go.Sort Cr

theorem empty_none : leafOf ByteArray.empty = none := by
  cases h : leafOf ByteArray.empty with
  | none => rfl
  | some x =>
    obtain ⟨N, I, D⟩ := x
    obtain ⟨hk, e⟩ := leafOf_some h
    have h1 := secB_size (N := N) (I := I) hk.d
    rw [e] at h1
    exact absurd h1 (by decide)
theorem lay_bad {st : St} {fr upto N : Int} (h : layPlace st fr upto N = false) (s : ByteArray) : st.lay fr upto N s = (1, st) := by
  unfold St.lay; rw [h, if_neg (by decide)]
theorem lay_long {st : St} {fr upto N : Int} (h : layPlace st fr upto N = true) (s : ByteArray) (hl : upto - fr < ((countN s.size : Nat) : Int)) : st.lay fr upto N s = (3, st) := by
  unfold St.lay; rw [if_pos h, if_pos hl]
/-- A disk on which something was laid. -/
def laidSt (st : St) (f : Nat) (N : Int) (s : ByteArray) : St := { st with later := st.later ++ layW N s f 0 (countN s.size), ops := st.ops + (countN s.size : Nat), arm := st.arm - (countN s.size : Nat) }
theorem lay_good {st : St} {fr upto N : Int} (h : layPlace st fr upto N = true) (s : ByteArray) (hl : ¬ upto - fr < ((countN s.size : Nat) : Int)) (ha : st.arm ≤ 0) : st.lay fr upto N s = (0, laidSt st fr.toNat N s) := by
  unfold St.lay
  rw [if_pos h, if_neg hl]
  unfold layPlace at h
  simp only [Bool.and_eq_true, decide_eq_true_eq] at h
  rw [layAll_calm N s fr.toNat (countN s.size) 0 st ha (by omega)]
  rfl
theorem layW_length (N : Int) (s : ByteArray) (f i k : Nat) : (layW N s f i k).length = k := by unfold layW; rw [List.length_map, List.length_range]
theorem laid_now (st : St) (f : Nat) (N : Int) (s : ByteArray) (h : st.later = []) (j : Nat) : (laidSt st f N s).now j = if f ≤ j ∧ j < f + countN s.size then secB N (((j - f : Nat)) : Int) (partS s (j - f)) else st.now j := by
  have e : (laidSt st f N s).now j = nowAt (layW N s f 0 (countN s.size)) j (st.safe.getD j ByteArray.empty) := by
    unfold laidSt St.now
    rw [h]; rfl
  have e2 : st.now j = st.safe.getD j ByteArray.empty := by unfold St.now nowAt; rw [h]; rfl
  rw [e, now_laid, e2]
end Go.Proofs.Ytgolddcmhjdmdaa
namespace Go.Proofs.Ytgolddcmhjdmdaa
open Go.RowKit Go.Sort Cr

/-- A disk of the law's own. -/
structure Have (Dk : (Nat → Prop) → World → Nat → St → Prop) (w wr : World) (p : Nat) (st : St) : Prop where
  ex : ∃ F, Dk F wr p st ∧ ∀ k, F k → w.heap.size ≤ k
  below : Below w.heap.size w wr
section
variable {Dk : (Nat → Prop) → World → Nat → St → Prop} {w wr w2 : World} {p : Nat} {st st2 : St}
theorem Have.later (K : LandedDk Dk) (h : Have Dk w wr p st) (hb : Below wr.heap.size wr w2) : Have Dk w w2 p st := by
  obtain ⟨⟨F, h1, h2⟩, h3⟩ := h
  exact ⟨⟨F, K.later h1 hb, h2⟩, h3.trans (hb.mono h3.size)⟩
theorem Have.post {F : Nat → Prop} (hF : ∀ k, F k → w.heap.size ≤ k) (hb : Below w.heap.size w wr) (h : DkPost Dk F p st2 wr w2) : Have Dk w w2 p st2 := by
  obtain ⟨F', h1, h2, h3⟩ := h
  refine ⟨⟨F', h1, fun j hj => ?_⟩, hb.trans (h2.to_below hb.size hF)⟩
  by_cases e : j < wr.heap.size
  · exact hF j (h3 j e hj)
  · have := hb.size; omega
/-- A sector read. -/
theorem Have.read (K : LandedDk Dk) (h : Have Dk w wr p st) (hok : st.Ok) (i : Nat) (hi : i < st.safe.length) :
    Calls Try.prog 20 #[.pointer (some ⟨p, 0, none⟩), .int .i64 (i : Int)] wr fun e w2 => e = .returned (.tuple #[.string (st.now i), .int .i64 0]) ∧ Have Dk w w2 p st := by
  obtain ⟨⟨F, h1, h2⟩, h3⟩ := h
  refine (K.read F wr p st (i : Int) h1 hok).mono ?_
  rintro e w2 ⟨rfl, hb⟩
  refine ⟨?_, ⟨⟨F, K.later h1 hb, h2⟩, h3.trans (hb.mono h3.size)⟩⟩
  have e1 : rdS st (i : Int) = st.now i := by unfold rdS; rw [if_pos ⟨by omega, by omega⟩, Int.toNat_natCast]
  have e2 : rdE st (i : Int) = 0 := by unfold rdE; rw [if_pos ⟨by omega, by omega⟩]
  rw [e1, e2]
theorem now_size {st : St} (hok : st.Ok) (i : Nat) (hi : i < st.safe.length) : (st.now i).size = 128 := by
  have h0 : (st.safe.getD i ByteArray.empty).size = 128 := by
    rw [List.getD_eq_getElem?_getD, List.getElem?_eq_getElem hi]
    exact hok.safe _ (List.getElem_mem hi)
  have hd := hok.data
  unfold St.now
  generalize st.safe.getD i ByteArray.empty = x at *
  generalize st.later = L at *
  unfold nowAt
  induction L generalizing x with
  | nil => exact h0
  | cons v r ih =>
    rw [List.foldl_cons]
    refine ih _ ?_ (fun w hw => hd w (List.mem_cons_of_mem _ hw))
    split
    · exact (hd v (List.mem_cons_self ..)).1
    · exact h0
end
end Go.Proofs.Ytgolddcmhjdmdaa
namespace Go.Proofs.Ytgolddcmhjdmdaa
open Go.RowKit Go.Sort Cr

theorem toList_beq (x y : ByteArray) : (x.toList == y.toList) = decide (x = y) := by
  by_cases h : x = y
  · subst h
    rw [decide_eq_true rfl, beq_iff_eq]
  · rw [decide_eq_false h, beq_eq_false_iff_ne]
    intro e
    rw [ByteArray.toList_eq, ByteArray.toList_eq] at e
    exact h (ByteArray.ext (Array.toList_inj.mp e))
end Go.Proofs.Ytgolddcmhjdmdaa
