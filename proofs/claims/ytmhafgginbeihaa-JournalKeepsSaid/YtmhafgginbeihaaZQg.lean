/- Stage 5: what is taken of what was laid, behind a crash, too. Plain: no program, no condition. -/
/- Stage 5: the document's Count, Part and Number walked; the disk on which a law writes first. -/
/- StampLays' walk, out of the landed contracts. -/
/- StampGreatest's walk, out of the landed contracts. -/
import Derived.Test.YtmhafgginbeihaaZTr
import Derived.Test.YtmhafgginbeihaaZQt
import Derived.Test.YtmhafgginbeihaaZGa
import Derived.Test.YtmhafgginbeihaaZStrs
import Derived.StillTailTactics
namespace Go.Proofs.Ytmhafgginbeihaa
open Go Go.RowKit Cr

theorem zeros_head : (zerosB 128).extract 0 8 = intB 8 0 := by decide +kernel
theorem blank_none : leafOf (zerosB 128) = none := by
  cases h : leafOf (zerosB 128) with
  | none => rfl
  | some x =>
    obtain ⟨N, I, D⟩ := x
    obtain ⟨hk, e⟩ := leafOf_some h
    have h1 := (secB_head (N := N) (I := I) hk.d).symm.trans ((congrArg (fun s => s.extract 0 8) e).trans zeros_head)
    have hn := hk.n
    have := intB_inj8 (by omega) (by omega) h1
    omega
theorem part_ok {N : Int} (h0 : 1 ≤ N) (h1 : N ≤ 1152921504606846976) (s : ByteArray) (i : Nat) (hi : i < 4096) : LeafOk N ((i : Nat) : Int) (partS s i) := ⟨⟨h0, h1⟩, by omega, partS_le s i⟩
theorem nowAt_snoc (later : List (Nat × ByteArray)) (w : Nat × ByteArray) (i : Nat) (s : ByteArray) : nowAt (later ++ [w]) i s = if w.1 = i then w.2 else nowAt later i s := by
  unfold nowAt; rw [List.foldl_append]; rfl
theorem layW_snoc (N : Int) (s : ByteArray) (f i k : Nat) : layW N s f i (k + 1) = layW N s f i k ++ [(f + (i + k), secB N (((i + k : Nat)) : Int) (partS s (i + k)))] := by
  unfold layW
  rw [List.range_succ, List.map_append]
  rfl
/-- What sectors hold behind what is laid. -/
theorem now_laid (N : Int) (s : ByteArray) (f : Nat) (x : ByteArray) (j : Nat) : ∀ k, nowAt (layW N s f 0 k) j x = if f ≤ j ∧ j < f + k then secB N (((j - f : Nat)) : Int) (partS s (j - f)) else x
  | 0 => by
    rw [if_neg (by omega)]
    rfl
  | k + 1 => by
    rw [layW_snoc, nowAt_snoc]
    by_cases e : f + (0 + k) = j
    · rw [if_pos e, if_pos (by omega), show j - f = 0 + k by omega]
    · rw [if_neg e, now_laid N s f x j k]
      by_cases e2 : f ≤ j ∧ j < f + k
      · rw [if_pos e2, if_pos (by omega)]
      · rw [if_neg e2, if_neg (by omega)]
/-- What a sector is behind a crash, of writes of which each has its own one. -/
def OneLasts (sec old v : ByteArray) (c : Nat) : Prop := v = old ∨ v = sec ∨ v = mixB sec old c
end Go.Proofs.Ytmhafgginbeihaa
namespace Go.Proofs.Ytmhafgginbeihaa
open Go.RowKit Go.Sort Cr

set_option maxRecDepth 100000 in
set_option maxHeartbeats 1000000 in
theorem refcount_any (n : Nat) (hn : n ≤ 1099511627776) (w : World) : Calls Try.prog 18 #[.int .i64 (n : Int)] w fun e w' => e = .returned (.int .i64 ((countN n : Nat) : Int)) ∧ w = w' := by
  have h1 := countN_pos n
  have h2 := countN_ge n
  have h3 := countN_least n
  have h4 : countN n ≤ 1099511627776 := countN_stop n 1099511627776 (by omega) (by omega)
  generalize countN n = c at *
  replace h3 := Lib.hid h3
  go_enter Try.func18, Try.ntmps18
  go_wp2
  go_loopw [3] (fun i wr => ∃ k : Nat, 1 ≤ k ∧ k ≤ c ∧ i = .int .i64 k ∧ w = wr) (fun i _ => (c - RowKit.intOf i).toNat)
  case atStart => exact ⟨1, by omega, by omega, rfl, rfl⟩
  case round =>
    obtain ⟨k, hk1, hk, rfl, rfl⟩ := hrel
    by_cases hlt : k < c
    · have hs : 104 * k < n := by
        rcases h3.out k hlt with e | e
        · omega
        · exact e
      have hs2 : (k : Int) * 104 < (n : Int) := by omega
      go_wp2
      exact ⟨⟨k + 1, by omega, by omega, by go_num, by first | rfl | trivial⟩, by simp [RowKit.intOf]; omega⟩
    · obtain rfl : k = c := by omega
      have hs2 : ¬ (k : Int) * 104 < (n : Int) := by omega
      go_wp2
      go_ret
      exact ⟨rfl, rfl⟩
set_option maxRecDepth 100000 in
set_option maxHeartbeats 1000000 in
theorem refpart_any (s : ByteArray) (_hs : s.size ≤ 1099511627776) (i : Nat) (hi : i ≤ 1099511627776) (w : World) : Calls Try.prog 43 #[.string s, .int .i64 (i : Int)] w fun e w' => e = .returned (.string (partS s i)) ∧ w = w' := by
  have hp := Lib.hid (show partS s i = s.extract (min (104 * i) s.size) (min (104 * i + 104) s.size) from rfl)
  have e1 : min (104 * (i : Int)) (s.size : Int) = ((min (104 * i) s.size : Nat) : Int) := by omega
  have e2 : min (104 * (i : Int) + 104) (s.size : Int) = ((min (104 * i + 104) s.size : Nat) : Int) := by omega
  have b1 : min (104 * i) s.size ≤ min (104 * i + 104) s.size := by omega
  have b2 : min (104 * i + 104) s.size ≤ s.size := by omega
  rw [hp.out]
  clear hp
  generalize min (104 * i) s.size = a at *
  generalize min (104 * i + 104) s.size = b at *
  have b3 : (a : Int) ≤ (b : Int) := by omega
  have b4 : (b : Int) ≤ (s.size : Int) := by omega
  go_enter Try.func43, Try.ntmps43
  go_wp2
  go_ret
  exact ⟨rfl, rfl⟩
/-- A disk behind so many of a law's writes. -/
structure St.Wet (st : St) (k : Nat) : Prop where
  len : st.safe.length = 12
  safe : ∀ s ∈ st.safe, s.size = 128
  data : ∀ w ∈ st.later, w.2.size = 128 ∧ w.1 < st.safe.length
  few : st.later.length ≤ k
  ops : 0 ≤ st.ops ∧ st.ops ≤ k
  arm : -(k : Int) ≤ st.arm ∧ st.arm ≤ 0
theorem St.Wet.mono {st : St} {j k : Nat} (h : st.Wet j) (hk : j ≤ k) : st.Wet k :=
  ⟨h.len, h.safe, h.data, by have := h.few; omega, by have := h.ops; omega, by have := h.arm; omega⟩
theorem St.Wet.room {st : St} {k n : Nat} (h : st.Wet k) (hn : k + n ≤ 1000) : st.Room n where
  safe := h.safe
  data := h.data
  many := by rw [h.len]; omega
  few := by have := h.few; omega
  ops := by have := h.ops; omega
  arm := by have := h.arm; omega
theorem St.Wet.ok {st : St} {k : Nat} (h : st.Wet k) (hk : k ≤ 1000) : st.Ok := (h.room (n := 0) (by omega)).ok
theorem St.Wet.new : (St.new 12).Wet 0 where
  len := rfl
  safe := (St.Ok.new 12).safe
  data := (St.Ok.new 12).data
  few := by simp [St.new]
  ops := by simp [St.new]
  arm := by simp [St.new]
theorem St.Wet.write {st : St} {k : Nat} (h : st.Wet k) (i : Int) (s : ByteArray) : (st.write i s).2.Wet (k + 1) := by
  unfold St.write
  by_cases hg : st.goodW i s = true
  · rw [if_pos hg]
    have ht : st.tried.Wet (k + 1) := ⟨h.len, h.safe, h.data, by have := h.few; show st.later.length ≤ _; omega, by have := h.ops; show 0 ≤ st.ops + 1 ∧ st.ops + 1 ≤ _; omega, by have := h.arm; show _ ≤ st.arm - 1 ∧ st.arm - 1 ≤ _; omega⟩
    split
    · exact ht
    · refine ⟨h.len, h.safe, fun w hw => ?_, ?_, ht.ops, ht.arm⟩
      · rcases List.mem_append.mp hw with hw | hw
        · exact h.data w hw
        · rw [List.mem_singleton.mp hw]
          unfold St.goodW at hg
          simp only [Bool.and_eq_true, decide_eq_true_eq] at hg
          exact ⟨padB_size _ hg.2, by show i.toNat < st.safe.length; have := hg.1; omega⟩
      · show (st.later ++ [(i.toNat, padB s)]).length ≤ _
        have := h.few
        rw [List.length_append, List.length_singleton]; omega
  · rw [if_neg hg]
    exact h.mono (by omega)
theorem St.Wet.sync {st : St} {k : Nat} (h : st.Wet k) : st.sync.2.Wet (k + 1) ∧ st.sync.2.later = [] := by
  unfold St.sync
  have hf := fails_calm h.arm.2
  rw [hf, if_neg (by decide)]
  refine ⟨⟨?_, ?_, fun w hw => ?_, ?_, ?_, ?_⟩, rfl⟩
  · rw [crash_length]; exact h.len
  · exact lasting_sizes _ _ _ (cutC_le 0) st.later 0 st.safe h.data h.safe
  · simp [St.crash] at hw
  · simp [St.crash]
  · have := h.ops; show 0 ≤ st.ops + 1 ∧ st.ops + 1 ≤ _; omega
  · have := h.arm; show _ ≤ st.arm - 1 ∧ st.arm - 1 ≤ _; omega
/-- What is known while it is written. -/
structure Wetting (Dk : (Nat → Prop) → World → Nat → St → Prop) (w wr : World) (p k : Nat) : Prop where
  ex : ∃ F st, Dk F wr p st ∧ st.Wet (min k 12) ∧ ∀ j, F j → w.heap.size ≤ j
  below : Below w.heap.size w wr
theorem Wetting.next {Dk : (Nat → Prop) → World → Nat → St → Prop} {w wr w2 : World} {p k : Nat} {F : Nat → Prop} {st2 : St} (hF : ∀ j, F j → w.heap.size ≤ j) (hb : Below w.heap.size w wr) (hw : st2.Wet (min (k + 1) 12)) (h : DkPost Dk F p st2 wr w2) : Wetting Dk w w2 p (k + 1) := by
  obtain ⟨F', h1, h2, h3⟩ := h
  refine ⟨⟨F', st2, h1, hw, fun j hj => ?_⟩, hb.trans (h2.to_below hb.size hF)⟩
  by_cases e : j < wr.heap.size
  · exact hF j (h3 j e hj)
  · have := hb.size; omega
end Go.Proofs.Ytmhafgginbeihaa
namespace Go.Proofs.Ytmhafgginbeihaa
open Go.RowKit Go.Sort Cr

theorem empty_none : leafOf ByteArray.empty = none := by
  cases h : leafOf ByteArray.empty with
  | none => rfl
  | some x =>
    obtain ⟨N, I, D⟩ := x
    obtain ⟨hk, e⟩ := leafOf_some h
    have h1 := secB_size (N := N) (I := I) hk.d
    rw [e] at h1
    exact absurd h1 (by decide)
/-- A disk on which something was laid. -/
def laidSt (st : St) (f : Nat) (N : Int) (s : ByteArray) : St := { st with later := st.later ++ layW N s f 0 (countN s.size), ops := st.ops + (countN s.size : Nat), arm := st.arm - (countN s.size : Nat) }
theorem lay_good {st : St} {fr upto N : Int} (h : layPlace st fr upto N = true) (s : ByteArray) (hl : ¬ upto - fr < ((countN s.size : Nat) : Int)) (ha : st.arm ≤ 0) : st.lay fr upto N s = (0, laidSt st fr.toNat N s) := by
  unfold St.lay
  rw [if_pos h, if_neg hl]
  unfold layPlace at h
  simp only [Bool.and_eq_true, decide_eq_true_eq] at h
  rw [layAll_calm N s fr.toNat (countN s.size) 0 st ha (by omega)]
  rfl
theorem laid_now (st : St) (f : Nat) (N : Int) (s : ByteArray) (h : st.later = []) (j : Nat) : (laidSt st f N s).now j = if f ≤ j ∧ j < f + countN s.size then secB N (((j - f : Nat)) : Int) (partS s (j - f)) else st.now j := by
  have e : (laidSt st f N s).now j = nowAt (layW N s f 0 (countN s.size)) j (st.safe.getD j ByteArray.empty) := by
    unfold laidSt St.now
    rw [h]; rfl
  have e2 : st.now j = st.safe.getD j ByteArray.empty := by unfold St.now nowAt; rw [h]; rfl
  rw [e, now_laid, e2]
end Go.Proofs.Ytmhafgginbeihaa
namespace Go.Proofs.Ytmhafgginbeihaa
open Go.RowKit Go.Sort Cr

/-- A disk of the law's own. -/
structure Have (Dk : (Nat → Prop) → World → Nat → St → Prop) (w wr : World) (p : Nat) (st : St) : Prop where
  ex : ∃ F, Dk F wr p st ∧ ∀ k, F k → w.heap.size ≤ k
  below : Below w.heap.size w wr
section
variable {Dk : (Nat → Prop) → World → Nat → St → Prop} {w wr w2 : World} {p : Nat} {st st2 : St}
theorem Have.later (K : LandedDk Dk) (h : Have Dk w wr p st) (hb : Below wr.heap.size wr w2) : Have Dk w w2 p st := by
  obtain ⟨⟨F, h1, h2⟩, h3⟩ := h
  exact ⟨⟨F, K.later h1 hb, h2⟩, h3.trans (hb.mono h3.size)⟩
theorem Have.post {F : Nat → Prop} (hF : ∀ k, F k → w.heap.size ≤ k) (hb : Below w.heap.size w wr) (h : DkPost Dk F p st2 wr w2) : Have Dk w w2 p st2 := by
  obtain ⟨F', h1, h2, h3⟩ := h
  refine ⟨⟨F', h1, fun j hj => ?_⟩, hb.trans (h2.to_below hb.size hF)⟩
  by_cases e : j < wr.heap.size
  · exact hF j (h3 j e hj)
  · have := hb.size; omega
theorem Have.of_wet {w1 : World} {F : Nat → Prop} (hb : Below w.heap.size w w1) (h1 : Dk F w2 p st) (h2 : ∀ k, F k → w1.heap.size ≤ k) (h3 : Below w1.heap.size w1 w2) : Have Dk w w2 p st :=
  ⟨⟨F, h1, fun k hk => by have := h2 k hk; have := hb.size; omega⟩, hb.trans (h3.mono hb.size)⟩
/-- A sector read. -/
theorem Have.read (K : LandedDk Dk) (h : Have Dk w wr p st) (hok : st.Ok) (i : Nat) (hi : i < st.safe.length) :
    Calls Try.prog 24 #[.pointer (some ⟨p, 0, none⟩), .int .i64 (i : Int)] wr fun e w2 => e = .returned (.tuple #[.string (st.now i), .int .i64 0]) ∧ Have Dk w w2 p st := by
  obtain ⟨⟨F, h1, h2⟩, h3⟩ := h
  refine (K.read F wr p st (i : Int) h1 hok).mono ?_
  rintro e w2 ⟨rfl, hb⟩
  refine ⟨?_, ⟨⟨F, K.later h1 hb, h2⟩, h3.trans (hb.mono h3.size)⟩⟩
  have e1 : rdS st (i : Int) = st.now i := by unfold rdS; rw [if_pos ⟨by omega, by omega⟩, Int.toNat_natCast]
  have e2 : rdE st (i : Int) = 0 := by unfold rdE; rw [if_pos ⟨by omega, by omega⟩]
  rw [e1, e2]
theorem now_size {st : St} (hok : st.Ok) (i : Nat) (hi : i < st.safe.length) : (st.now i).size = 128 := by
  have h0 : (st.safe.getD i ByteArray.empty).size = 128 := by
    rw [List.getD_eq_getElem?_getD, List.getElem?_eq_getElem hi]
    exact hok.safe _ (List.getElem_mem hi)
  have hd := hok.data
  unfold St.now
  generalize st.safe.getD i ByteArray.empty = x at *
  generalize st.later = L at *
  unfold nowAt
  induction L generalizing x with
  | nil => exact h0
  | cons v r ih =>
    rw [List.foldl_cons]
    refine ih _ ?_ (fun w hw => hd w (List.mem_cons_of_mem _ hw))
    split
    · exact (hd v (List.mem_cons_self ..)).1
    · exact h0
end
end Go.Proofs.Ytmhafgginbeihaa
