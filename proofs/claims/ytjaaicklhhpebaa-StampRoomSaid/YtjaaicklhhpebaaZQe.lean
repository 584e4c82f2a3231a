/- Stage 5: the document's Count, Part and Number walked; the disk on which a law writes first. -/
import Derived.Test.YtjaaicklhhpebaaZTr
import Derived.Test.YtjaaicklhhpebaaZQu
import Derived.Test.YtjaaicklhhpebaaZStrs
namespace Go.Proofs.Ytjaaicklhhpebaa
open Go.RowKit Go.Sort Cr

set_option maxRecDepth 100000 in
set_option maxHeartbeats 1000000 in
theorem refcount_any (n : Nat) (hn : n ≤ 1099511627776) (w : World) : Calls Try.prog 17 #[.int .i64 (n : Int)] w fun e w' => e = .returned (.int .i64 ((countN n : Nat) : Int)) ∧ w = w' := by
  have h1 := countN_pos n
  have h2 := countN_ge n
  have h3 := countN_least n
  have h4 : countN n ≤ 1099511627776 := countN_stop n 1099511627776 (by omega) (by omega)
  generalize countN n = c at *
  replace h3 := Lib.hid h3
  go_enter Try.func17, Try.ntmps17
  go_wp2
  go_loopw [3] (fun i wr => ∃ k : Nat, 1 ≤ k ∧ k ≤ c ∧ i = .int .i64 k ∧ w = wr) (fun i _ => (c - intOf i).toNat)
  case atStart => exact ⟨1, by omega, by omega, rfl, rfl⟩
  case round =>
    obtain ⟨k, hk1, hk, rfl, rfl⟩ := hrel
    by_cases hlt : k < c
    · have hs : 104 * k < n := by
        rcases h3.out k hlt with e | e
        · omega
        · exact e
      have hs2 : (k : Int) * 104 < (n : Int) := by omega
      go_wp2
      exact ⟨⟨k + 1, by omega, by omega, by go_num, by first | rfl | trivial⟩, by simp [intOf]; omega⟩
    · obtain rfl : k = c := by omega
      have hs2 : ¬ (k : Int) * 104 < (n : Int) := by omega
      go_wp2
      go_ret
      exact ⟨rfl, rfl⟩
set_option maxRecDepth 100000 in
set_option maxHeartbeats 1000000 in
theorem refpart_any (s : ByteArray) (_hs : s.size ≤ 1099511627776) (i : Nat) (hi : i ≤ 1099511627776) (w : World) : Calls Try.prog 25 #[.string s, .int .i64 (i : Int)] w fun e w' => e = .returned (.string (partS s i)) ∧ w = w' := by
  have hp := Lib.hid (show partS s i = s.extract (min (104 * i) s.size) (min (104 * i + 104) s.size) from rfl)
  have e1 : min (104 * (i : Int)) (s.size : Int) = ((min (104 * i) s.size : Nat) : Int) := by omega
  have e2 : min (104 * (i : Int) + 104) (s.size : Int) = ((min (104 * i + 104) s.size : Nat) : Int) := by omega
  have b1 : min (104 * i) s.size ≤ min (104 * i + 104) s.size := by omega
  have b2 : min (104 * i + 104) s.size ≤ s.size := by omega
  rw [hp.out]
  clear hp
  generalize min (104 * i) s.size = a at *
  generalize min (104 * i + 104) s.size = b at *
  have b3 : (a : Int) ≤ (b : Int) := by omega
  have b4 : (b : Int) ≤ (s.size : Int) := by omega
  go_enter Try.func25, Try.ntmps25
  go_wp2
  go_ret
  exact ⟨rfl, rfl⟩
set_option maxRecDepth 100000 in
set_option maxHeartbeats 1000000 in
theorem refnumber_any (s : ByteArray) (hs : s.size ≤ 8) (w : World) : Calls Try.prog 22 #[.string s] w fun e w' => e = .returned (.int .i64 (numE s)) ∧ w = w' := by
  have hb := Lib.hid (refback_any s hs)
  have hn := Lib.hid (show numE s = if 1 ≤ backZ s ∧ backZ s ≤ 1152921504606846976 then backZ s else 0 from rfl)
  rw [hn.out]
  clear hn
  generalize backZ s = z at *
  by_cases h1 : z < 1
  · rw [if_neg (by omega)]
    have d1 : decide (z < 1) = true := decide_eq_true h1
    replace h1 := Lib.hid h1
    go_enter Try.func22, Try.ntmps22
    go_wp2_with fail
    refine (hb.out _).mono ?_
    rintro e w1 ⟨rfl, rfl⟩
    go_wp2
    go_ret
    exact ⟨rfl, rfl⟩
  · have d1 : decide (z < 1) = false := decide_eq_false h1
    by_cases h2 : 1152921504606846976 < z
    · rw [if_neg (by omega)]
      have d2 : decide (1152921504606846976 < z) = true := decide_eq_true h2
      replace h1 := Lib.hid h1
      replace h2 := Lib.hid h2
      go_enter Try.func22, Try.ntmps22
      go_wp2_with fail
      refine (hb.out _).mono ?_
      rintro e w1 ⟨rfl, rfl⟩
      go_wp2
      go_ret
      exact ⟨rfl, rfl⟩
    · rw [if_pos (by omega)]
      have d2 : decide (1152921504606846976 < z) = false := decide_eq_false h2
      replace h1 := Lib.hid h1
      replace h2 := Lib.hid h2
      go_enter Try.func22, Try.ntmps22
      go_wp2_with fail
      refine (hb.out _).mono ?_
      rintro e w1 ⟨rfl, rfl⟩
      go_wp2
      go_ret
      exact ⟨rfl, rfl⟩

/-- A disk behind so many of a law's writes. -/
structure St.Wet (st : St) (k : Nat) : Prop where
  len : st.safe.length = 12
  safe : ∀ s ∈ st.safe, s.size = 128
  data : ∀ w ∈ st.later, w.2.size = 128 ∧ w.1 < st.safe.length
  few : st.later.length ≤ k
  ops : 0 ≤ st.ops ∧ st.ops ≤ k
  arm : -(k : Int) ≤ st.arm ∧ st.arm ≤ 0
theorem St.Wet.mono {st : St} {j k : Nat} (h : st.Wet j) (hk : j ≤ k) : st.Wet k :=
  ⟨h.len, h.safe, h.data, by have := h.few; omega, by have := h.ops; omega, by have := h.arm; omega⟩
theorem St.Wet.room {st : St} {k n : Nat} (h : st.Wet k) (hn : k + n ≤ 1000) : st.Room n where
  safe := h.safe
  data := h.data
  many := by rw [h.len]; omega
  few := by have := h.few; omega
  ops := by have := h.ops; omega
  arm := by have := h.arm; omega
theorem St.Wet.ok {st : St} {k : Nat} (h : st.Wet k) (hk : k ≤ 1000) : st.Ok := (h.room (n := 0) (by omega)).ok
theorem St.Wet.new : (St.new 12).Wet 0 where
  len := rfl
  safe := (St.Ok.new 12).safe
  data := (St.Ok.new 12).data
  few := by simp [St.new]
  ops := by simp [St.new]
  arm := by simp [St.new]
theorem St.Wet.write {st : St} {k : Nat} (h : st.Wet k) (i : Int) (s : ByteArray) : (st.write i s).2.Wet (k + 1) := by
  unfold St.write
  by_cases hg : st.goodW i s = true
  · rw [if_pos hg]
    have ht : st.tried.Wet (k + 1) := ⟨h.len, h.safe, h.data, by have := h.few; show st.later.length ≤ _; omega, by have := h.ops; show 0 ≤ st.ops + 1 ∧ st.ops + 1 ≤ _; omega, by have := h.arm; show _ ≤ st.arm - 1 ∧ st.arm - 1 ≤ _; omega⟩
    split
    · exact ht
    · refine ⟨h.len, h.safe, fun w hw => ?_, ?_, ht.ops, ht.arm⟩
      · rcases List.mem_append.mp hw with hw | hw
        · exact h.data w hw
        · rw [List.mem_singleton.mp hw]
          unfold St.goodW at hg
          simp only [Bool.and_eq_true, decide_eq_true_eq] at hg
          exact ⟨padB_size _ hg.2, by show i.toNat < st.safe.length; have := hg.1; omega⟩
      · show (st.later ++ [(i.toNat, padB s)]).length ≤ _
        have := h.few
        rw [List.length_append, List.length_singleton]; omega
  · rw [if_neg hg]
    exact h.mono (by omega)
theorem St.Wet.sync {st : St} {k : Nat} (h : st.Wet k) : st.sync.2.Wet (k + 1) ∧ st.sync.2.later = [] := by
  unfold St.sync
  have hf := fails_calm h.arm.2
  rw [hf, if_neg (by decide)]
  refine ⟨⟨?_, ?_, fun w hw => ?_, ?_, ?_, ?_⟩, rfl⟩
  · rw [crash_length]; exact h.len
  · exact lasting_sizes _ _ _ (cutC_le 0) st.later 0 st.safe h.data h.safe
  · simp [St.crash] at hw
  · simp [St.crash]
  · have := h.ops; show 0 ≤ st.ops + 1 ∧ st.ops + 1 ≤ _; omega
  · have := h.arm; show _ ≤ st.arm - 1 ∧ st.arm - 1 ≤ _; omega
/-- What a law's 'disk' answers. -/
def WetPost (Dk : (Nat → Prop) → World → Nat → St → Prop) (W : World) (e : Ending) (W' : World) : Prop :=
  ∃ p F st, e = .returned (.pointer (some ⟨p, 0, none⟩)) ∧ Dk F W' p st ∧ st.Wet 13 ∧ st.later = [] ∧ (∀ k, F k → W.heap.size ≤ k) ∧ Below W.heap.size W W'
/-- What is known while it is written. -/
structure Wetting (Dk : (Nat → Prop) → World → Nat → St → Prop) (w wr : World) (p k : Nat) : Prop where
  ex : ∃ F st, Dk F wr p st ∧ st.Wet (min k 12) ∧ ∀ j, F j → w.heap.size ≤ j
  below : Below w.heap.size w wr
theorem Wetting.next {Dk : (Nat → Prop) → World → Nat → St → Prop} {w wr w2 : World} {p k : Nat} {F : Nat → Prop} {st2 : St} (hF : ∀ j, F j → w.heap.size ≤ j) (hb : Below w.heap.size w wr) (hw : st2.Wet (min (k + 1) 12)) (h : DkPost Dk F p st2 wr w2) : Wetting Dk w w2 p (k + 1) := by
  obtain ⟨F', h1, h2, h3⟩ := h
  refine ⟨⟨F', st2, h1, hw, fun j hj => ?_⟩, hb.trans (h2.to_below hb.size hF)⟩
  by_cases e : j < wr.heap.size
  · exact hF j (h3 j e hj)
  · have := hb.size; omega
set_option maxRecDepth 100000 in
set_option maxHeartbeats 1000000 in
theorem disk_any {Dk : (Nat → Prop) → World → Nat → St → Prop} (K : LandedDk Dk) (ao : Option Addr) (cap : Nat) (l : List ByteArray) (hlen : l.length ≤ 140737488351232) (w : World) (hS : StrsAt w ao l) :
    Calls Try.prog 20 #[.slice ao l.length cap] w (WetPost Dk w) := by
  have hnew := Lib.hid (fun W => K.new 12 W (by decide) (by decide))
  have hw0 := Lib.hid St.Wet.new
  generalize St.new 12 = st0 at *
  go_enter Try.func20, Try.ntmps20
  go_wp2_with fail
  refine (hnew.out _).mono ?_
  rintro e w2 ⟨p, F, rfl, hD, hF, hb⟩
  have hT0 : Wetting Dk w w2 p 0 := ⟨⟨F, st0, hD, hw0.out, hF⟩, hb⟩
  clear hD hF hb hnew hw0
  go_wp2
  go_loopw [9] (fun i wr => ∃ k : Nat, k ≤ l.length ∧ i = .int .i64 k ∧ Wetting Dk w wr p k) (fun i _ => (l.length - intOf i).toNat)
  case atStart => exact ⟨0, by omega, rfl, hT0⟩
  case round =>
    clear hT0
    obtain ⟨k, hk, rfl, hT⟩ := hrel
    by_cases hlt : k < l.length
    · obtain ⟨b, off, rfl, hbl, hc⟩ := (hS.below hT.below (Nat.le_refl _)).spot k hlt
      generalize l[k] = t at *
      by_cases hq : k < 12 ∧ t.size ≤ 128
      · obtain ⟨q1, q2⟩ := hq
        obtain ⟨⟨F, st, hD, hW, hF⟩, hb⟩ := hT
        have hWr := Lib.hid (K.write F wr p st (k : Int) t hD (hW.ok (by omega)) (by omega))
        have hN := Lib.hid (fun w2 h => Wetting.next (Dk := Dk) (w := w) (wr := wr) (w2 := w2) (p := p) (k := k) hF hb (show (st.write (k : Int) t).2.Wet (min (k + 1) 12) from by rw [show min (k + 1) 12 = min k 12 + 1 by omega]; exact hW.write _ _) h)
        have d1 : (k : Int) < 12 := by omega
        have d2 : (t.size : Int) ≤ 128 := by omega
        clear hD hW hF hb
        go_wp2_with fail
        refine hWr.out.mono ?_
        rintro e w3 ⟨rfl, hP⟩
        have hT3 := Lib.hid (hN.out _ hP)
        clear hP hN hWr
        go_wp2
        exact ⟨⟨k + 1, by omega, by go_num, hT3.out⟩, by simp [intOf]; omega⟩
      · have hT3 : Wetting Dk w wr p (k + 1) := by
          obtain ⟨⟨F, st, hD, hW, hF⟩, hb⟩ := hT
          exact ⟨⟨F, st, hD, hW.mono (by omega), hF⟩, hb⟩
        have hq' : (12 : Int) ≤ (k : Int) ∨ ((k : Int) < 12 ∧ (128 : Int) < (t.size : Int)) := by omega
        replace hT3 := Lib.hid hT3
        clear hq hT
        rcases hq' with q | ⟨q, q'⟩
        all_goals
          go_wp2
          exact ⟨⟨k + 1, by omega, by go_num, hT3.out⟩, by simp [intOf]; omega⟩
    · obtain rfl : k = l.length := by omega
      obtain ⟨⟨F, st, hD, hW, hF⟩, hb⟩ := hT
      have hW' := hW.mono (show min l.length 12 ≤ 12 by omega)
      have hSy := Lib.hid (K.sync F wr p st hD (hW'.ok (by omega)))
      have hW2 := hW'.sync
      clear hD hW hW'
      go_wp2_with fail
      refine hSy.out.mono ?_
      rintro e w3 ⟨rfl, F', h1, h2, h3⟩
      have hfin : WetPost Dk w (.returned (.pointer (some ⟨p, 0, none⟩))) w3 := ⟨p, F', st.sync.2, rfl, h1, hW2.1, hW2.2, fun j hj => by
        by_cases e : j < wr.heap.size
        · exact hF j (h3 j e hj)
        · have := hb.size; omega, hb.trans (h2.to_below hb.size hF)⟩
      replace hfin := Lib.hid hfin
      clear h1 h2 h3 hW2 hF hb hSy
      go_wp2
      go_ret
      exact hfin.out
end Go.Proofs.Ytjaaicklhhpebaa
