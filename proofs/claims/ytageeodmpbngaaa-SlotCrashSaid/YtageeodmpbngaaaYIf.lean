/- SlotOver's walk, out of the landed contracts. -/
/- Stage 7: a crash while something is put into the second slot: what is left. Plain: no program, no condition. -/
import Derived.Test.YtageeodmpbngaaaYIb
import Derived.Test.YtageeodmpbngaaaYIp
import Derived.Test.YtageeodmpbngaaaYQj
namespace Go.Proofs.Ytageeodmpbngaaa
open Go.RowKit Go.Sort Cr

theorem count_30 {n : Nat} (h : n ≤ 3000) : countN n ≤ 30 := countN_stop n 30 (by omega) (by omega)
end Go.Proofs.Ytageeodmpbngaaa
namespace Go.Proofs.Ytageeodmpbngaaa
open Go Go.RowKit Cr

/-- What a crash leaves while something is put into the second slot. -/
def CrashAll (n : Nat) (a b : ByteArray) (fail : Int) (mask : Nat) (torn cut : Int) : Prop :=
  ∃ st1 e st2, (St.new (n : Int)).put 2 (sizeP n) 1 a = (0, st1) ∧ st1.Calm n 40 ∧ (st1.armed fail).Room 40 ∧
    (st1.armed fail).put (2 + sizeP n) (sizeP n) 2 b = (e, st2) ∧ st2.Ok ∧ (st2.crashed mask torn cut).Ok ∧ (st2.crashed mask torn cut).safe.length = n ∧
    (st2.crashed mask torn cut).take ((2 : Nat) : Int) ((2 + sizeP n : Nat) : Int) 1 (a.size : Int) = some a ∧
    (st2.crashed mask torn cut).great ≤ 2 ∧
    (((st2.crashed mask torn cut).take ((2 + sizeP n : Nat) : Int) ((2 + sizeP n + sizeP n : Nat) : Int) 2 (b.size : Int) = some b ∧
        wholeB (fun i => (st2.crashed mask torn cut).now (2 + sizeP n + i)) (fun i => secB 2 ((i : Nat) : Int) (partS b i)) (countN b.size) = true) ∨
      (e ≠ 0 ∧ (st2.crashed mask torn cut).take ((2 + sizeP n : Nat) : Int) ((2 + sizeP n + sizeP n : Nat) : Int) 2 (b.size : Int) = none ∧
        wholeB (fun i => (st2.crashed mask torn cut).now (2 + sizeP n + i)) (fun i => secB 2 ((i : Nat) : Int) (partS b i)) (countN b.size) = false))
/-- What is left, by the sectors that a crash left. -/
theorem crash_left {n : Nat} (h12 : 12 ≤ n) {a b : ByteArray} {st0 st3 : St} (hI : st3.Idle n 200) (_hn : n ≤ 4096) (fa : countN a.size ≤ sizeP n) (fb : countN b.size ≤ sizeP n) (hb : countN b.size ≤ 30)
    (hs0 : ∀ i, i < countN a.size → st0.now (2 + i) = secB 1 ((i : Nat) : Int) (partS a i)) (hs1 : ∀ j, 2 + sizeP n ≤ j → j < n → st0.now j = zerosB 128)
    (he : EndsBelow st0.now n 2) (hF : Flown st0.now st3.now (2 + sizeP n) (countN b.size) ((2 : Nat) : Int) b) :
    st3.take ((2 : Nat) : Int) ((2 + sizeP n : Nat) : Int) 1 (a.size : Int) = some a ∧ st3.great ≤ 2 ∧
    ((st3.take ((2 + sizeP n : Nat) : Int) ((2 + sizeP n + sizeP n : Nat) : Int) 2 (b.size : Int) = some b ∧ wholeB (fun i => st3.now (2 + sizeP n + i)) (fun i => secB 2 ((i : Nat) : Int) (partS b i)) (countN b.size) = true) ∨
      (st3.take ((2 + sizeP n : Nat) : Int) ((2 + sizeP n + sizeP n : Nat) : Int) 2 (b.size : Int) = none ∧ wholeB (fun i => st3.now (2 + sizeP n + i)) (fun i => secB 2 ((i : Nat) : Int) (partS b i)) (countN b.size) = false ∧
        ∃ i, i < countN b.size ∧ st3.now (2 + sizeP n + i) ≠ secB 2 ((i : Nat) : Int) (partS b i))) := by
  have hpe := plan_ends h12
  have hsz := sizeP_le n
  refine ⟨?_, ?_, ?_⟩
  · rw [St.take_at hI.len 2 (sizeP n) (by omega), if_pos fa]
    refine take_whole (by omega) (by omega) (by omega) (fun i hi => ?_)
    rw [hF.rest _ (.inl (by omega))]
    exact hs0 i hi
  · have h3 := hF.ends (by omega) (by omega) he
    have := great_below h3 (by omega) n (Nat.le_refl _)
    show greatN st3.now st3.safe.length ≤ 2
    rw [hI.len]
    omega
  · rw [St.take_at hI.len (2 + sizeP n) (sizeP n) (by omega), if_pos fb]
    by_cases e : ∀ i, i < countN b.size → st3.now (2 + sizeP n + i) = secB 2 ((i : Nat) : Int) (partS b i)
    · left
      exact ⟨take_whole (by omega) (by omega) (by omega) e, wholeB_all _ _ _ e⟩
    · right
      have e2 : ∃ i, i < countN b.size ∧ st3.now (2 + sizeP n + i) ≠ secB 2 ((i : Nat) : Int) (partS b i) := by
        by_cases e3 : ∃ i, i < countN b.size ∧ st3.now (2 + sizeP n + i) ≠ secB 2 ((i : Nat) : Int) (partS b i)
        · exact e3
        · exact absurd (fun i hi => by
            by_cases e4 : st3.now (2 + sizeP n + i) = secB 2 ((i : Nat) : Int) (partS b i)
            · exact e4
            · exact absurd ⟨i, hi, e4⟩ e3) e
      refine ⟨takeOf_none (fun t ht => ?_), wholeB_not _ _ _ e2, e2⟩
      obtain ⟨i, hi, hne⟩ := e2
      obtain ⟨hk, hse⟩ := leafOf_some (ht.2 i hi)
      obtain ⟨k, hk8, hm⟩ := hF.part i hi
      have hm' : st3.now (2 + sizeP n + i) = mixB (secB ((2 : Nat) : Int) ((i : Nat) : Int) (partS b i)) (zerosB 128) k := by rw [hm, hs1 _ (by omega) (by omega)]
      rcases mix_leaf (ends_sec (N := 2) (by omega) ((i : Nat) : Int) (partS_le b i)) ends_blank (by omega) hk8 hk (hse.trans hm') with e5 | e5
      · exact hne (hm'.trans e5)
      · have e6 := hse.trans (hm'.trans e5)
        have e7 := leafOf_sec hk
        rw [e6, blank_none] at e7
        cases e7
theorem crash_all {n : Nat} (h12 : 12 ≤ n) (hn : n ≤ 4096) (a b : ByteArray) (hs : a.size + b.size ≤ 3000) (fa : fitsP n (a.size : Int) = true) (fb : fitsP n (b.size : Int) = true) (fail : Int) (hf : fail ≤ 9223372036854775807) (mask : Nat) (torn cut : Int) : CrashAll n a b fail mask torn cut := by
  rw [fits_count] at fa fb
  have fa := of_decide_eq_true fa
  have fb := of_decide_eq_true fb
  have hC := St.Calm.new n hn
  have hpe := plan_ends h12
  have hsz := sizeP_le n
  have ca := count_30 (n := a.size) (by omega)
  have cb := count_30 (n := b.size) (by omega)
  rcases hC.put 2 (sizeP n) (by omega) (N := 1) (by omega) a with ⟨-, st1, e1, C1, L1, n1⟩ | ⟨f1, -⟩
  · have hI1 := (C1.idle L1).armed fail hf
    have hI1' := hI1.mono (show 0 + countN a.size + 1 ≤ 40 by omega)
    have hn0 : ∀ j, (st1.armed fail).now j = st1.now j := fun _ => rfl
    have hs0 : ∀ i, i < countN a.size → (st1.armed fail).now (2 + i) = secB 1 ((i : Nat) : Int) (partS a i) := fun i hi => by
      rw [hn0, n1 _ (by omega), if_pos (by omega), show 2 + i - 2 = i by omega]
    have hs1 : ∀ j, 2 + sizeP n ≤ j → j < n → (st1.armed fail).now j = zerosB 128 := fun j h1 h2 => by
      rw [hn0, n1 _ h2, if_neg (by omega), blank_is hn h2]
    have he : EndsBelow (st1.armed fail).now n 2 := fun j hj => by
      rw [hn0, n1 _ hj]
      by_cases e : 2 ≤ j ∧ j < 2 + countN a.size
      · rw [if_pos e]
        exact ⟨1, 1, ends_sec (N := 1) (by omega) _ (partS_le a _), by omega, by omega⟩
      · rw [if_neg e, blank_is hn hj]
        exact ⟨0, 0, ends_blank, by omega, by omega⟩
    rcases hI1'.put (2 + sizeP n) (sizeP n) (by omega) (N := 2) (by omega) fb with ⟨st2, e2, I2, n2⟩ | ⟨st2, m, e2, hm, s2, l2, o2, r2⟩
    · obtain ⟨I3, n3⟩ := idle_crashed I2 mask torn cut
      have hF : Flown (st1.armed fail).now (st2.crashed mask torn cut).now (2 + sizeP n) (countN b.size) ((2 : Nat) : Int) b := by
        refine ⟨fun i hi => ⟨128, by omega, ?_⟩, fun j hj => ?_⟩
        · rw [n3, n2 _ (by omega), if_pos (by omega), show 2 + sizeP n + i - (2 + sizeP n) = i by omega, hs1 _ (by omega) (by omega), mixB_all (secB_size (partS_le b i)) (zerosB_size 128)]
          rfl
        · by_cases hjn : j < n
          · rw [n3, n2 _ hjn, if_neg (by omega)]
          · rw [idle_now I3 j, idle_now hI1 j, List.getD_eq_getElem?_getD, List.getD_eq_getElem?_getD, List.getElem?_eq_none (by rw [I3.len]; omega), List.getElem?_eq_none (by rw [hI1.len]; omega)]
      obtain ⟨t0, gr, t1⟩ := crash_left h12 (I3.mono (show 40 + countN b.size + 1 ≤ 200 by omega)) hn fa fb cb hs0 hs1 he hF
      refine ⟨st1, 0, st2, e1, C1.mono (by omega), hI1'.room hn (by omega) (by omega), e2, I2.ok hn (by omega), I3.ok hn (by omega), I3.len, t0, gr, ?_⟩
      rcases t1 with t1 | ⟨_, _, i, hi, hne⟩
      · exact .inl t1
      · exfalso
        apply hne
        rw [n3, n2 _ (by omega), if_pos (by omega), show 2 + sizeP n + i - (2 + sizeP n) = i by omega]
    · have hF := crash_flown hI1' s2 l2 hm (by omega) mask torn cut
      have I3 := crash_idle hI1' s2 l2 hm (by omega) 200 (by omega) mask torn cut
      obtain ⟨t0, gr, t1⟩ := crash_left h12 I3 hn fa fb cb hs0 hs1 he hF
      have hok2 : st2.Ok := by
        refine ⟨⟨by rw [s2]; exact hI1'.safe, fun w hw => ?_, by rw [s2, hI1'.len]; exact hn, ?_⟩, by omega, by omega⟩
        · rw [l2] at hw
          unfold layW at hw
          obtain ⟨j, hj2, rfl⟩ := List.mem_map.mp hw
          have := List.mem_range.mp hj2
          refine ⟨secB_size (partS_le _ _), ?_⟩
          show 2 + sizeP n + (0 + j) < st2.safe.length
          rw [s2, hI1'.len]; omega
        · rw [l2, layW_length]; omega
      refine ⟨st1, 8, st2, e1, C1.mono (by omega), hI1'.room hn (by omega) (by omega), e2, hok2, I3.ok hn (by omega), I3.len, t0, gr, ?_⟩
      rcases t1 with t1 | ⟨t1, t2, _⟩
      · exact .inl t1
      · exact .inr ⟨by decide, t1, t2⟩
  · omega
end Go.Proofs.Ytageeodmpbngaaa
