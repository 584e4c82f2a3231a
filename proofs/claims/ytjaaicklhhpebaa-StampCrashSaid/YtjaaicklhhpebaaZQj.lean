/- StampCrash' walk, out of the landed contracts. -/
import Derived.Test.YtjaaicklhhpebaaZQg
import Derived.Test.YtjaaicklhhpebaaZQi
namespace Go.Proofs.Ytjaaicklhhpebaa
open Go.RowKit Go.Sort Cr

theorem toList_beq (x y : ByteArray) : (x.toList == y.toList) = decide (x = y) := by
  by_cases h : x = y
  · subst h
    rw [decide_eq_true rfl, beq_iff_eq]
  · rw [decide_eq_false h, beq_eq_false_iff_ne]
    intro e
    rw [ByteArray.toList_eq, ByteArray.toList_eq] at e
    exact h (ByteArray.ext (Array.toList_inj.mp e))
/-- Are the first so many sectors whole? -/
def wholeB (get sec : Nat → ByteArray) : Nat → Bool
  | 0 => true
  | k + 1 => wholeB get sec k && decide (get k = sec k)
theorem wholeB_all (get sec : Nat → ByteArray) : ∀ k, (∀ i, i < k → get i = sec i) → wholeB get sec k = true
  | 0, _ => rfl
  | k + 1, h => by
    unfold wholeB
    rw [wholeB_all get sec k (fun i hi => h i (by omega)), decide_eq_true (h k (by omega))]; rfl
theorem wholeB_not (get sec : Nat → ByteArray) : ∀ k, (∃ i, i < k ∧ get i ≠ sec i) → wholeB get sec k = false
  | 0, ⟨i, hi, _⟩ => by omega
  | k + 1, ⟨i, hi, hne⟩ => by
    unfold wholeB
    by_cases e : i = k
    · subst e
      rw [decide_eq_false hne, Bool.and_false]
    · rw [wholeB_not get sec k ⟨i, by omega, hne⟩, Bool.false_and]
theorem crashed_now (st : St) (mask : Nat) (torn cut : Int) (j : Nat) : (st.crashed mask torn cut).now j = (lasting mask torn (cutC cut) 0 st.later st.safe).getD j ByteArray.empty := rfl
theorem wet_crashed {st : St} {k : Nat} (h : st.Wet k) (mask : Nat) (torn cut : Int) : (st.crashed mask torn cut).Wet k := by
  have h1 := h.ops
  refine ⟨?_, ?_, fun w hw => ?_, ?_, h.ops, ?_⟩
  · show (lasting mask torn (cutC cut) 0 st.later st.safe).length = 12
    rw [lasting_length]; exact h.len
  · exact lasting_sizes mask torn _ (cutC_le cut) st.later 0 st.safe h.data h.safe
  · simp [St.crashed, St.crash] at hw
  · simp [St.crashed, St.crash]
  · show -(k : Int) ≤ 0 ∧ (0 : Int) ≤ 0; omega
/-- What a crash leaves of what was laid on a disk whose sectors don't bear that number. -/
theorem crash_takes {st : St} (h : st.Wet 13) (hL : st.later = []) {n : Int} (hn : st.great < n) (hn1 : n ≤ 1152921504606846976) (s : ByteArray) (hs : countN s.size ≤ 12) (mask : Nat) (torn cut : Int) :
    (((laidSt st 0 n s).crashed mask torn cut).take 0 12 n (s.size : Int) = some s ∧ wholeB (fun i => ((laidSt st 0 n s).crashed mask torn cut).now i) (fun i => secB n ((i : Nat) : Int) (partS s i)) (countN s.size) = true) ∨
    (((laidSt st 0 n s).crashed mask torn cut).take 0 12 n (s.size : Int) = none ∧ wholeB (fun i => ((laidSt st 0 n s).crashed mask torn cut).now i) (fun i => secB n ((i : Nat) : Int) (partS s i)) (countN s.size) = false) := by
  have hg0 : 0 ≤ st.great := greatN_nonneg _ _
  have hlen : ((laidSt st 0 n s).crashed mask torn cut).safe.length = 12 := by
    show (lasting mask torn (cutC cut) 0 (laidSt st 0 n s).later st.safe).length = 12
    rw [lasting_length]; exact h.len
  have hlat : (laidSt st 0 n s).later = layW n s 0 0 (countN s.size) := by unfold laidSt; rw [hL]; rfl
  have hplace : takePlace ((laidSt st 0 n s).crashed mask torn cut) 0 12 (s.size : Int) := ⟨by omega, by omega, by rw [hlen]; decide, by omega, by rw [Int.toNat_natCast]; omega⟩
  have htake : ((laidSt st 0 n s).crashed mask torn cut).take 0 12 n (s.size : Int) = takeOf (fun i => ((laidSt st 0 n s).crashed mask torn cut).now (0 + i)) n s.size := by
    unfold St.take
    rw [if_pos hplace, Int.toNat_natCast]
    rfl
  have hold : ∀ i, i < countN s.size → (st.now i).size = 128 ∧ (st.now i).extract 120 128 ≠ intB 8 n := fun i hi =>
    ⟨now_size (h.ok (by omega)) i (by rw [h.len]; omega), greatN_new st.now st.safe.length i (by rw [h.len]; omega) hn hn1⟩
  have hone : ∀ i, i < countN s.size → OneLasts (secB n ((i : Nat) : Int) (partS s i)) (st.now i) (((laidSt st 0 n s).crashed mask torn cut).now (0 + i)) (cutC cut) := fun i hi => by
    have e := lasting_lay n s mask torn (cutC cut) i (countN s.size) 0 st.safe (by rw [h.len]; omega)
    rw [if_pos (by omega)] at e
    have e2 : st.now i = st.safe.getD i ByteArray.empty := by unfold St.now nowAt; rw [hL]; rfl
    rw [Nat.zero_add, crashed_now, hlat, e2]
    exact e
  rcases take_crashed (get := fun i => ((laidSt st 0 n s).crashed mask torn cut).now (0 + i)) (by omega) hn1 (by omega) (cutC_le cut) hold hone with ⟨h1, h2⟩ | ⟨h1, i, hi, hne⟩
  · left
    refine ⟨htake.trans h1, wholeB_all _ _ _ (fun i hi => ?_)⟩
    have := h2 i hi
    rw [Nat.zero_add] at this
    exact this
  · right
    refine ⟨htake.trans h1, wholeB_not _ _ _ ⟨i, hi, ?_⟩⟩
    rw [Nat.zero_add] at hne
    exact hne
theorem crash_place {st : St} (h : st.Wet 13) {n : Int} (h0 : 1 ≤ n) (h1 : n ≤ 1152921504606846976) : layPlace st 0 12 n = true := by
  unfold layPlace
  rw [h.len, decide_eq_true h0, decide_eq_true h1]; rfl
set_option maxRecDepth 100000 in
set_option maxHeartbeats 4000000 in
theorem stampCrash_any {Dk : (Nat → Prop) → World → Nat → St → Prop} (K : LandedDk Dk) (S : LandedSt Dk) (ao : Option Addr) (cap : Nat) (l : List ByteArray) (hlen : l.length ≤ 140737488351232) (s : ByteArray) (hs : s.size ≤ 140737488351232)
    (mask : Nat) (hmask : mask < 18446744073709551616) (torn cut : Int) (w : World) (hS : StrsAt w ao l) :
    Calls Try.prog 8 #[.slice ao l.length cap, .string s, .int .u64 ((mask : Nat) : Int), .int .i64 torn, .int .i64 cut] w fun e w' => e = .returned (.bool true) ∧ Below w.heap.size w w' := by
  have hal := Lib.hid (stampAlive_any S)
  by_cases hbig : (1000 : Int) < (s.size : Int)
  · go_enter Try.func8, Try.ntmps8
    go_wp2_with fail
    refine (hal.out _).mono ?_
    rintro e w1 ⟨rfl, hb1⟩
    go_wp2
    go_ret
    exact ⟨rfl, hb1⟩
  · have hcn : countN s.size ≤ 10 := countN_stop s.size 10 (by omega) (by omega)
    have hdk := Lib.hid (fun W h => disk_any K ao cap l hlen W h)
    have hcnt := Lib.hid (refcount_any s.size (by omega))
    go_enter Try.func8, Try.ntmps8
    go_wp2_with fail
    refine (hal.out _).mono ?_
    rintro e w1 ⟨rfl, hb1⟩
    replace hS := hS.later hb1
    go_wp2_with fail
    refine (hdk.out _ hS).mono ?_
    rintro e w2 ⟨p, F, st, rfl, hD, hW, hL0, hF, hb2⟩
    have hH0 : Have Dk w w2 p st := Have.of_wet hb1 hD hF hb2
    have hok := hW.ok (by omega)
    have hg0 : 0 ≤ st.great := greatN_nonneg _ _
    have hg1 : st.great ≤ 1152921504606846976 := greatN_le _ _
    have hgr := Lib.hid (S.great F w2 p st hD hok)
    clear hD hF hb1 hb2 hS hdk hal
    go_wp2_with fail
    refine (hgr.out).mono ?_
    rintro e w3 ⟨rfl, hb3⟩
    replace hH0 := hH0.later K hb3
    clear hb3 hgr
    have hsum : IntKind.i64.wrap (st.great + 1) = st.great + 1 := by rw [IntKind.wrap_i64]; omega
    by_cases hm : 1152921504606846976 < st.great + 1
    · have d1 : decide (1152921504606846976 < st.great + 1) = true := decide_eq_true hm
      have hb := Lib.hid hH0.below
      generalize st.great = g at *
      replace hm := Lib.hid hm
      replace hg0 := Lib.hid hg0
      replace hg1 := Lib.hid hg1
      clear hH0
      go_wp2
      go_ret
      exact ⟨rfl, hb.out⟩
    · have d1 : decide (1152921504606846976 < st.great + 1) = false := decide_eq_false hm
      have hpl := crash_place hW (n := st.great + 1) (by omega) (by omega)
      have hlay := lay_good hpl s (by omega) hW.arm.2
      have hWl := laid_ok hW 0 (st.great + 1) s (by omega)
      have hWc := wet_crashed hWl mask torn cut
      have hct := crash_takes hW hL0 (n := st.great + 1) (by omega) (by omega) s (by omega) mask torn cut
      obtain ⟨⟨F, hD, hF⟩, hb⟩ := hH0
      have hLay := Lib.hid (S.lay F w3 p st 0 12 (st.great + 1) s hD (hW.room (by omega)) hs)
      rw [hlay] at hLay
      have hCr := Lib.hid (fun F W h => K.crash F W p (laidSt st 0 (st.great + 1) s) mask torn cut h (hWl.ok (by omega)) hmask)
      rw [show (0 : Int).toNat = 0 from rfl] at hLay
      have hTk := fun F W h => S.take F W p ((laidSt st 0 (st.great + 1) s).crashed mask torn cut) 0 12 (st.great + 1) (s.size : Int) h (hWc.ok (by omega)) (by omega)
      have hok3 := hWc.ok (by omega)
      have hlen3 := hWc.len
      have hn1 : 1 ≤ st.great + 1 ∧ st.great + 1 ≤ 1152921504606846976 := by omega
      generalize (laidSt st 0 (st.great + 1) s).crashed mask torn cut = st3 at *
      generalize laidSt st 0 (st.great + 1) s = st2 at *
      generalize st.great = g at *
      replace hm := Lib.hid hm
      replace hn1 := Lib.hid hn1
      replace hg0 := Lib.hid hg0
      replace hg1 := Lib.hid hg1
      generalize st3.take 0 12 (g + 1) (s.size : Int) = o at *
      replace hct := Lib.hid hct
      replace hTk := Lib.hid hTk
      clear hW hWl hWc hpl hlay hok hL0 hD
      go_wp2_with fail
      refine (hLay.out).mono ?_
      rintro e w4 ⟨rfl, F4, k1, k2, k3⟩
      have hF4 : ∀ j, F4 j → w.heap.size ≤ j := fun j hj => by
        by_cases e : j < w3.heap.size
        · exact hF j (k3 j e hj)
        · have := hb.size; omega
      replace hb := hb.trans (k2.to_below hb.size hF)
      clear k2 k3 hF hLay
      go_wp2_with fail
      refine (hcnt.out _).mono ?_
      rintro e w5 ⟨rfl, rfl⟩
      go_wp2_with fail
      refine (hCr.out _ _ k1).mono ?_
      rintro e w5 ⟨rfl, F5, j1, j2, j3⟩
      have hF5 : ∀ j, F5 j → w.heap.size ≤ j := fun j hj => by
        by_cases e : j < w4.heap.size
        · exact hF4 j (j3 j e hj)
        · have := hb.size; omega
      replace hb := hb.trans (j2.to_below hb.size hF4)
      clear j2 j3 hF4 hCr k1
      go_wp2_with fail
      refine (hTk.out _ _ j1).mono ?_
      rintro e w6 ⟨rfl, hb6⟩
      have hH3 : Have Dk w w6 p st3 := ⟨⟨F5, K.later j1 hb6, hF5⟩, hb.trans (hb6.mono hb.size)⟩
      clear hb hb6 j1 hF5 hTk hcnt
      have hc := hcn
      generalize hcc : countN s.size = c at *
      replace hcc := Lib.hid hcc
      go_wp2
      go_loopw [16, 17] (fun al i wr => ∃ k : Nat, k ≤ c ∧ i = .int .i64 k ∧ al = .bool (wholeB (fun i => st3.now i) (fun i => secB (g + 1) ((i : Nat) : Int) (partS s i)) k) ∧ Have Dk w wr p st3) (fun _ i _ => (c - intOf i).toNat)
      case atStart => exact ⟨0, by omega, rfl, rfl, hH3⟩
      case round =>
        clear hH3
        obtain ⟨k, hk, rfl, rfl, hH⟩ := hrel
        by_cases hlt : k < c
        · have hrd := Lib.hid (hH.read K hok3 k (by omega))
          have hwn := Lib.hid (show wholeB (fun i => st3.now i) (fun i => secB (g + 1) ((i : Nat) : Int) (partS s i)) (k + 1) = (wholeB (fun i => st3.now i) (fun i => secB (g + 1) ((i : Nat) : Int) (partS s i)) k && decide (st3.now k = secB (g + 1) ((k : Nat) : Int) (partS s k))) from rfl)
          have hpa := Lib.hid (refpart_any s (by omega) k (by omega))
          have hse := Lib.hid (refsec_any (g + 1) ((k : Nat) : Int) (partS s k) (partS_le s k))
          generalize wholeB (fun i => st3.now i) (fun i => secB (g + 1) ((i : Nat) : Int) (partS s i)) k = al at *
          have hkc : (k : Int) < (c : Int) := by omega
          clear hH
          cases al with
          | false =>
            go_wp2_with fail
            refine hrd.out.mono ?_
            rintro e w7 ⟨rfl, hH7⟩
            go_wp2
            refine ⟨⟨k + 1, by omega, by go_num, ?_, hH7⟩, by simp [intOf]; omega⟩
            rw [hwn.out, Bool.false_and]
          | true =>
            go_wp2_with fail
            refine hrd.out.mono ?_
            rintro e w7 ⟨rfl, hH7⟩
            go_wp2_with fail
            refine (hpa.out _).mono ?_
            rintro e w8 ⟨rfl, rfl⟩
            go_wp2_with fail
            refine (hse.out _).mono ?_
            rintro e w8 ⟨rfl, hb8⟩
            replace hH7 := hH7.later K hb8
            generalize st3.now k = x at *
            generalize secB (g + 1) ((k : Nat) : Int) (partS s k) = y at *
            go_wp2
            refine ⟨⟨k + 1, by omega, by go_num, ?_, hH7⟩, by simp [intOf]; omega⟩
            rw [hwn.out, Bool.true_and]
            exact congrArg Value.bool (toList_beq x y)
        · obtain rfl : k = c := by omega
          have hb := Lib.hid hH.below
          clear hH
          rcases hct.out with ⟨rfl, q⟩ | ⟨rfl, q⟩
          all_goals
            rw [q]
            unfold textO
            dsimp only [Option.isSome]
            replace q := 0
            go_wp2
            go_ret
            exact ⟨by first | rfl | simp, hb.out⟩
end Go.Proofs.Ytjaaicklhhpebaa
