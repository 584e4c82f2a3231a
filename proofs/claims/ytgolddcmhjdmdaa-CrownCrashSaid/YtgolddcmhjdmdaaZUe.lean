/- Stage 8: a crash while the next turn's head is put. Plain: no program, no condition. -/
import Derived.Test.YtgolddcmhjdmdaaZUa
import Derived.Test.YtgolddcmhjdmdaaZIp
namespace Go.Proofs.Ytgolddcmhjdmdaa
open Go Go.RowKit Cr

def Hd.next (h : Hd) (z q : Int) : Hd := ⟨h.t + 1, h.n, z, q⟩
def Hd.prev (h : Hd) : Hd := ⟨h.t - 1, 1, 0, 0⟩
theorem Hd.prev_ok {h : Hd} (ho : h.Ok) (ht : 1 < h.t) : h.prev.Ok := by
  have := ho.t
  exact ⟨⟨by show 1 ≤ h.t - 1; omega, by show h.t - 1 ≤ _; omega⟩, ⟨by show (1 : Int) ≤ 1; omega, by show (1 : Int) ≤ _; omega⟩, ⟨by show (0 : Int) ≤ 0; omega, by show (0 : Int) ≤ _; omega⟩, ⟨by show (0 : Int) ≤ 0; omega, by show (0 : Int) ≤ _; omega⟩⟩
theorem next_spot (h : Hd) (z q : Int) : (h.next z q).spot = 1 - h.spot := by
  unfold Hd.spot Hd.next
  dsimp only
  omega
theorem prev_spot (h : Hd) : h.prev.spot = 1 - h.spot := by
  unfold Hd.spot Hd.prev
  dsimp only
  omega
/-- What a crash leaves while the next head is put. -/
def CrownAll (h nx : Hd) (fail : Int) (mask : Nat) (torn cut : Int) : Prop :=
  ∃ st1 st2 e st3, ((1 < h.t ∧ (St.new 4).putH 1 h.prev = (0, st1)) ∨ (¬ 1 < h.t ∧ st1 = St.new 4)) ∧ st1.Calm 4 2 ∧ st1.putH 2 h = (0, st2) ∧ st2.Calm 4 4 ∧ (st2.armed fail).Room 2 ∧
    (st2.armed fail).putH 3 nx = (e, st3) ∧ st3.Ok ∧ (st3.crashed mask torn cut).Ok ∧ (st3.crashed mask torn cut).safe.length = 4 ∧ (st3.crashed mask torn cut).great ≤ 3 ∧
    (((st3.crashed mask torn cut).now nx.spot = secB 3 0 nx.B ∧ (st3.crashed mask torn cut).newest = some nx) ∨
      (e ≠ 0 ∧ (st3.crashed mask torn cut).now nx.spot ≠ secB 3 0 nx.B ∧ (st3.crashed mask torn cut).newest = some h))
theorem newest_of {st : St} {h k : Hd} (hs : k.spot = 1 - h.spot) (e : standOf (st.now h.spot) h.spot = some h) (o : Option Hd) (ek : standOf (st.now k.spot) k.spot = o) :
    st.newest = if h.spot = 0 then newer (some h) o else newer o (some h) := by
  have h1 := h.spot_le.1
  unfold St.newest
  by_cases h0 : h.spot = 0
  · rw [if_pos h0]
    rw [h0] at e hs
    rw [hs] at ek
    rw [e, ek]
  · have h2 : h.spot = 1 := by omega
    rw [if_neg h0]
    rw [h2] at e hs
    rw [hs] at ek
    rw [e, ek]
theorem newer_top {h k : Hd} (hk : h.t < k.t) : newer (some h) (some k) = some k ∧ newer (some k) (some h) = some k := by
  constructor
  · show (if h.t < k.t then some k else some h) = _
    rw [if_pos hk]
  · show (if k.t < h.t then some h else some k) = _
    rw [if_neg (by omega)]
/-- What is left, by the sectors that a crash left. -/
theorem crown_left {h : Hd} (ho : h.Ok) {nx : Hd} (no : nx.Ok) (ht : nx.t = h.t + 1) (hsp : nx.spot = 1 - h.spot) {st0 st3 : St}
    (hh : st0.now h.spot = secB 2 0 h.B) (hold : st0.now nx.spot = zerosB 128 ∨ ∃ p : Hd, p.Ok ∧ p.t = h.t - 1 ∧ st0.now nx.spot = secB 1 0 p.B)
    (hF : Flown st0.now st3.now nx.spot 1 ((3 : Nat) : Int) nx.B) :
    (st3.now nx.spot = secB 3 0 nx.B ∧ st3.newest = some nx) ∨ (st3.now nx.spot ≠ secB 3 0 nx.B ∧ st3.newest = some h) := by
  have h1 := h.spot_le
  have n1 := nx.spot_le
  have e3 : st3.now h.spot = secB 2 0 h.B := by rw [hF.rest _ (by omega)]; exact hh
  have es : standOf (st3.now h.spot) h.spot = some h := by rw [e3]; exact stand_sec (by omega) ho h1.2
  have hno := fun o => newest_of (st := st3) hsp es o
  by_cases e : st3.now nx.spot = secB 3 0 nx.B
  · left
    have ek : standOf (st3.now nx.spot) nx.spot = some nx := by rw [e]; exact stand_sec (by omega) no n1.2
    have nt := newer_top (h := h) (k := nx) (by omega)
    refine ⟨e, ?_⟩
    rw [hno _ ek]
    split
    · exact nt.1
    · exact nt.2
  · right
    refine ⟨e, ?_⟩
    have hold2 : standOf (st3.now nx.spot) nx.spot = none ∨ ∃ p : Hd, p.t = h.t - 1 ∧ standOf (st3.now nx.spot) nx.spot = some p := by
      obtain ⟨k, hk, hm⟩ := hF.part 0 (by omega)
      rw [Nat.add_zero, part_B] at hm
      cases hl : leafOf (st3.now nx.spot) with
      | none => exact .inl (stand_none hl)
      | some x =>
        obtain ⟨N, I, D⟩ := x
        obtain ⟨hlk, hse⟩ := leafOf_some hl
        have hx := ends_sec (N := 3) (by omega) ((0 : Nat) : Int) (D := nx.B) (by rw [Hd.B_size]; omega)
        rcases hold with ho0 | ⟨p, po, pt, hp⟩
        · rw [ho0] at hm
          rcases mix_leaf hx ends_blank (by omega) hk hlk (hse.trans hm) with q | q
          · exact absurd (hm.trans q) e
          · left
            rw [hm.trans q]
            exact stand_none blank_none
        · rw [hp] at hm
          have hy := ends_sec (N := 1) (by omega) (0 : Int) (D := p.B) (by rw [Hd.B_size]; omega)
          rcases mix_leaf hx hy (by omega) hk hlk (hse.trans hm) with q | q
          · exact absurd (hm.trans q) e
          · right
            refine ⟨p, pt, ?_⟩
            rw [hm.trans q]
            refine stand_sec (by omega) po ?_
            rw [← n1.2, ht, pt]
            omega
    rcases hold2 with ek | ⟨p, pt, ek⟩
    · rw [hno _ ek]
      split <;> rfl
    · have nt := newer_top (h := p) (k := h) (by omega)
      rw [hno _ ek]
      split
      · exact nt.2
      · exact nt.1
theorem crown_all {h : Hd} (ho : h.Ok) {nx : Hd} (no : nx.Ok) (ht : nx.t = h.t + 1) (hsp : nx.spot = 1 - h.spot) (fail : Int) (hf : fail ≤ 9223372036854775807) (mask : Nat) (torn cut : Int) : CrownAll h nx fail mask torn cut := by
  have hC := St.Calm.new 4 (by omega)
  rw [show ((4 : Nat) : Int) = 4 from rfl] at hC
  have h1 := h.spot_le
  have n1 := nx.spot_le
  have hb4 : ∀ j, j < 4 → (St.new 4).now j = zerosB 128 := fun j hj => blank_is (n := 4) (by omega) hj
  have hst1 : ∃ st1, ((1 < h.t ∧ (St.new 4).putH 1 h.prev = (0, st1)) ∨ (¬ 1 < h.t ∧ st1 = St.new 4)) ∧ st1.Calm 4 2 ∧
      (∀ j, j < 4 → st1.now j = zerosB 128 ∨ ∃ p : Hd, p.Ok ∧ p.t = h.t - 1 ∧ j = nx.spot ∧ st1.now j = secB 1 0 p.B) := by
    by_cases e : 1 < h.t
    · have po := Hd.prev_ok ho e
      obtain ⟨st1, e1, C1, -, m1⟩ := hC.putH (by omega) (N := 1) (by omega) po
      refine ⟨st1, .inl ⟨e, e1⟩, C1, fun j hj => ?_⟩
      rw [m1 j hj]
      by_cases ej : j = h.prev.spot
      · rw [if_pos ej]
        exact .inr ⟨h.prev, po, rfl, by rw [ej, prev_spot, hsp], rfl⟩
      · rw [if_neg ej]
        exact .inl (hb4 j hj)
    · exact ⟨St.new 4, .inr ⟨e, rfl⟩, hC.mono (by omega), fun j hj => .inl (hb4 j hj)⟩
  obtain ⟨st1, r1, C1, o1⟩ := hst1
  obtain ⟨st2, e2, C2, L2, m2⟩ := C1.putH (by omega) (N := 2) (by omega) ho
  have hI := (C2.idle L2).armed fail hf
  have hn0 : ∀ j, (st2.armed fail).now j = st2.now j := fun _ => rfl
  have hh : (st2.armed fail).now h.spot = secB 2 0 h.B := by rw [hn0, m2 _ (by omega), if_pos rfl]
  have hold : (st2.armed fail).now nx.spot = zerosB 128 ∨ ∃ p : Hd, p.Ok ∧ p.t = h.t - 1 ∧ (st2.armed fail).now nx.spot = secB 1 0 p.B := by
    rw [hn0, m2 _ (by omega), if_neg (by omega)]
    rcases o1 nx.spot (by omega) with q | ⟨p, q1, q2, _, q3⟩
    · exact .inl q
    · exact .inr ⟨p, q1, q2, q3⟩
  have he : EndsBelow (st2.armed fail).now 4 3 := fun j hj => by
    rw [hn0, m2 j hj]
    by_cases ej : j = h.spot
    · rw [if_pos ej]
      exact ⟨2, 2, ends_sec (N := 2) (by omega) (0 : Int) (by rw [Hd.B_size]; omega), by omega, by omega⟩
    · rw [if_neg ej]
      rcases o1 j hj with q | ⟨p, _, _, _, q⟩
      · rw [q]; exact ⟨0, 0, ends_blank, by omega, by omega⟩
      · rw [q]; exact ⟨1, 1, ends_sec (N := 1) (by omega) (0 : Int) (by rw [Hd.B_size]; omega), by omega, by omega⟩
  have hput : (st2.armed fail).putH 3 nx = (st2.armed fail).put nx.spot 1 3 nx.B := by unfold St.putH; rw [if_pos ((Hd.good_iff nx).2 no)]
  have hcb := count_B nx
  have hfin : ∀ st3 : St, st3.safe.length = 4 → Flown (st2.armed fail).now st3.now nx.spot 1 ((3 : Nat) : Int) nx.B → st3.great ≤ 3 := fun st3 hl hF => great_flown (N := 3) hl ⟨by decide, by decide⟩ (by omega) he hF
  rcases hI.put nx.spot 1 (by omega) (N := 3) (by omega) (s := nx.B) (Nat.le_of_eq hcb) with ⟨st3, e3, I3, m3⟩ | ⟨st3, m, e3, hm, s3, l3, o3, r3⟩
  · rw [hcb] at I3 m3
    clear hcb
    obtain ⟨I4, m4⟩ := idle_crashed I3 mask torn cut
    have hF : Flown (st2.armed fail).now (st3.crashed mask torn cut).now nx.spot 1 ((3 : Nat) : Int) nx.B := by
      refine ⟨fun i hi => ⟨128, by omega, ?_⟩, fun j hj => ?_⟩
      · obtain rfl : i = 0 := by omega
        have hz : ((st2.armed fail).now nx.spot).size = 128 := by
          rcases hold with q | ⟨p, _, _, q⟩
          · rw [q]; exact zerosB_size 128
          · rw [q]; exact secB_size (by rw [Hd.B_size]; omega)
        rw [Nat.add_zero, m4, m3 _ (by omega), if_pos (by omega), Nat.sub_self, mixB_all (secB_size (partS_le nx.B 0)) hz]
        rfl
      · by_cases hjn : j < 4
        · rw [m4, m3 _ hjn, if_neg (by omega)]
        · rw [idle_now I4 j, idle_now hI j, List.getD_eq_getElem?_getD, List.getD_eq_getElem?_getD, List.getElem?_eq_none (by rw [I4.len]; omega), List.getElem?_eq_none (by rw [hI.len]; omega)]
    refine ⟨st1, st2, 0, st3, r1, C1, e2, C2.mono (by omega), hI.room (by omega) (by omega) (by omega), by rw [hput]; exact e3, I3.ok (by omega) (by omega), I4.ok (by omega) (by omega), I4.len, hfin _ I4.len hF, ?_⟩
    rcases crown_left ho no ht hsp hh hold hF with q | ⟨q, _⟩
    · exact .inl q
    · exfalso
      apply q
      rw [m4, m3 _ (by omega), if_pos (by omega), Nat.sub_self, part_B]; rfl
  · rw [hcb] at o3 r3 hm
    clear hcb
    have hF := crash_flown (c := 1) hI s3 l3 hm (by omega) mask torn cut
    have I4 := crash_idle (c := 1) hI s3 l3 hm (by omega) 100 (by omega) mask torn cut
    have hok3 : st3.Ok := by
      refine ⟨⟨by rw [s3]; exact hI.safe, fun w hw => ?_, by rw [s3, hI.len]; omega, ?_⟩, by omega, by omega⟩
      · rw [l3] at hw
        unfold layW at hw
        obtain ⟨j, hj2, rfl⟩ := List.mem_map.mp hw
        have := List.mem_range.mp hj2
        refine ⟨secB_size (partS_le _ _), ?_⟩
        show nx.spot + (0 + j) < st3.safe.length
        rw [s3, hI.len]; omega
      · rw [l3, layW_length]; omega
    refine ⟨st1, st2, 8, st3, r1, C1, e2, C2.mono (by omega), hI.room (by omega) (by omega) (by omega), by rw [hput]; exact e3, hok3, I4.ok (by omega) (by omega), I4.len, hfin _ I4.len hF, ?_⟩
    rcases crown_left ho no ht hsp hh hold hF with q | ⟨q1, q2⟩
    · exact .inl q
    · exact .inr ⟨by decide, q1, q2⟩
end Go.Proofs.Ytgolddcmhjdmdaa
