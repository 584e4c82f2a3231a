/- JournalKeeps: what is known of the disk and the journal at each step. Plain: no program, no condition. -/
import Derived.Test.YtmhafgginbeihaaZJm
namespace Go.Proofs.Ytmhafgginbeihaa
open Go Go.RowKit Cr

theorem numE_small {h : Nat} (hh : h < 256) : numE (intB 8 ((h : Nat) : Int)) = (h : Int) := by
  by_cases e : h = 0
  · subst e
    unfold numE
    rw [backZ_int8 (by omega) (by omega), if_neg (by omega)]; rfl
  · exact numE_int8 (by omega) (by omega)
theorem greatN_lt {get : Nat → ByteArray} {m : Nat} (hm : 1 ≤ m) : ∀ n, EndsBelow get n m → greatN get n < (m : Int)
  | 0, _ => by show (0 : Int) < _; omega
  | n + 1, h => by
    have ih := greatN_lt hm n (fun j hj => h j (by omega))
    obtain ⟨a, b, e, h1, h2⟩ := h n (by omega)
    have e1 : endsN (get n) = max (a : Int) (b : Int) := by unfold endsN; rw [e.head, e.tail, numE_small e.hlt, numE_small e.tlt]
    show max (greatN get n) (endsN (get n)) < _
    rw [e1]; omega
theorem ends_great {get : Nat → ByteArray} {n m : Nat} (h : EndsBelow get n m) {g : Nat} (hg : greatN get n = (g : Int)) : EndsBelow get n (g + 1) := fun j hj => by
  obtain ⟨a, b, e, h1, h2⟩ := h j hj
  have h3 := greatN_ge get n j hj
  have e1 : endsN (get j) = max (a : Int) (b : Int) := by unfold endsN; rw [e.head, e.tail, numE_small e.hlt, numE_small e.tlt]
  rw [e1, hg] at h3
  exact ⟨a, b, e, by omega, by omega⟩
/-- At rest: what was added lies there; what begins with the next number behind it isn't whole. -/
structure Keep (k : Nat) (want : List ByteArray) (st : St) (js : JSt) : Prop where
  idle : st.Idle 40 (k * 500)
  jok : js.fr = 0 ∧ js.upto = 40 ∧ js.spot ≤ 40 ∧ js.sick = false
  seq : js.seq = (want.length : Nat)
  few : want.length ≤ k
  chain : Chain st.now 40 0 0 want js.spot
  stop : recOf st.now js.spot 40 ((want.length : Nat) + 1) = none
  heads : Heads st 40 ((want.length : Nat) + 1)
  ends : EndsBelow st.now 40 (k + 1)
theorem Keep.start : Keep 0 [] (St.new 40) ⟨0, 40, 0, 0, false⟩ where
  idle := (St.Dry.new 40 (by omega)).idle
  jok := ⟨rfl, rfl, by decide, rfl⟩
  seq := rfl
  few := Nat.le_refl _
  chain := .nil _ _
  stop := blank_rec (fun _ => blank_new 40 0 (by omega) (by omega))
  heads := Heads.new 40 40 (by omega) _
  ends := fun j hj => ⟨0, 0, by rw [show (St.new 40).now j = zerosB 128 from blank_new 40 j hj (by omega)]; exact ends_blank, by omega, by omega⟩
theorem Keep.mono {k k2 : Nat} {want : List ByteArray} {st : St} {js : JSt} (h : Keep k want st js) (hk : k ≤ k2) : Keep k2 want st js :=
  ⟨h.idle.mono (by omega), h.jok, h.seq, by have := h.few; omega, h.chain, h.stop, h.heads, h.ends.mono (by omega)⟩
theorem Keep.ok {k : Nat} {want : List ByteArray} {st : St} {js : JSt} (h : Keep k want st js) (hk : k ≤ 1000) : js.Ok st := by
  obtain ⟨a, b, c, _⟩ := h.jok
  have h1 := h.seq
  have h2 := h.few
  exact ⟨by omega, by omega, by rw [h.idle.len]; omega, by omega⟩
theorem Keep.recs {k : Nat} {want : List ByteArray} {st : St} {js : JSt} (h : Keep k want st js) : Recs st.now 40 0 0 want js.spot := ⟨h.chain, by rw [Int.zero_add]; exact h.stop⟩
theorem Keep.armed {k : Nat} {want : List ByteArray} {st : St} {js : JSt} (h : Keep k want st js) (a : Int) (ha : a ≤ 9223372036854775807) : Keep k want (st.armed a) js :=
  ⟨h.idle.armed a ha, h.jok, h.seq, h.few, h.chain, h.stop, h.heads, h.ends⟩
/-- The power goes at rest. -/
theorem Keep.power {k : Nat} {want : List ByteArray} {st : St} {js : JSt} (h : Keep k want st js) (mask : Nat) (torn cut : Int) : Keep k want (st.crashed mask torn cut) ⟨0, 40, js.spot, 0 + (want.length : Nat), false⟩ := by
  have e : st.crashed mask torn cut = { st with arm := 0 } := by
    obtain ⟨safe, later, ops, arm⟩ := st
    have hl : later = [] := h.idle.later
    subst hl
    rfl
  rw [e]
  have ha : Keep k want { st with arm := 0 } js := ⟨⟨h.idle.len, h.idle.safe, h.idle.later, h.idle.ops, by show -((k * 500 : Nat) : Int) ≤ 0 ∧ (0 : Int) ≤ _; omega⟩, h.jok, h.seq, h.few, h.chain, h.stop, h.heads, h.ends⟩
  exact ⟨ha.idle, ⟨rfl, rfl, h.jok.2.2.1, rfl⟩, by show (0 : Int) + _ = _; omega, h.few, ha.chain, ha.stop, ha.heads, ha.ends⟩
theorem heads_stop {st : St} {n a u : Nat} {q m : Int} (h : Heads st n m) (hu : u ≤ n) (hq : m < q) : recOf st.now a u q = none := recOf_none (fun N s hr => by
  have hf := hr.fit
  have hp := cntR_pos s.size
  have := h a (by omega) q hr.num.1 hr.top hr.head
  omega)
/-- The disk refused while one was being added. -/
structure Flew (k : Nat) (want : List ByteArray) (fly : ByteArray) (st : St) (js : JSt) : Prop where
  jst : js.fr = 0 ∧ js.upto = 40 ∧ js.spot ≤ 40 ∧ js.sick = true ∧ js.seq = (want.length : Nat)
  from0 : ∃ st0 js0 g m, Keep k want st0 js0 ∧ js.spot = js0.spot ∧ g ≤ k ∧ EndsBelow st0.now 40 (g + 1) ∧ m ≤ cntR fly.size ∧ js0.spot + cntR fly.size ≤ 40 ∧ fly.size ≤ 32768 ∧
    st.safe = st0.safe ∧ st.later = layW ((g + 1 : Nat) : Int) (frameB ((want.length : Nat) + 1) fly) js0.spot 0 m
  ops : 0 ≤ st.ops ∧ st.ops ≤ (k + 1) * 500
  arm : -((k + 1) * 500 : Int) ≤ st.arm ∧ st.arm ≤ 9223372036854775807
theorem Flew.mono {k k2 : Nat} {want : List ByteArray} {fly : ByteArray} {st : St} {js : JSt} (h : Flew k want fly st js) (hk : k ≤ k2) : Flew k2 want fly st js := by
  obtain ⟨st0, js0, g, m, h1, h2, h3, h4⟩ := h.from0
  have a := h.ops
  have b := h.arm
  exact ⟨h.jst, ⟨st0, js0, g, m, h1.mono hk, h2, by omega, h4⟩, by omega, by omega⟩
theorem Flew.armed {k : Nat} {want : List ByteArray} {fly : ByteArray} {st : St} {js : JSt} (h : Flew k want fly st js) (a : Int) (ha : a ≤ 9223372036854775807) : Flew k want fly (st.armed a) js :=
  ⟨h.jst, h.from0, h.ops, by show -((k + 1) * 500 : Int) ≤ max a 0 ∧ max a 0 ≤ _; omega⟩
theorem Flew.room {k : Nat} {want : List ByteArray} {fly : ByteArray} {st : St} {js : JSt} (h : Flew k want fly st js) (hk : k ≤ 100) {n : Nat} (hn : n ≤ 400) : st.Room n := by
  obtain ⟨st0, js0, g, m, h1, h2, h3, h4, h5, h6, h7, h8, h9⟩ := h.from0
  have hc := cntR_le h7
  have hl := h1.idle.len
  have ho := h.ops
  have ha := h.arm
  refine ⟨by rw [h8]; exact h1.idle.safe, fun w hw => ?_, by rw [h8, hl]; omega, ?_, by omega, by omega⟩
  · rw [h9] at hw
    unfold layW at hw
    obtain ⟨j, hj2, rfl⟩ := List.mem_map.mp hw
    have := List.mem_range.mp hj2
    refine ⟨secB_size (partS_le _ _), ?_⟩
    show js0.spot + (0 + j) < st.safe.length
    rw [h8, hl]; omega
  · rw [h9]; unfold layW; rw [List.length_map, List.length_range]; omega
theorem Flew.ok {k : Nat} {want : List ByteArray} {fly : ByteArray} {st : St} {js : JSt} (h : Flew k want fly st js) (hk : k ≤ 1000) : js.Ok st := by
  obtain ⟨st0, js0, g, m, h1, h2, h3, h4, h5, h6, h7, h8, h9⟩ := h.from0
  obtain ⟨a, b, c, d, e⟩ := h.jst
  have hf := h1.few
  have hl := h1.idle.len
  exact ⟨by omega, by omega, by rw [h8, hl]; omega, by omega⟩
/-- Adding at rest. -/
theorem Keep.add {k : Nat} {want : List ByteArray} {st : St} {js : JSt} (h : Keep k want st js) (hk : k ≤ 100) {t : ByteArray} (ht : t.size ≤ 32768) :
    ∃ g : Nat, st.great = (g : Int) ∧ g ≤ k ∧
    ((js.room (t.size : Int) = false ∧ addJ st js ((g + 1 : Nat) : Int) t = (6, st, js)) ∨
     (∃ st' js', addJ st js ((g + 1 : Nat) : Int) t = (0, st', js') ∧ js'.spot = js.spot + cntR t.size ∧ Keep (k + 1) (want ++ [t]) st' js') ∨
     (∃ st' js', addJ st js ((g + 1 : Nat) : Int) t = (8, st', js') ∧ Flew (k + 1) want t st' js')) := by
  obtain ⟨a, b, c, d⟩ := h.jok
  have hsq := h.seq
  have hfew := h.few
  have hg1 := greatN_lt (m := k + 1) (by omega) 40 h.ends
  have hg0 := greatN_nonneg st.now 40
  have hgr : st.great = greatN st.now 40 := by unfold St.great; rw [h.idle.len]
  obtain ⟨g, hg⟩ := Int.eq_ofNat_of_zero_le hg0
  have he := ends_great h.ends hg
  refine ⟨g, by rw [hgr, hg], by omega, ?_⟩
  have hgk : g ≤ k := by omega
  have hN : 1 ≤ ((g + 1 : Nat) : Int) ∧ ((g + 1 : Nat) : Int) ≤ 1152921504606846976 := by omega
  cases hr : js.room (t.size : Int) with
  | false => exact .inl ⟨rfl, add_full d hN hr⟩
  | true =>
    right
    have hr2 := hr
    unfold JSt.room at hr2
    simp only [Bool.and_eq_true, decide_eq_true_eq, Int.toNat_natCast] at hr2
    have hfit : js.spot + cntR t.size ≤ 40 := by omega
    have hsq1 : js.seq + 1 = ((want.length : Nat) + 1 : Int) := by omega
    have hcl := cntR_le ht
    rcases add_flies h.idle (h.ok (by omega)) d hN hr with ⟨st', h1, h2, h3⟩ | ⟨st', m, h1, h2, h3, h4, h5, h6⟩
    · left
      rw [hsq1] at h3
      have hlen : (want ++ [t]).length = want.length + 1 := by simp
      have hrec : RecAt st'.now js.spot 40 ((want.length : Nat) + 1) ((g + 1 : Nat) : Int) t :=
        ⟨by omega, hN, ht, hfit, fun i hi => by rw [h3 (js.spot + i) (by omega), if_pos (by omega), show js.spot + i - js.spot = i by omega]⟩
      have hhd : Heads st' 40 ((want.length : Nat) + 1) := by
        have := Heads.added (js := js) (m := ((want.length : Nat) + 1 : Int)) hN ht (by omega) (by omega) (by rw [hsq1]; exact h3) h.heads
        rw [hsq1] at this
        exact this
      refine ⟨st', _, h1, rfl, ⟨h2.mono (by omega), ⟨a, b, hfit, d⟩, by rw [hlen]; show js.seq + 1 = _; omega, by rw [hlen]; omega, ?_, ?_, ?_, fun j hj => ?_⟩⟩
      · refine Chain.snoc (N := ((g + 1 : Nat) : Int)) (e := js.spot) (h.chain.congr (fun i _ hi1 => ?_)) (by rw [Int.zero_add]; exact hrec)
        rw [h3 i (by omega), if_neg (by omega)]
      · refine heads_stop hhd (Nat.le_refl 40) ?_
        rw [hlen]; omega
      · intro j hj q q0 q1 hq
        have := hhd j hj q q0 q1 hq
        rw [hlen]; omega
      · rw [h3 j hj]
        split
        · exact ⟨g + 1, g + 1, ends_sec (by omega) _ (partS_le _ _), by omega, by omega⟩
        · obtain ⟨p, q, e, e1, e2⟩ := h.ends j hj
          exact ⟨p, q, e, by omega, by omega⟩
    · right
      rw [hsq1] at h4
      exact ⟨st', _, h1, ⟨⟨a, b, c, rfl, hsq⟩, ⟨st, js, g, m, h.mono (by omega), rfl, by omega, he, h2, hfit, ht, h3, h4⟩, by omega, by omega⟩⟩
/-- Adding to a sick one. -/
theorem Flew.add {k : Nat} {want : List ByteArray} {fly : ByteArray} {st : St} {js : JSt} (h : Flew k want fly st js) (N : Int) (t : ByteArray) : addJ st js N t = (9, st, js) := add_sick h.jst.2.2.2.1 N t
/-- The power goes while one was being added. -/
theorem Flew.power {k : Nat} {want : List ByteArray} {fly : ByteArray} {st : St} {js : JSt} (h : Flew k want fly st js) (hk : k ≤ 100) (mask : Nat) (torn cut : Int) :
    ∃ got z, (got = want ∨ got = want ++ [fly]) ∧ Recs (st.crashed mask torn cut).now 40 0 0 got z ∧ Keep (k + 1) got (st.crashed mask torn cut) ⟨0, 40, z, 0 + (got.length : Nat), false⟩ := by
  obtain ⟨st0, js0, g, m, h1, h2, h3, h4, h5, h6, h7, h8, h9⟩ := h.from0
  obtain ⟨a, b, c, d⟩ := h1.jok
  have hsq := h1.seq
  have hfew := h1.few
  have hcl := cntR_le h7
  have ho := h.ops
  have hfl : Flown st0.now (st.crashed mask torn cut).now js0.spot (cntR fly.size) ((g + 1 : Nat) : Int) (frameB ((want.length : Nat) + 1) fly) := crash_flown h1.idle h8 h9 h5 h6 mask torn cut
  have hci := crash_idle h1.idle h8 h9 h5 h6 ((k + 1) * 500) (by omega) mask torn cut
  generalize st.crashed mask torn cut = st3 at *
  have hN : 1 ≤ g + 1 ∧ g + 1 < 256 := by omega
  have hq : 0 ≤ ((want.length : Nat) + 1 : Int) ∧ ((want.length : Nat) + 1 : Int) ≤ 9223372036854775807 := by omega
  have hends := (hfl.ends hN h6 h4).mono (show g + 1 + 1 ≤ k + 1 + 1 by omega)
  have hheads : Heads st3 40 ((want.length : Nat) + 1) := fun j hj q q0 q1 hh => by
    rcases flown_head hfl hN hq h7 h6 h4 ⟨q0, q1⟩ hh with e | e
    · exact h1.heads j hj q q0 q1 e
    · omega
  have hch := h1.chain.congr (get' := st3.now) (fun i _ hi => hfl.rest i (.inl hi))
  by_cases hw : ∀ i, i < cntR fly.size → st3.now (js0.spot + i) = secB ((g + 1 : Nat) : Int) ((i : Nat) : Int) (partS (frameB ((want.length : Nat) + 1) fly) i)
  · have hrec := flown_whole hN (show 0 ≤ ((want.length : Nat) + 1 : Int) ∧ ((want.length : Nat) + 1 : Int) ≤ 1152921504606846976 by omega) h7 h6 hw
    have hlen : (want ++ [fly]).length = want.length + 1 := by simp
    have hstop : recOf st3.now (js0.spot + cntR fly.size) 40 (((want ++ [fly]).length : Nat) + 1) = none := heads_stop hheads (Nat.le_refl 40) (by rw [hlen]; omega)
    have hch2 := Chain.snoc (N := ((g + 1 : Nat) : Int)) hch (by rw [Int.zero_add]; exact hrec)
    refine ⟨want ++ [fly], js0.spot + cntR fly.size, .inr rfl, ⟨hch2, by rw [Int.zero_add]; exact hstop⟩, ⟨hci, ⟨rfl, rfl, h6, rfl⟩, by show (0 : Int) + _ = _; omega, by rw [hlen]; omega, hch2, hstop, fun j hj q q0 q1 hh => ?_, hends⟩⟩
    have := hheads j hj q q0 q1 hh
    rw [hlen]; omega
  · have hstop : recOf st3.now js0.spot 40 ((want.length : Nat) + 1) = none := recOf_none (fun N' s' hr => hw (flown_rec hfl hN hq h7 h6 (Nat.le_refl 40) h4 h1.stop hr))
    exact ⟨want, js0.spot, .inl rfl, ⟨hch, by rw [Int.zero_add]; exact hstop⟩, ⟨hci, ⟨rfl, rfl, c, rfl⟩, by show (0 : Int) + _ = _; omega, by omega, hch, hstop, hheads, hends⟩⟩
end Go.Proofs.Ytmhafgginbeihaa
