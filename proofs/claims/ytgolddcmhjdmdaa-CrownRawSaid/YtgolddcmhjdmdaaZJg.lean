/- JournalRestarts: what is known of a disk whose records are kept elsewhere. Plain: no program, no condition. -/
import Derived.Test.YtgolddcmhjdmdaaZJb
namespace Go.Proofs.Ytgolddcmhjdmdaa
open Go Go.RowKit Cr

/-- A sector with which a record of that number would begin. -/
def headSeq (x : ByteArray) (q : Int) : Prop := ∃ N D, leafOf x = some (N, 0, D) ∧ D.extract 0 8 = intB 8 q
theorem RecAt.head {get : Nat → ByteArray} {a u : Nat} {q N : Int} {s : ByteArray} (h : RecAt get a u q N s) : headSeq (get a) q := by
  have := h.leaf 0 (cntR_pos _)
  rw [Nat.add_zero] at this
  refine ⟨N, _, this, ?_⟩
  have hf := frameB_size q s
  rw [part0_cut _ 0 8 (by omega) (by omega), frame_seq]
theorem headSeq.one {x : ByteArray} {q q' : Int} (h : headSeq x q) (h' : headSeq x q') (hq : 0 ≤ q ∧ q ≤ 9223372036854775807) (hq' : 0 ≤ q' ∧ q' ≤ 9223372036854775807) : q = q' := by
  obtain ⟨N, D, e, h1⟩ := h
  obtain ⟨N', D', e', h2⟩ := h'
  have e3 := Option.some.inj (e.symm.trans e')
  have e4 : D = D' := congrArg (fun x => x.2.2) e3
  rw [e4, h2] at h1
  exact (intB_inj8 (by omega) (by omega) h1).symm
/-- No sector begins a record of a number beyond one. -/
def Heads (st : St) (n : Nat) (m : Int) : Prop := ∀ j, j < n → ∀ q, 0 ≤ q → q ≤ 9223372036854775807 → headSeq (st.now j) q → q ≤ m
theorem Heads.new (n k : Nat) (_hn : n ≤ 4096) (m : Int) : Heads (St.new (n : Int)) k m := fun j _ q _ _ h => by
  obtain ⟨N, D, e, _⟩ := h
  have hb : leafOf ((St.new (n : Int)).now j) = none := by
    have e : (St.new (n : Int)).now j = (List.replicate (min (max (n : Int) 0) 4096).toNat (zerosB 128)).getD j ByteArray.empty := rfl
    rw [e, List.getD_eq_getElem?_getD, List.getElem?_replicate]
    split
    · exact blank_none
    · exact empty_none
  rw [hb] at e
  cases e
theorem Heads.added {st st' : St} {n : Nat} {js : JSt} {N : Int} {s : ByteArray} {m : Int} (hN : 1 ≤ N ∧ N ≤ 1152921504606846976) (hs : s.size ≤ 32768) (hq : 0 ≤ js.seq ∧ js.seq < 1152921504606846976) (hm : m ≤ js.seq + 1)
    (h : ∀ j, j < n → st'.now j = if js.spot ≤ j ∧ j < js.spot + cntR s.size then secB N (((j - js.spot : Nat)) : Int) (partS (frameB (js.seq + 1) s) (j - js.spot)) else st.now j) (hh : Heads st n m) : Heads st' n (js.seq + 1) := fun j hj q q0 q1 hx => by
  rw [h j hj] at hx
  split at hx
  · rename_i hin
    have hc := cntR_le hs
    obtain ⟨N2, D2, e, e2⟩ := hx
    rw [leafOf_sec (part_ok hN.1 hN.2 _ (j - js.spot) (by omega))] at e
    have e3 := Option.some.inj e
    have e4 : (((j - js.spot : Nat)) : Int) = 0 := congrArg (fun x => x.2.1) e3
    have e5 : partS (frameB (js.seq + 1) s) (j - js.spot) = D2 := congrArg (fun x => x.2.2) e3
    have e6 : j - js.spot = 0 := by omega
    rw [e6] at e5
    have hf := frameB_size (js.seq + 1) s
    rw [← e5, part0_cut _ 0 8 (by omega) (by omega), frame_seq] at e2
    have := intB_inj8 (by omega) (by omega) e2
    omega
  · have := hh j hj q q0 q1 hx
    omega
/-- What is known while records are added, and kept elsewhere from one on. -/
structure Again (l : List ByteArray) (cut k : Nat) (st : St) (js : JSt) : Prop where
  dry : st.Dry 80 (k * 400)
  jok : js.fr = 0 ∧ js.upto = 80 ∧ js.spot ≤ 80 ∧ js.sick = false
  seq : js.seq = k
  heads : Heads st 80 k
  chain : cut < k → Chain st.now 80 0 (cut : Int) ((l.drop cut).take (k - cut)) js.spot
theorem Again.start (l : List ByteArray) (cut : Nat) : Again l cut 0 (St.new 80) ⟨0, 80, 0, 0, false⟩ :=
  ⟨St.Dry.new 80 (by omega), ⟨rfl, rfl, by decide, rfl⟩, rfl, Heads.new 80 80 (by omega) _, fun h => by omega⟩
theorem Again.ok {l : List ByteArray} {cut k : Nat} {st : St} {js : JSt} (h : Again l cut k st js) (hk : k ≤ 1000) : js.Ok st := by
  obtain ⟨a, b, c, _⟩ := h.jok
  have := h.seq
  exact ⟨by omega, by omega, by rw [h.dry.len]; omega, by omega⟩
theorem Again.next {l : List ByteArray} {cut k : Nat} {st : St} {js : JSt} (h : Again l cut k st js) (hk : k ≤ 1000) (hkl : k < l.length) (hat : k = cut → js.spot = 0) {N : Int} (hN : 1 ≤ N ∧ N ≤ 1152921504606846976) (hr : js.room (l[k].size : Int) = true) :
    ∃ st' js', addJ st js N l[k] = (0, st', js') ∧ Again l cut (k + 1) st' js' := by
  obtain ⟨a, b, c, d⟩ := h.jok
  have hsq := h.seq
  obtain ⟨st', h1, h2, h3⟩ := add_calm h.dry (h.ok hk) d hN hr
  unfold JSt.room at hr
  simp only [Bool.and_eq_true, decide_eq_true_eq, Int.toNat_natCast] at hr
  have hs : l[k].size ≤ 32768 := by omega
  have hfit : js.spot + cntR l[k].size ≤ js.upto := by omega
  have hrec := added_rec (js := js) (s := l[k]) hN hs (by omega) hfit (by omega : js.upto ≤ 80) h3
  refine ⟨st', _, h1, ⟨h2.mono (by omega), ⟨a, b, by show js.spot + cntR l[k].size ≤ 80; omega, d⟩, by show js.seq + 1 = ((k + 1 : Nat) : Int); omega, ?_, fun hc => ?_⟩⟩
  · have := Heads.added (js := js) (m := (k : Int)) hN hs (by omega) (by omega) h3 h.heads
    rw [hsq] at this
    exact this
  · have e1 : (l.drop cut).take (k + 1 - cut) = (l.drop cut).take (k - cut) ++ [l[k]] := by
      rw [show k + 1 - cut = (k - cut) + 1 by omega, List.take_add_one, List.getElem?_drop, show cut + (k - cut) = k by omega, List.getElem?_eq_getElem hkl]
      rfl
    have hlen : ((l.drop cut).take (k - cut)).length = k - cut := by rw [List.length_take, List.length_drop]; omega
    rw [e1]
    rw [b] at hrec
    refine Chain.snoc (N := N) (e := js.spot) ?_ ?_
    · by_cases e : k = cut
      · rw [hat e, show k - cut = 0 by omega, List.take_zero]
        exact .nil _ _
      · refine (h.chain (by omega)).congr (fun i hi0 hi1 => ?_)
        rw [h3 i (by omega), if_neg (by omega)]
    · rw [hlen]
      have e2 : (cut : Int) + ((k - cut : Nat) : Int) + 1 = js.seq + 1 := by omega
      rw [e2]
      exact hrec
end Go.Proofs.Ytgolddcmhjdmdaa
