/- Putting on a disk on which something may be armed; the greatest number at any end. Plain: no program, no condition. -/
import Derived.Test.YtgolddcmhjdmdaaZIb
namespace Go.Proofs.Ytgolddcmhjdmdaa
open Go Go.RowKit Cr

/-- Putting on a disk on which something may be armed: it lies there, synced; or the disk refused, and so many of its sectors were written, unsynced. -/
theorem St.Idle.put {st : St} {n k : Nat} (h : st.Idle n k) (a size : Nat) (ha : a + size ≤ n) {N : Int} (hN : 1 ≤ N ∧ N ≤ 1152921504606846976) {s : ByteArray} (hc : countN s.size ≤ size) :
    (∃ st', st.put a size N s = (0, st') ∧ st'.Idle n (k + countN s.size + 1) ∧
      ∀ j, j < n → st'.now j = if a ≤ j ∧ j < a + countN s.size then secB N (((j - a : Nat)) : Int) (partS s (j - a)) else st.now j) ∨
    (∃ st' m, st.put a size N s = (8, st') ∧ m ≤ countN s.size ∧ st'.safe = st.safe ∧ st'.later = layW N s a 0 m ∧ (0 ≤ st'.ops ∧ st'.ops ≤ k + countN s.size + 1) ∧ (-((k + countN s.size + 1 : Nat) : Int) ≤ st'.arm ∧ st'.arm ≤ 9223372036854775807)) := by
  have hpl : layPlace st (a : Int) ((a + size : Nat) : Int) N = true := by
    unfold layPlace
    rw [h.len, decide_eq_true hN.1, decide_eq_true hN.2, decide_eq_true (by omega), decide_eq_true (by omega), decide_eq_true (by omega)]; rfl
  have hlay : st.lay (a : Int) ((a + size : Nat) : Int) N s = layAll N s a 0 (countN s.size) st := by
    unfold St.lay
    rw [if_pos hpl, if_neg (by omega), Int.toNat_natCast]
  have hops := h.ops
  have harm := h.arm
  obtain ⟨m, e, st1, l1, l2, l3, l4, l5, l6, l7⟩ := layAll_some N s a (countN s.size) 0 st (by rw [h.len]; omega)
  rw [h.later, List.nil_append] at l4
  have hput : st.put a size N s = if e ≠ 0 then (e, st1) else st1.sync := by
    unfold St.put
    rw [hlay, l1]
  rcases l7 with ⟨rfl, rfl⟩ | rfl
  · rw [if_neg (fun e => e rfl)] at hput
    cases hf : st1.fails with
    | true =>
      have hsy : st1.sync = (8, st1.tried) := by unfold St.sync; rw [if_pos hf]
      rw [hsy] at hput
      exact .inr ⟨st1.tried, countN s.size, hput, Nat.le_refl _, l3, l4, ⟨by show 0 ≤ st1.ops + 1; omega, by show st1.ops + 1 ≤ _; omega⟩, ⟨by show _ ≤ st1.arm - 1; omega, by show st1.arm - 1 ≤ _; omega⟩⟩
    | false =>
      have hsy : st1.sync = (0, st1.tried.crash allOnes (-1) 0) := by unfold St.sync; rw [hf, if_neg (by decide)]
      rw [hsy] at hput
      refine .inl ⟨_, hput, ?_, fun j hjn => ?_⟩
      · refine ⟨?_, ?_, rfl, ⟨by show 0 ≤ st1.ops + 1; omega, by show st1.ops + 1 ≤ _; omega⟩, ⟨by show _ ≤ st1.arm - 1; omega, by show st1.arm - 1 ≤ _; omega⟩⟩
        · rw [crash_length]
          show st1.safe.length = n
          rw [l3]; exact h.len
        · refine lasting_sizes _ _ _ (cutC_le 0) st1.later 0 st1.safe (fun w hw => ?_) (by rw [l3]; exact h.safe)
          rw [l4] at hw
          unfold layW at hw
          obtain ⟨j, hj2, rfl⟩ := List.mem_map.mp hw
          have := List.mem_range.mp hj2
          refine ⟨secB_size (partS_le _ _), ?_⟩
          show a + (0 + j) < st1.safe.length
          rw [l3, h.len]; omega
      · rw [sync_now _ j (by rw [l3, h.len]; exact hjn)]
        show nowAt st1.later j (st1.safe.getD j ByteArray.empty) = _
        rw [l4, l3, now_laid, idle_now h j]
  · rw [if_pos (show (8 : Int) ≠ 0 by decide)] at hput
    exact .inr ⟨st1, m, hput, l2, l3, l4, by omega, by omega⟩
/-- The greatest number at any end, where all are below one. -/
theorem ends_num {x : ByteArray} {h t : Nat} (e : Ends x h t) : endsN x ≤ (max h t : Nat) := by
  have key : ∀ m : Nat, m < 256 → numE (intB 8 ((m : Nat) : Int)) ≤ (m : Int) := fun m hm => by
    by_cases h0 : m = 0
    · subst h0
      have : numE (intB 8 ((0 : Nat) : Int)) = 0 := by decide +kernel
      omega
    · rw [numE_int8 (by omega) (by omega)]; omega
  unfold endsN
  rw [e.head, e.tail]
  have h1 := key h e.hlt
  have h2 := key t e.tlt
  omega
theorem great_below {f : Nat → ByteArray} {n N : Nat} (h : EndsBelow f n N) (hN : 1 ≤ N) : ∀ k, k ≤ n → greatN f k < (N : Int)
  | 0, _ => by show (0 : Int) < _; omega
  | k + 1, hk => by
    have ih := great_below h hN k (by omega)
    obtain ⟨a, b, e, h1, h2⟩ := h k (by omega)
    have := ends_num e
    show max (greatN f k) (endsN (f k)) < _
    omega
theorem great_flown {get : Nat → ByteArray} {st3 : St} {n N a c : Nat} {f : ByteArray} (hl : st3.safe.length = n) (hN : 1 ≤ N ∧ N < 255) (hac : a + c ≤ n) (he : EndsBelow get n N) (hF : Flown get st3.now a c (N : Int) f) : st3.great ≤ (N : Int) := by
  have h3 := hF.ends ⟨hN.1, by omega⟩ hac he
  have this := great_below h3 (by omega) n (Nat.le_refl _)
  show greatN st3.now st3.safe.length ≤ (N : Int)
  rw [hl]
  clear h3 he hF
  generalize greatN st3.now n = g at *
  omega
theorem blank_is {n j : Nat} (hn : n ≤ 4096) (hj : j < n) : (St.new (n : Int)).now j = zerosB 128 := by
  have e : (St.new (n : Int)).now j = (List.replicate (min (max (n : Int) 0) 4096).toNat (zerosB 128)).getD j ByteArray.empty := rfl
  have e2 : (min (max (n : Int) 0) 4096).toNat = n := by omega
  rw [e, e2, List.getD_eq_getElem?_getD, List.getElem?_replicate, if_pos hj]; rfl
theorem idle_crashed {st : St} {n k : Nat} (h : st.Idle n k) (mask : Nat) (torn cut : Int) : (st.crashed mask torn cut).Idle n k ∧ ∀ j, (st.crashed mask torn cut).now j = st.now j := by
  have e : st.crashed mask torn cut = { st with later := [], arm := 0 } := by
    unfold St.crashed St.crash
    rw [h.later]; rfl
  rw [e]
  exact ⟨⟨h.len, h.safe, rfl, h.ops, by show -(k : Int) ≤ 0 ∧ (0 : Int) ≤ _; omega⟩, fun j => by rw [idle_now h j]; rfl⟩
end Go.Proofs.Ytgolddcmhjdmdaa
