/- Stage 6: adding on a disk on which something may be armed: what it answers, and what is left, behind a crash, too. Plain: no program, no condition. -/
import Derived.Test.YtgolddcmhjdmdaaZJk
namespace Go.Proofs.Ytgolddcmhjdmdaa
open Go Go.RowKit Cr

/-- Writes of a text's parts, each of which may persist at a crash, or not, or be torn. -/
theorem lasting_at (N : Int) (s : ByteArray) (f : Nat) (mask : Nat) (torn : Int) (c j : Nat) : ∀ (k i : Nat) (safe : List ByteArray), f + i + k ≤ safe.length →
    if f + i ≤ j ∧ j < f + i + k then OneLasts (secB N (((j - f : Nat)) : Int) (partS s (j - f))) (safe.getD j ByteArray.empty) ((lasting mask torn c i (layW N s f i k) safe).getD j ByteArray.empty) c
    else (lasting mask torn c i (layW N s f i k) safe).getD j ByteArray.empty = safe.getD j ByteArray.empty
  | 0, i, safe, _ => by
    rw [if_neg (by omega)]
    rfl
  | k + 1, i, safe, hl => by
    rw [layW_cons, lasting]
    have hset : ∀ x : ByteArray, (safe.set (f + i) x).length = safe.length := fun x => List.length_set
    generalize hst : (if ((i : Nat) : Int) = torn then safe.set (f + i) ((secB N ((i : Nat) : Int) (partS s i)).extract 0 c ++ (safe.getD (f + i) ByteArray.empty).extract c 128)
      else if mask / 2 ^ (min i 63) % 2 = 1 then safe.set (f + i) (secB N ((i : Nat) : Int) (partS s i)) else safe) = safe2
    have hlen : safe2.length = safe.length := by
      rw [← hst]
      split
      · exact hset _
      · split
        · exact hset _
        · rfl
    have hother : ∀ m, m ≠ f + i → safe2.getD m ByteArray.empty = safe.getD m ByteArray.empty := fun m hm => by
      rw [← hst]
      split
      · rw [List.getD_eq_getElem?_getD, List.getElem?_set_ne (by omega), List.getD_eq_getElem?_getD]
      · split
        · rw [List.getD_eq_getElem?_getD, List.getElem?_set_ne (by omega), List.getD_eq_getElem?_getD]
        · rfl
    have ih := lasting_at N s f mask torn c j k (i + 1) safe2 (by omega)
    by_cases e : j = f + i
    · subst e
      rw [if_neg (by omega)] at ih
      rw [if_pos (by omega), ih, ← hst, show f + i - f = i by omega]
      unfold OneLasts mixB
      split
      · right; right
        rw [List.getD_eq_getElem?_getD, List.getElem?_set_self (by omega)]
        rfl
      · split
        · right; left
          rw [List.getD_eq_getElem?_getD, List.getElem?_set_self (by omega)]
          rfl
        · left; rfl
    · rw [hother j e] at ih
      by_cases e2 : f + (i + 1) ≤ j ∧ j < f + (i + 1) + k
      · rw [if_pos e2] at ih
        rw [if_pos (by omega)]
        exact ih
      · rw [if_neg e2] at ih
        rw [if_neg (by omega)]
        exact ih
/-- A disk without unsynced writes, on which something may be armed. -/
structure St.Idle (st : St) (n k : Nat) : Prop where
  len : st.safe.length = n
  safe : ∀ s ∈ st.safe, s.size = 128
  later : st.later = []
  ops : 0 ≤ st.ops ∧ st.ops ≤ k
  arm : -(k : Int) ≤ st.arm ∧ st.arm ≤ 9223372036854775807
theorem St.Dry.idle {st : St} {n k : Nat} (h : st.Dry n k) : st.Idle n k := ⟨h.len, h.safe, h.later, h.ops, by have := h.arm; omega⟩
theorem St.Idle.mono {st : St} {n j k : Nat} (h : st.Idle n j) (hk : j ≤ k) : st.Idle n k := ⟨h.len, h.safe, h.later, by have := h.ops; omega, by have := h.arm; omega⟩
theorem St.Idle.room {st : St} {n k m : Nat} (h : st.Idle n k) (hn : n ≤ 4096) (hm : m ≤ 1000) (hk : k + m ≤ 1000000) : st.Room m where
  safe := h.safe
  data := fun w hw => by rw [h.later] at hw; simp at hw
  many := by rw [h.len]; omega
  few := by rw [h.later]; simp; omega
  ops := by have := h.ops; omega
  arm := by have := h.arm; omega
theorem St.Idle.ok {st : St} {n k : Nat} (h : st.Idle n k) (hn : n ≤ 4096) (hk : k ≤ 1000000) : st.Ok := (h.room (m := 0) hn (by omega) (by omega)).ok
theorem St.Idle.armed {st : St} {n k : Nat} (h : st.Idle n k) (a : Int) (ha : a ≤ 9223372036854775807) : (st.armed a).Idle n k :=
  ⟨h.len, h.safe, h.later, h.ops, by show -(k : Int) ≤ max a 0 ∧ max a 0 ≤ _; omega⟩
theorem idle_now {st : St} {n k : Nat} (h : st.Idle n k) (j : Nat) : st.now j = st.safe.getD j ByteArray.empty := by
  show nowAt st.later j _ = _
  rw [h.later]; rfl
/-- So many of the parts are written: all, or the one behind them was refused. -/
theorem layAll_some (N : Int) (s : ByteArray) (f : Nat) : ∀ (k i : Nat) (st : St), f + i + k ≤ st.safe.length →
    ∃ m e st', layAll N s f i k st = (e, st') ∧ m ≤ k ∧ st'.safe = st.safe ∧ st'.later = st.later ++ layW N s f i m ∧ (st.ops ≤ st'.ops ∧ st'.ops ≤ st.ops + k) ∧ (st.arm - k ≤ st'.arm ∧ st'.arm ≤ st.arm) ∧ ((e = 0 ∧ m = k) ∨ e = 8)
  | 0, i, st, _ => ⟨0, 0, st, rfl, by omega, rfl, (List.append_nil _).symm, by omega, by omega, .inl ⟨rfl, rfl⟩⟩
  | k + 1, i, st, hl => by
    have hsz := secB_size (N := N) (I := ((i : Nat) : Int)) (partS_le s i)
    have hg : st.goodW ((f + i : Nat) : Int) (secB N ((i : Nat) : Int) (partS s i)) = true := by
      unfold St.goodW
      rw [decide_eq_true (by omega), decide_eq_true (by omega), decide_eq_true (by omega)]; rfl
    cases hf : st.fails with
    | true =>
      have hw : st.write ((f + i : Nat) : Int) (secB N ((i : Nat) : Int) (partS s i)) = (8, st.tried) := by
        unfold St.write
        rw [if_pos hg, if_pos hf]
      refine ⟨0, 8, st.tried, ?_, by omega, rfl, (List.append_nil _).symm, ⟨by show st.ops ≤ st.ops + 1; omega, by show st.ops + 1 ≤ _; omega⟩, ⟨by show _ ≤ st.arm - 1; omega, by show st.arm - 1 ≤ _; omega⟩, .inr rfl⟩
      rw [layAll, hw]
      rfl
    | false =>
      have hw : st.write ((f + i : Nat) : Int) (secB N ((i : Nat) : Int) (partS s i)) = (0, { st.tried with later := st.later ++ [(f + i, secB N ((i : Nat) : Int) (partS s i))] }) := by
        unfold St.write
        rw [if_pos hg, hf, if_neg (by decide), Int.toNat_natCast, padB_whole hsz]
      obtain ⟨m, e, st', h1, h2, h3, h4, h5, h6, h7⟩ := layAll_some N s f k (i + 1) { st.tried with later := st.later ++ [(f + i, secB N ((i : Nat) : Int) (partS s i))] } (by show f + (i + 1) + k ≤ st.safe.length; omega)
      refine ⟨m + 1, e, st', ?_, by omega, h3, ?_, ?_, ?_, ?_⟩
      · rw [layAll, hw]
        dsimp only
        rw [if_pos rfl]; exact h1
      · rw [h4, layW_cons]
        show (st.later ++ [_]) ++ _ = _
        rw [List.append_assoc]; rfl
      · have a1 : st.ops + 1 ≤ st'.ops := h5.1
        have a2 : st'.ops ≤ st.ops + 1 + k := h5.2
        omega
      · have a1 : st.arm - 1 - k ≤ st'.arm := h6.1
        have a2 : st'.arm ≤ st.arm - 1 := h6.2
        omega
      · rcases h7 with ⟨e1, e2⟩ | e1
        · exact .inl ⟨e1, by omega⟩
        · exact .inr e1
/-- Behind a crash of such writes. -/
theorem crash_flown {st0 st : St} {n k m c : Nat} (h : st0.Idle n k) {N : Int} {f : ByteArray} {a : Nat} (hs : st.safe = st0.safe) (hl : st.later = layW N f a 0 m) (hmc : m ≤ c) (hac : a + c ≤ n) (mask : Nat) (torn cut : Int) :
    Flown st0.now (st.crashed mask torn cut).now a c N f := by
  have hn : ∀ j, (st.crashed mask torn cut).now j = (lasting mask torn (cutC cut) 0 (layW N f a 0 m) st0.safe).getD j ByteArray.empty := fun j => by
    show (lasting mask torn (cutC cut) 0 st.later st.safe).getD j ByteArray.empty = _
    rw [hs, hl]
  have hla := fun j => lasting_at N f a mask torn (cutC cut) j m 0 st0.safe (by rw [h.len]; omega)
  have hsz : ∀ j, j < n → (st0.safe.getD j ByteArray.empty).size = 128 := fun j hj => by
    rw [List.getD_eq_getElem?_getD, List.getElem?_eq_getElem (by rw [h.len]; exact hj)]
    exact h.safe _ (List.getElem_mem _)
  refine ⟨fun i hi => ?_, fun j hj => ?_⟩
  · have hb := hla (a + i)
    rw [hn (a + i), idle_now h (a + i)]
    have h128 := hsz (a + i) (by omega)
    by_cases e : i < m
    · rw [if_pos (by omega), show a + i - a = i by omega] at hb
      rcases hb with b | b | b
      · exact ⟨0, by omega, b.trans (mixB_zero h128).symm⟩
      · exact ⟨128, by omega, b.trans (mixB_all (secB_size (partS_le f i)) h128).symm⟩
      · exact ⟨cutC cut, cutC_le cut, b⟩
    · rw [if_neg (by omega)] at hb
      exact ⟨0, by omega, hb.trans (mixB_zero h128).symm⟩
  · have hb := hla j
    rw [if_neg (by omega)] at hb
    rw [hn j, idle_now h j]
    exact hb
theorem crash_idle {st st0 : St} {n k : Nat} (h : st0.Idle n k) (hlen : st.safe = st0.safe) {N : Int} {f : ByteArray} {a m c : Nat} (hl : st.later = layW N f a 0 m) (hmc : m ≤ c) (hac : a + c ≤ n) (k2 : Nat) (hops : 0 ≤ st.ops ∧ st.ops ≤ k2) (mask : Nat) (torn cut : Int) : (st.crashed mask torn cut).Idle n k2 := by
  refine ⟨?_, ?_, rfl, hops, by show -(k2 : Int) ≤ 0 ∧ (0 : Int) ≤ _; omega⟩
  · show (lasting mask torn (cutC cut) 0 st.later st.safe).length = n
    rw [lasting_length, hlen]; exact h.len
  · refine lasting_sizes mask torn _ (cutC_le cut) st.later 0 st.safe (fun w hw => ?_) (by rw [hlen]; exact h.safe)
    rw [hl] at hw
    unfold layW at hw
    obtain ⟨j, hj2, rfl⟩ := List.mem_map.mp hw
    have := List.mem_range.mp hj2
    refine ⟨secB_size (partS_le _ _), ?_⟩
    show a + (0 + j) < st.safe.length
    rw [hlen, h.len]; omega
end Go.Proofs.Ytgolddcmhjdmdaa
