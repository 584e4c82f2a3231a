/- Sum of a list. -/
import Derived.Test.YtddjogbenfkcpaaDoorWe
namespace Go.Proofs.YtddjogbenfkcpaaDoor
open Go.RowKit Go.Sort Wm

/-- Sums of the first numbers of a list; none, once one is too great. -/
def sumsN : List Nat → Nat → Option Nat
  | [], acc => some acc
  | n :: r, acc => if acc + n < big then sumsN r (acc + n) else none
/-- A row of numbers in memory. -/
def RowN (w : World) (b : Nat) (ns : List Nat) : Prop := ∀ j, j < ns.length → w.cell? ⟨b, j * 2, none⟩ = some (.int .u64 ((hiN (ns.getD j 0) : Nat) : Int)) ∧ w.cell? ⟨b, j * 2 + 1, none⟩ = some (.int .u64 ((loN (ns.getD j 0) : Nat) : Int))
theorem RowN.later {w w2 : World} {b : Nat} {ns : List Nat} (h : RowN w b ns) (hb : Below w.heap.size w w2) (hlt : b < w.heap.size) : RowN w2 b ns := fun j hj =>
  ⟨by rw [hb.cell (by exact hlt)]; exact (h j hj).1, by rw [hb.cell (by exact hlt)]; exact (h j hj).2⟩

/-- A result's cell, and the sum so far. -/
structure Acc (w wr : World) (b : Nat) (ns : List Nat) (acc : Nat) : Prop where
  row : RowN wr b ns
  r0 : ∃ v, wr.cell? ⟨w.heap.size, 0, none⟩ = some v
  r1 : ∃ v, wr.cell? ⟨w.heap.size, 1, none⟩ = some v
  f0 : wr.frozen? ⟨w.heap.size, 0, none⟩ = false
  f1 : wr.frozen? ⟨w.heap.size, 1, none⟩ = false
  a0 : wr.cell? ⟨w.heap.size + 1, 0, none⟩ = some (.int .u64 ((hiN acc : Nat) : Int))
  a1 : wr.cell? ⟨w.heap.size + 1, 1, none⟩ = some (.int .u64 ((loN acc : Nat) : Int))
  g0 : wr.frozen? ⟨w.heap.size + 1, 0, none⟩ = false
  g1 : wr.frozen? ⟨w.heap.size + 1, 1, none⟩ = false
  lt : b < w.heap.size
  size : w.heap.size + 1 < wr.heap.size
  below : Below w.heap.size w wr
theorem Acc.later {w wr w2 : World} {b acc : Nat} {ns : List Nat} (h : Acc w wr b ns acc) (hb : Below wr.heap.size wr w2) : Acc w w2 b ns acc :=
  have hs := h.size
  have hl := h.lt
  have c1 : ∀ j, w2.cell? ⟨w.heap.size, j, none⟩ = wr.cell? ⟨w.heap.size, j, none⟩ := fun j => hb.cell (by show w.heap.size < _; omega)
  have f1 : ∀ j, w2.frozen? ⟨w.heap.size, j, none⟩ = wr.frozen? ⟨w.heap.size, j, none⟩ := fun j => hb.frozen (by show w.heap.size < _; omega)
  have c2 : ∀ j, w2.cell? ⟨w.heap.size + 1, j, none⟩ = wr.cell? ⟨w.heap.size + 1, j, none⟩ := fun j => hb.cell (by show w.heap.size + 1 < _; omega)
  have f2 : ∀ j, w2.frozen? ⟨w.heap.size + 1, j, none⟩ = wr.frozen? ⟨w.heap.size + 1, j, none⟩ := fun j => hb.frozen (by show w.heap.size + 1 < _; omega)
  ⟨h.row.later hb (by omega), by rw [c1]; exact h.r0, by rw [c1]; exact h.r1, by rw [f1]; exact h.f0, by rw [f1]; exact h.f1, by rw [c2]; exact h.a0, by rw [c2]; exact h.a1, by rw [f2]; exact h.g0, by rw [f2]; exact h.g1, h.lt, Nat.lt_of_lt_of_le h.size hb.size, h.below.trans (hb.mono (by omega))⟩
theorem Acc.put {w wr : World} {b acc y : Nat} {ns : List Nat} (h : Acc w wr b ns acc) : Acc w ((wr.setCell ⟨w.heap.size + 1, 0, none⟩ (.int .u64 ((hiN y : Nat) : Int))).setCell ⟨w.heap.size + 1, 1, none⟩ (.int .u64 ((loN y : Nat) : Int))) b ns y := by
  have hl := h.lt
  have far : ∀ c j, c ≠ w.heap.size + 1 → ((wr.setCell ⟨w.heap.size + 1, 0, none⟩ (.int .u64 ((hiN y : Nat) : Int))).setCell ⟨w.heap.size + 1, 1, none⟩ (.int .u64 ((loN y : Nat) : Int))).cell? ⟨c, j, none⟩ = wr.cell? ⟨c, j, none⟩ := fun c j hc => cell_put_far hc
  exact ⟨fun j hj => ⟨by rw [far _ _ (by omega)]; exact (h.row j hj).1, by rw [far _ _ (by omega)]; exact (h.row j hj).2⟩, by rw [far _ _ (by omega)]; exact h.r0, by rw [far _ _ (by omega)]; exact h.r1, by simpa using h.f0, by simpa using h.f1, cell_put0 h.a0 h.a1, cell_put1 h.a0 h.a1, by simpa using h.g0, by simpa using h.g1, h.lt, by simpa using h.size, bl_put h.below (by omega)⟩

set_option maxRecDepth 100000 in
set_option maxHeartbeats 1000000 in
theorem sum_any (ns : List Nat) (b : Nat) (hns : ∀ n ∈ ns, n < big) (hlen : ns.length < 1000) (w : World) (hR : RowN w b ns) (hlt : b < w.heap.size) :
    Calls Tryd.prog 14 #[.slice (some ⟨b, 0, none⟩) ns.length ns.length] w fun e w' => e = .returned (.tuple #[numV ((sumsN ns 0).getD 0), .bool (sumsN ns 0).isSome]) ∧ Below w.heap.size w w' := by
  go_enter Tryd.func14, Tryd.ntmps14
  go_wp2
  go_loopw [11] (fun i wr => ∃ k acc : Nat, k ≤ ns.length ∧ i = .int .i64 k ∧ acc < big ∧ Hid (sumsN ns 0 = sumsN (ns.drop k) acc) ∧ Acc w wr b ns acc) (fun i _ => (ns.length - intOf i).toNat)
  case atStart =>
    have hbl : ∀ A B : Obj, Below w.heap.size w ((w.alloc A).alloc B) := fun A B => ((Below.refl _ _).alloc (Nat.le_refl _) _).alloc (by simp) _
    refine ⟨0, 0, by omega, rfl, by rw [big_eq]; omega, rfl, hR.later (hbl _ _) hlt, ⟨.int .u64 0, by simp [go_sem]⟩, ⟨.int .u64 0, by simp [go_sem]⟩, by simp [go_sem], by simp [go_sem], by simp [go_sem, hiN_zero], by simp [go_sem, loN_zero], by simp [go_sem], by simp [go_sem], hlt, by simp, hbl _ _⟩
  case round =>
    obtain ⟨k, acc, hk, rfl, hacc, hsum, hA⟩ := hrel
    by_cases hkl : k < ns.length
    · have hmem : ns.getD k 0 < big := hns _ (by rw [List.getD_eq_getElem?_getD, List.getElem?_eq_getElem hkl]; exact List.getElem_mem hkl)
      obtain ⟨e0, e1⟩ := hA.row k hkl
      have hdrop : ns.drop k = ns.getD k 0 :: ns.drop (k + 1) := by rw [List.drop_eq_getElem_cons hkl, List.getD_eq_getElem?_getD, List.getElem?_eq_getElem hkl]; rfl
      have hadd := Lib.hid (fun w => add_any acc (ns.getD k 0) hacc hmem w)
      generalize ns.getD k 0 = x at *
      replace hdrop := Lib.hid hdrop
      have tb := hA.lt
      have ts := hA.size
      have ta0 := hA.a0
      have ta1 := hA.a1
      by_cases hfit : acc + x < big
      · rw [sumN_yes hfit, sumOk_yes hfit] at hadd
        go_wp2_with fail
        refine (hadd.out _).mono ?_
        rintro e w1 ⟨rfl, hw1⟩
        replace hA := (hA.later ((Below.refl _ _).alloc (Nat.le_refl _) _)).later hw1
        have ts := hA.size
        have ta0 := hA.a0
        have ta1 := hA.a1
        have tg0 := hA.g0
        have tg1 := hA.g1
        have ts0 : w.heap.size < w1.heap.size := by omega
        have hfit2 := Lib.hid hfit
        clear hw1 e0 e1 hadd hfit
        go_wp2
        refine ⟨⟨k + 1, acc + x, by omega, by go_num, by have := hfit2.out; omega, ?_, hA.put.later ((Below.refl _ _).alloc (Nat.le_refl _) _)⟩, by simp [intOf]; omega⟩
        show sumsN ns 0 = _
        rw [hsum.out, hdrop.out, sumsN, if_pos hfit2.out]
      · rw [sumN_no hfit, sumOk_no hfit] at hadd
        go_wp2_with fail
        refine (hadd.out _).mono ?_
        rintro e w1 ⟨rfl, hw1⟩
        replace hA := (hA.later ((Below.refl _ _).alloc (Nat.le_refl _) _)).later hw1
        have ts := hA.size
        obtain ⟨v0, tr0⟩ := hA.r0
        obtain ⟨v1, tr1⟩ := hA.r1
        have tf0 := hA.f0
        have tf1 := hA.f1
        have hnone : sumsN ns 0 = none := by rw [hsum.out, hdrop.out, sumsN, if_neg hfit]
        replace hnone := Lib.hid hnone
        have ts0 : w.heap.size < w1.heap.size := by omega
        clear hw1 e0 e1 hadd hfit
        go_wp2
        refine bodyPost_ret (v := .tuple #[numV 0, .bool false]) ?_ rfl ?_
        · have ts1 : w.heap.size < w1.heap.size := ts0
          simp [results, Tryd.results14, go_sem, cell_put0 tr0 tr1, cell_put1 tr0 tr1, hiN_zero, loN_zero, ts1]
        · exact ⟨by rw [hnone.out]; rfl, (bl_put hA.below (Nat.le_refl _)).alloc (by simp; omega) _⟩
    · obtain rfl : k = ns.length := by omega
      have hsome : sumsN ns 0 = some acc := by rw [hsum.out, List.drop_length]; rfl
      replace hsome := Lib.hid hsome
      have ts := hA.size
      obtain ⟨v0, tr0⟩ := hA.r0
      obtain ⟨v1, tr1⟩ := hA.r1
      have tf0 := hA.f0
      have tf1 := hA.f1
      have ta0 := hA.a0
      have ta1 := hA.a1
      go_wp2
      refine bodyPost_ret (v := .tuple #[numV acc, .bool true]) ?_ rfl ?_
      · simp [results, Tryd.results14, go_sem, cell_put0 tr0 tr1, cell_put1 tr0 tr1]
      · exact ⟨by rw [hsome.out]; rfl, bl_put hA.below (Nat.le_refl _)⟩
end Go.Proofs.YtddjogbenfkcpaaDoor
