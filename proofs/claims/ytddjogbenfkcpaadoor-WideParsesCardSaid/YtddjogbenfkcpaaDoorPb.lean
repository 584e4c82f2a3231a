/- Parse: the number that digits are. -/
import Derived.Test.YtddjogbenfkcpaaDoorPa
import Derived.RegionTactic
import Derived.Deep.RegionHeld3
import Derived.Deep.DeepCutAuto
namespace Go.Proofs.YtddjogbenfkcpaaDoor
open Go.RowKit Go.Sort Wm

/-- The number that the bytes make behind a number; none, at the first that is no digit, or goes too far. -/
def parseL : List UInt8 → Nat → Option Nat
  | [], acc => some acc
  | b :: r, acc => match nextN acc b.toNat with
    | some n => parseL r n
    | none => none

/-- The number of the error: none, or ErrForm. -/
def errN : Option Nat → Int
  | some _ => 0
  | none => 4
theorem size_list (s : ByteArray) : s.data.toList.length = s.size := rfl
theorem not_empty (s : ByteArray) (hs : 0 < s.size) : s.toList.isEmpty = false := by
  rw [ByteArray.toList_eq]; cases h : s.data.toList with
  | nil => have := size_list s; rw [h] at this; simp at this; omega
  | cons _ _ => rfl
set_option maxRecDepth 100000 in
set_option maxHeartbeats 1000000 in
theorem parse_empty (w : World) :
    Calls Tryd.prog 24 #[.string ⟨#[]⟩] w fun e w' => e = .returned (.tuple #[numV 0, .int .i64 4]) ∧ Below w.heap.size w w' := by
  go_enter Tryd.func24, Tryd.ntmps24
  go_wp2
  refine bodyPost_ret (v := .tuple #[numV 0, .int .i64 4]) ?_ rfl ?_
  · simp [results, Tryd.results24, go_sem, hiN_zero, loN_zero]
  · exact ⟨rfl, (Below.refl _ _).alloc (Nat.le_refl _) _⟩
set_option maxRecDepth 100000 in
set_option maxHeartbeats 1000000 in
theorem parse_nought (s : ByteArray) (hs : 1 < s.size) (hm : s.size ≤ maxLen) (h0 : s[0].toNat = 48) (w : World) :
    Calls Tryd.prog 24 #[.string s] w fun e w' => e = .returned (.tuple #[numV 0, .int .i64 4]) ∧ Below w.heap.size w w' := by
  unfold maxLen at hm
  have hne := not_empty s (by omega)
  have hb : (((s[0].toNat : Nat) : Int) == 48) = true := by rw [beq_iff_eq]; omega
  go_enter Tryd.func24, Tryd.ntmps24
  go_wp2
  refine bodyPost_ret (v := .tuple #[numV 0, .int .i64 4]) ?_ rfl ?_
  · simp [results, Tryd.results24, go_sem, hiN_zero, loN_zero]
  · exact ⟨rfl, (Below.refl _ _).alloc (Nat.le_refl _) _⟩

/-- A result's cell, and the number so far. -/
structure Ac (w wr : World) (acc : Nat) : Prop where
  r0 : ∃ v, wr.cell? ⟨w.heap.size, 0, none⟩ = some v
  r1 : ∃ v, wr.cell? ⟨w.heap.size, 1, none⟩ = some v
  f0 : wr.frozen? ⟨w.heap.size, 0, none⟩ = false
  f1 : wr.frozen? ⟨w.heap.size, 1, none⟩ = false
  a0 : wr.cell? ⟨w.heap.size + 1, 0, none⟩ = some (.int .u64 ((hiN acc : Nat) : Int))
  a1 : wr.cell? ⟨w.heap.size + 1, 1, none⟩ = some (.int .u64 ((loN acc : Nat) : Int))
  g0 : wr.frozen? ⟨w.heap.size + 1, 0, none⟩ = false
  g1 : wr.frozen? ⟨w.heap.size + 1, 1, none⟩ = false
  size : w.heap.size + 1 < wr.heap.size
  below : Below w.heap.size w wr
theorem Ac.later {w wr w2 : World} {acc : Nat} (h : Ac w wr acc) (hb : Below wr.heap.size wr w2) : Ac w w2 acc :=
  have hs := h.size
  have c1 : ∀ j, w2.cell? ⟨w.heap.size, j, none⟩ = wr.cell? ⟨w.heap.size, j, none⟩ := fun j => hb.cell (by show w.heap.size < _; omega)
  have f1 : ∀ j, w2.frozen? ⟨w.heap.size, j, none⟩ = wr.frozen? ⟨w.heap.size, j, none⟩ := fun j => hb.frozen (by show w.heap.size < _; omega)
  have c2 : ∀ j, w2.cell? ⟨w.heap.size + 1, j, none⟩ = wr.cell? ⟨w.heap.size + 1, j, none⟩ := fun j => hb.cell (by show w.heap.size + 1 < _; omega)
  have f2 : ∀ j, w2.frozen? ⟨w.heap.size + 1, j, none⟩ = wr.frozen? ⟨w.heap.size + 1, j, none⟩ := fun j => hb.frozen (by show w.heap.size + 1 < _; omega)
  ⟨by rw [c1]; exact h.r0, by rw [c1]; exact h.r1, by rw [f1]; exact h.f0, by rw [f1]; exact h.f1, by rw [c2]; exact h.a0, by rw [c2]; exact h.a1, by rw [f2]; exact h.g0, by rw [f2]; exact h.g1, Nat.lt_of_lt_of_le h.size hb.size, h.below.trans (hb.mono (by omega))⟩
theorem Ac.put {w wr : World} {acc y : Nat} (h : Ac w wr acc) : Ac w ((wr.setCell ⟨w.heap.size + 1, 0, none⟩ (.int .u64 ((hiN y : Nat) : Int))).setCell ⟨w.heap.size + 1, 1, none⟩ (.int .u64 ((loN y : Nat) : Int))) y := by
  have far : ∀ c j, c ≠ w.heap.size + 1 → ((wr.setCell ⟨w.heap.size + 1, 0, none⟩ (.int .u64 ((hiN y : Nat) : Int))).setCell ⟨w.heap.size + 1, 1, none⟩ (.int .u64 ((loN y : Nat) : Int))).cell? ⟨c, j, none⟩ = wr.cell? ⟨c, j, none⟩ := fun c j hc => cell_put_far hc
  exact ⟨by rw [far _ _ (by omega)]; exact h.r0, by rw [far _ _ (by omega)]; exact h.r1, by simpa using h.f0, by simpa using h.f1, cell_put0 h.a0 h.a1, cell_put1 h.a0 h.a1, by simpa using h.g0, by simpa using h.g1, by simpa using h.size, bl_put h.below (by omega)⟩
theorem keep_ac {w wr W : World} {acc : Nat} (h : Ac w wr acc) (hb : Below wr.heap.size wr W) : W.cell? ⟨w.heap.size + 1, 0, none⟩ = some (.int .u64 ((hiN acc : Nat) : Int)) ∧ W.cell? ⟨w.heap.size + 1, 1, none⟩ = some (.int .u64 ((loN acc : Nat) : Int)) ∧ Below wr.heap.size wr W :=
  ⟨(h.later hb).a0, (h.later hb).a1, hb⟩

set_option maxRecDepth 100000 in
set_option maxHeartbeats 2000000 in
theorem parse_loop (s : ByteArray) (hs : 0 < s.size) (hm : s.size ≤ 100) (h0 : s[0].toNat ≠ 48 ∨ s.size = 1) (w : World) :
    Calls Tryd.prog 24 #[.string s] w fun e w' => e = .returned (.tuple #[numV ((parseL s.data.toList 0).getD 0), .int .i64 (errN (parseL s.data.toList 0))]) ∧ Below w.heap.size w w' := by
  have hne := not_empty s hs
  have hsplit : ((((s[0].toNat : Nat) : Int) == 48) = false) ∨ ((((s[0].toNat : Nat) : Int) == 48) = true ∧ decide ((1 : Int) < ((s.size : Nat) : Int)) = false) := by
    by_cases h : s[0].toNat = 48
    · right
      have h1 : s.size = 1 := by rcases h0 with k | k; exact absurd h k; exact k
      exact ⟨by rw [beq_iff_eq]; omega, decide_eq_false (by omega)⟩
    · left; rw [beq_eq_false_iff_ne]; omega
  clear h0
  rcases hsplit with hb | ⟨hb, hz⟩
  all_goals
    go_enter Tryd.func24, Tryd.ntmps24
    go_wp2
    go_loopw [23] (fun i wr => ∃ k acc : Nat, k ≤ s.size ∧ i = .int .i64 k ∧ acc < big ∧ Hid (parseL s.data.toList 0 = parseL (s.data.toList.drop k) acc) ∧ Ac w wr acc) (fun i _ => (s.size - intOf i).toNat)
    case atStart =>
      have hbl : ∀ A B : Obj, Below w.heap.size w ((w.alloc A).alloc B) := fun A B => ((Below.refl _ _).alloc (Nat.le_refl _) _).alloc (by simp) _
      exact ⟨0, 0, by omega, rfl, by rw [big_eq]; omega, rfl, ⟨.int .u64 0, by simp [go_sem]⟩, ⟨.int .u64 0, by simp [go_sem]⟩, by simp [go_sem], by simp [go_sem], by simp [go_sem, hiN_zero], by simp [go_sem, loN_zero], by simp [go_sem], by simp [go_sem], by simp, hbl _ _⟩
    case round =>
      clear hb hne
      obtain ⟨k, acc, hk, rfl, hacc, hpar, hA⟩ := hrel
      by_cases hkl : k < s.size
      · have hlt : ((k : Nat) : Int) < ((s.size : Nat) : Int) := by omega
        have hdrop := Lib.hid (show s.data.toList.drop k = s[k] :: s.data.toList.drop (k + 1) by
          rw [List.drop_eq_getElem_cons (by rw [size_list]; exact hkl)]; rfl)
        have hby : s[k].toNat < 256 := UInt8.toNat_lt _
        have hdg := Lib.hid (fun w => digit_any acc s[k].toNat hacc hby w)
        go_upto_region 7 with fail
        go_cut [6, 7] (fun p b wc => ∃ g : Nat, p = .pointer (some ⟨g, 0, none⟩) ∧ b = .bool (nextN acc s[k].toNat).isSome ∧ wc.cell? ⟨g, 0, none⟩ = some (.int .u64 ((hiN ((nextN acc s[k].toNat).getD 0) : Nat) : Int)) ∧ wc.cell? ⟨g, 1, none⟩ = some (.int .u64 ((loN ((nextN acc s[k].toNat).getD 0) : Nat) : Int)) ∧ Below wr.heap.size wr wc)
        case first =>
          go_region_held3 (fun w' => w'.cell? ⟨w.heap.size + 1, 0, none⟩ = some (.int .u64 ((hiN acc : Nat) : Int)) ∧ w'.cell? ⟨w.heap.size + 1, 1, none⟩ = some (.int .u64 ((loN acc : Nat) : Int)) ∧ Below wr.heap.size wr w')
            (first | assumption | (refine keep_ac hA ?_; first | exact Below.refl _ _ | exact (Below.refl _ _).drew | exact keep_call (by assumption) hbx | exact keep_alloc (by assumption) _ | exact keep_drew (by assumption) | exact Below.alloc hwx (Below.size hwx) _ | exact keep_put (by assumption) (by first | exact Nat.le_refl _ | exact Below.size (by assumption)) _ _))
            (first | (go_at_call 33; with_reducible refine (hdg.out _).mono ?_; rintro e wx ⟨rfl, hbx⟩; have hwx : Below wr.heap.size wr wx := keep_call (by assumption) hbx; obtain ⟨hcx, hfx, hzx⟩ := bcell hbx))
          all_goals
            rename_i hHd
            obtain ⟨_, _, hBd⟩ := hHd
            go_wp2_with fail
            go_meet
            case rel =>
              refine ⟨_, rfl, rfl, ?_, ?_, hBd⟩
              · first
                  | (simp [go_sem]; done)
                  | (refine cell_put0 (u := .int .u64 0) (v := .int .u64 0) ?_ ?_ <;> (rw [hcx _ _ (by simp)]; simp [go_sem]))
              · first
                  | (simp [go_sem]; done)
                  | (refine cell_put1 (u := .int .u64 0) (v := .int .u64 0) ?_ ?_ <;> (rw [hcx _ _ (by simp)]; simp [go_sem]))
        case rest =>
          obtain ⟨g, rfl, rfl, hg0, hg1, hBc⟩ := hcut
          replace hA := hA.later hBc
          clear hBc hdg
          have ts0 : w.heap.size < wc.heap.size := by have := hA.size; omega
          cases hnx : nextN acc s[k].toNat with
          | none =>
            rw [hnx] at hg0 hg1
            have hno : parseL s.data.toList 0 = none := by rw [hpar.out, hdrop.out, parseL, hnx]
            replace hno := Lib.hid hno
            replace hnx := Lib.hid hnx
            obtain ⟨v0, tr0⟩ := hA.r0
            obtain ⟨v1, tr1⟩ := hA.r1
            have tf0 := hA.f0
            have tf1 := hA.f1
            go_wp2
            refine bodyPost_ret (v := .tuple #[numV 0, .int .i64 4]) ?_ rfl ?_
            · simp [results, Tryd.results24, go_sem, cell_put0 tr0 tr1, cell_put1 tr0 tr1, hiN_zero, loN_zero]
            · exact ⟨by rw [hno.out]; rfl, bl_put hA.below (Nat.le_refl _)⟩
          | some n =>
            rw [hnx] at hg0 hg1
            have hn := nextN_lt hnx
            have hgo : parseL s.data.toList 0 = parseL (s.data.toList.drop (k + 1)) n := by rw [hpar.out, hdrop.out, parseL, hnx]
            replace hgo := Lib.hid hgo
            replace hnx := Lib.hid hnx
            have ta0 := hA.a0
            have ta1 := hA.a1
            have tg0 := hA.g0
            have tg1 := hA.g1
            simp only [Option.getD_some] at hg0 hg1
            go_wp2
            exact ⟨⟨k + 1, n, by omega, by go_num, hn, hgo, hA.put⟩, by simp [intOf]; omega⟩
      · obtain rfl : k = s.size := by omega
        have hyes : parseL s.data.toList 0 = some acc := by rw [hpar.out, List.drop_of_length_le (by rw [size_list]; exact Nat.le_refl _)]; rfl
        replace hyes := Lib.hid hyes
        obtain ⟨v0, tr0⟩ := hA.r0
        obtain ⟨v1, tr1⟩ := hA.r1
        have tf0 := hA.f0
        have tf1 := hA.f1
        have ta0 := hA.a0
        have ta1 := hA.a1
        go_wp2
        refine bodyPost_ret (v := .tuple #[numV acc, .int .i64 0]) ?_ rfl ?_
        · simp [results, Tryd.results24, go_sem, cell_put0 tr0 tr1, cell_put1 tr0 tr1]
        · exact ⟨by rw [hyes.out]; rfl, bl_put hA.below (Nat.le_refl _)⟩
end Go.Proofs.YtddjogbenfkcpaaDoor
