/- Stage 14: the law's edit: a script of Add and Set on one list. No condition but sizes. -/
import Derived.Test.YtkahohgbcnchiaaUnx
namespace Go.Proofs.Ytkahohgbcnchiaa
open Go.RowKit Wm

def editU (hist : List (List Int)) (c : Ucall) : List (List Int) :=
  match hist with
  | [] => []
  | xs :: pst => if c.Kind = 0 then (xs ++ [c.X]) :: xs :: pst else if c.Kind = 1 ∧ hasU xs c.I = true then xs.set c.I.toNat c.X :: xs :: pst else xs :: pst
def editsU (hist : List (List Int)) (l : List Ucall) : List (List Int) := l.foldl editU hist
theorem editsU_snoc (hist : List (List Int)) (l : List Ucall) (c : Ucall) : editsU hist (l ++ [c]) = editU (editsU hist l) c := by unfold editsU; rw [List.foldl_append]; rfl
/-- What was stays behind. -/
def SufU (a b : List (List Int)) : Prop := ∃ ext, b = ext ++ a
theorem editU_suf (hist : List (List Int)) (c : Ucall) : SufU hist (editU hist c) := by
  unfold editU
  cases hist with
  | nil => exact ⟨[], rfl⟩
  | cons xs pst =>
    dsimp only
    split
    · exact ⟨[_], rfl⟩
    · split
      · exact ⟨[_], rfl⟩
      · exact ⟨[], rfl⟩
theorem editsU_suf (l : List Ucall) : ∀ hist : List (List Int), SufU hist (editsU hist l) := by
  induction l with
  | nil => exact fun hist => ⟨[], rfl⟩
  | cons c r ih =>
    intro hist
    obtain ⟨e1, h1⟩ := editU_suf hist c
    obtain ⟨e2, h2⟩ := ih (editU hist c)
    refine ⟨e2 ++ e1, ?_⟩
    have : editsU hist (c :: r) = editsU (editU hist c) r := rfl
    rw [this, h2, h1, List.append_assoc]
/-- Of n changes. -/
structure GoodL (n : Nat) (hist : List (List Int)) : Prop where
  ne : hist ≠ []
  len : hist.length ≤ n + 1
  all : ∀ s ∈ hist, s.length ≤ n
theorem GoodL.start : GoodL 0 [[]] := ⟨by simp, by simp, fun s hs => by rw [List.mem_singleton.1 hs]; simp⟩
theorem GoodL.mono {n m : Nat} {hist : List (List Int)} (h : GoodL n hist) (hm : n ≤ m) : GoodL m hist := ⟨h.ne, by have := h.len; omega, fun s hs => by have := h.all s hs; omega⟩
theorem GoodL.next {n : Nat} {hist : List (List Int)} (h : GoodL n hist) (c : Ucall) : GoodL (n + 1) (editU hist c) := by
  cases hist with
  | nil => exact (h.ne rfl).elim
  | cons xs pst =>
    have hst := h.all xs (List.mem_cons_self ..)
    have hl := h.len
    rw [List.length_cons] at hl
    have push : ∀ ys : List Int, ys.length ≤ n + 1 → GoodL (n + 1) (ys :: xs :: pst) := fun ys hy => ⟨by simp, by simp; omega, fun s hs => by
      rcases List.mem_cons.1 hs with rfl | hs
      · exact hy
      · have := h.all s hs; omega⟩
    unfold editU
    dsimp only
    split
    · exact push _ (by simp; omega)
    · split
      · exact push _ (by simp; omega)
      · exact h.mono (by omega)
theorem GoodL.edits {hist : List (List Int)} : ∀ (l : List Ucall) {n : Nat}, GoodL n hist → GoodL (n + l.length) (editsU hist l)
  | [], n, h => h
  | c :: r, n, h => by
    have : editsU hist (c :: r) = editsU (editU hist c) r := rfl
    rw [this, List.length_cons, show n + (r.length + 1) = (n + 1) + r.length by omega]
    exact GoodL.edits r (h.next c)
theorem GoodL.cons {n : Nat} {hist : List (List Int)} (h : GoodL n hist) : ∃ xs pst, hist = xs :: pst ∧ pst.length ≤ n ∧ xs.length ≤ n := by
  cases hist with
  | nil => exact (h.ne rfl).elim
  | cons xs pst => exact ⟨xs, pst, rfl, by have := h.len; simpa using this, h.all xs (List.mem_cons_self ..)⟩
section
variable {w W : World} {R : Asr} {g pl : Nat} {hist : List (List Int)}
set_option maxRecDepth 100000 in
set_option maxHeartbeats 4000000 in
theorem uedit_any (L : IsAsr R) (h : Held w W (star (deskA g (N1 g pl) hist) R)) {n : Nat} (hg : GoodL n hist) (ao : Option Addr) (cap : Nat) (l : List Ucall) (hln : n + l.length ≤ 10000) (hA : UcallsAt w ao l) :
    Calls Try.prog 21 #[.pointer (some ⟨pl, 0, none⟩), .slice ao l.length cap] W fun e w2 => e = .returned (.tuple #[]) ∧ Held w w2 (star (deskA g (N1 g pl) (editsU hist l)) R) := by
  go_enter Try.func21, Try.ntmps21
  go_wp2_with fail
  go_loopw [8] (fun iv wr => ∃ i : Nat, i ≤ l.length ∧ iv = .int .i64 i ∧ Held w wr (star (deskA g (N1 g pl) (editsU hist (l.take i))) R)) (fun iv _ => (l.length - RowKit.intOf iv).toNat)
  case atStart => exact ⟨0, by omega, rfl, by rw [List.take_zero]; exact h⟩
  case round =>
    clear h
    obtain ⟨i, hi, rfl, hT⟩ := hrel
    by_cases hlt : i < l.length
    · obtain ⟨bb, off, rfl, hbl, c0, c1, c2, c3⟩ := ucalls_cells (hA.below hT.below (Nat.le_refl _)) hlt
      have hltI : decide (i < l.length) = true := decide_eq_true hlt
      have hgi := hg.edits (l.take i)
      have hli : (l.take i).length ≤ l.length := by rw [List.length_take]; omega
      have hnx : editsU hist (l.take (i + 1)) = editU (editsU hist (l.take i)) l[i] := by rw [← editsU_snoc, List.take_succ_eq_append_getElem hlt]
      obtain ⟨xs, pst, hxp, hp1, hp2⟩ := hgi.cons
      rw [hxp] at hT hnx
      have hT2 := hT.box ((isAsr_desk (isAsr_N1 g pl) g _).star L) (l[i]).cells 33
      replace hnx := Lib.hid hnx
      generalize l[i] = x at *
      obtain ⟨kind, sec, ci, cx⟩ := x
      dsimp only at c0 c1 c2 c3
      have LB := (isAsr_box wr.heap.size (Ucall.mk kind sec ci cx).cells).star L
      have hfin := Lib.hid (fun wx ys (hy : editU (xs :: pst) ⟨kind, sec, ci, cx⟩ = ys) (hh : Held w wx (star (deskA g (N1 g pl) ys) R)) => show ∃ j : Nat, j ≤ l.length ∧ Value.int .i64 ((i : Int) + 1) = .int .i64 j ∧ Held w wx (star (deskA g (N1 g pl) (editsU hist (l.take j))) R) from ⟨i + 1, by omega, rfl, by rw [hnx.out, hy]; exact hh⟩)
      clear hgi hxp hnx hg hT hA
      by_cases k0 : kind = 0
      · subst k0
        have ka := Lib.hid (desk1_add LB hT2.pull cx (by omega) (by omega))
        replace hfin := Lib.hid (fun wx hh => hfin.out wx ((xs ++ [cx]) :: xs :: pst) rfl hh)
        clear hT2
        go_wp2_with fail
        refine ka.out.mono ?_
        rintro e w3 ⟨rfl, hT3⟩
        replace hT3 := Lib.hid hT3.pull.rest
        clear ka
        go_wp2_with fail
        go_roundw
        case measure => simp [RowKit.intOf]; omega
        case rel => exact hfin.out _ hT3.out
      by_cases k1 : kind = 1
      · subst k1
        cases hu : hasU xs ci with
        | true =>
          have ka := Lib.hid (desk1_set LB hT2.pull ci cx hu (by omega))
          replace hfin := Lib.hid (fun wx hh => hfin.out wx (xs.set ci.toNat cx :: xs :: pst) (by unfold editU; dsimp only; rw [if_neg (by decide), if_pos ⟨rfl, hu⟩]) hh)
          clear hT2
          go_wp2_with fail
          refine ka.out.mono ?_
          rintro e w3 ⟨rfl, hT3⟩
          replace hT3 := Lib.hid hT3.pull.rest
          clear ka
          go_wp2_with fail
          go_roundw
          case measure => simp [RowKit.intOf]; omega
          case rel => exact hfin.out _ hT3.out
        | false =>
          have ka := Lib.hid (desk1_set_out LB hT2.pull ci cx hu)
          replace hfin := Lib.hid (fun wx hh => hfin.out wx (xs :: pst) (by unfold editU; dsimp only; rw [if_neg (by decide), if_neg (fun z => by rw [hu] at z; exact Bool.noConfusion z.2)]) hh)
          clear hT2
          go_wp2_with fail
          refine ka.out.mono ?_
          rintro e w3 ⟨rfl, hT3⟩
          replace hT3 := Lib.hid hT3.pull.rest
          clear ka
          go_wp2_with fail
          go_roundw
          case measure => simp [RowKit.intOf]; omega
          case rel => exact hfin.out _ hT3.out
      · have n0 : (kind == 0) = false := beq_eq_false_iff_ne.2 k0
        have n1 : (kind == 1) = false := beq_eq_false_iff_ne.2 k1
        replace hfin := Lib.hid (fun wx hh => hfin.out wx (xs :: pst) (by unfold editU; dsimp only; rw [if_neg k0, if_neg (fun z => k1 z.1)]) hh)
        clear k0 k1
        have hT6 := Lib.hid hT2.rest
        clear hT2
        go_wp2_with fail
        go_roundw
        case measure => simp [RowKit.intOf]; omega
        case rel => exact hfin.out _ hT6.out
    · have hil : i = l.length := by omega
      subst hil
      have hltI : decide (l.length < l.length) = false := decide_eq_false (by omega)
      rw [List.take_length] at hT
      replace hT := Lib.hid hT
      clear hlt hi hA
      go_wp2
      go_end0
      exact ⟨rfl, hT.out⟩
end
end Go.Proofs.Ytkahohgbcnchiaa
