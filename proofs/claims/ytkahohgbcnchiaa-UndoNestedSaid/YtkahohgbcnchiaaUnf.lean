/- Stage 14, landed: a log's calls by what a caller holds: Mark, Keep, Clear; Back, which calls what takes the changes back, the last one first. No condition but sizes. -/
import Derived.Test.YtkahohgbcnchiaaUne
import Derived.Lib.MinMax
import Derived.Deep.LoopGhost
import Derived.Deep.DeepCutAuto
namespace Go.Proofs.Ytkahohgbcnchiaa
open Go.RowKit Wm

abbrev logA (g : Nat) (s : List Bk) : Asr := objA LogO g s
theorem isAsr_log (g : Nat) (s : List Bk) : IsAsr (logA g s) := isAsr_obj (slO_kind _ _ _ _) _ _
section
variable {R : Asr} {w W : World} {g : Nat} {s : List Bk}
theorem uMark_h (h : Held w W (star (logA g s) R)) : Calls Try.prog 11 #[.pointer (some ⟨g, 0, none⟩)] W fun e w2 => e = .returned (.int .i64 ((s.length : Nat) : Int)) ∧ W = w2 := by
  obtain ⟨F, v, hv, -⟩ := h.head
  exact uMark_any hv
theorem uKeep_h (L : IsAsr R) (hs : s.length ≤ 100000) (b : Bk) (h : Held w W (star (logA g s) R)) : Calls Try.prog 31 #[.pointer (some ⟨g, 0, none⟩), b.val] W fun e w2 => e = .returned (.tuple #[]) ∧ Held w w2 (star (logA g (s ++ [b])) R) :=
  h.turn (isAsr_log _ _) L (fun _ ⟨_, hv, hF⟩ => (uKeep_any hv hs b).mono (fun _ _ ⟨e, hp⟩ => ⟨e, hp.postO hF⟩))
theorem uClear_h (L : IsAsr R) (h : Held w W (star (logA g s) R)) : Calls Try.prog 18 #[.pointer (some ⟨g, 0, none⟩)] W fun e w2 => e = .returned (.tuple #[]) ∧ Held w w2 (star (logA g []) R) :=
  h.turn (isAsr_log _ _) L (fun _ ⟨_, hv, hF⟩ => (uClear_any hv).mono (fun _ _ ⟨e, hp⟩ => ⟨e, hp.postO hF⟩))
theorem uCutLast_h (L : IsAsr R) (b : Bk) (hs : s.length ≤ 100000) (h : Held w W (star (logA g (s ++ [b])) R)) : Calls Try.prog 29 #[.pointer (some ⟨g, 0, none⟩)] W fun e w2 => e = .returned b.val ∧ Held w w2 (star (logA g s) R) :=
  h.turn (isAsr_log _ _) L (fun _ ⟨_, hv, hF⟩ => (uCutLast_any b hv hs).mono (fun _ _ ⟨e, hp⟩ => ⟨e, hp.postO hF⟩))
/-- What the log has of its changes, in the order in which they came. -/
def bksE (es : List Ent) : List Bk := (es.map Ent.bk).reverse
theorem bksE_cons (e : Ent) (r : List Ent) : bksE (e :: r) = bksE r ++ [e.bk] := by unfold bksE; simp
theorem bksE_length (es : List Ent) : (bksE es).length = es.length := by unfold bksE; simp
/-- A change taken back. -/
theorem uRun_h {A O N : Asr} (L : IsAsr A) (LO : IsAsr O) (LR : IsAsr R) (e : Ent) (ho : e.Ok Try.prog N) (hN : IsAsr N) (h : Held w W (star A (star (star e.own O) (star N R)))) :
    Calls Try.prog 28 #[e.bk.val] W fun x w2 => x = .returned (.tuple #[]) ∧ Held w w2 (star A (star O (star e.was R))) := by
  have h1 := ((h.map (fun _ _ x => star_under (fun _ _ y => star_assoc' y) x)).pull4.pull3).assoc
  have hc := h1.turn (A' := e.was) (f := e.bk.fn) (args := e.bk.cap) (S := fun x => x = .returned (.tuple #[])) (ho.isOwn.star hN) (L.star (LO.star LR)) (fun F hF => ho.undoes F W hF)
  exact uRun_any e.bk ho.enters (hc.mono (fun _ _ ⟨x, y⟩ => ⟨x, y.push3⟩))
set_option maxRecDepth 100000 in
set_option maxHeartbeats 1000000 in
theorem uBack_h (LR : IsAsr R) {es : List Ent} {now : Asr} (hn : IsAsr now) (hch : ChainA Try.prog es now) (hs : es.length ≤ 100000) (mark : Int) (h : Held w W (star (logA g (bksE es)) (star (ownsA es) (star now R)))) :
    Calls Try.prog 17 #[.pointer (some ⟨g, 0, none⟩), .int .i64 mark] W fun e w2 => e = .returned (.tuple #[]) ∧
      Held w w2 (star (logA g (bksE (es.drop (es.length - mark.toNat)))) (star (ownsA (es.drop (es.length - mark.toNat))) (star (wasA es now (es.length - mark.toNat)) R))) := by
  obtain ⟨M, hM, hMn⟩ : ∃ M : Nat, max mark 0 = (M : Int) ∧ mark.toNat = M := ⟨mark.toNat, by rw [Int.max_def]; split <;> omega, rfl⟩
  rw [hMn]
  clear hMn
  go_enter Try.func17, Try.ntmps17
  go_upto_region 1 with (fail)
  generalize max mark 0 = mk at *
  subst hM
  go_wp2_with fail
  go_loopg [] (es.length - M) (fun k wr => k ≤ es.length - M ∧ Held w wr (star (logA g (bksE (es.drop (es.length - M - k)))) (star (ownsA (es.drop (es.length - M - k))) (star (wasA es now (es.length - M - k)) R))))
  case atStart =>
    refine ⟨Nat.le_refl _, ?_⟩
    rw [Nat.sub_self, wasA_zero]
    exact h
  case round =>
    obtain ⟨hk, hT⟩ := hrel
    have hm := uMark_h hT
    rw [bksE_length, List.length_drop] at hm
    by_cases hz : gk = 0
    · subst hz
      rw [Nat.sub_zero] at hT hm
      have ht : decide (M < es.length - (es.length - M)) = false := decide_eq_false (by omega)
      replace hm := Lib.hid hm
      replace hT := Lib.hid hT
      generalize es.length - (es.length - M) = n at *
      clear h hk
      go_wp2_with fail
      refine hm.out.mono ?_
      rintro e w1 ⟨rfl, rfl⟩
      clear hm
      go_wp2
      go_end0
      exact ⟨rfl, hT.out⟩
    · have hj : es.length - M - gk < es.length := by omega
      have hj1 : es.length - M - (gk - 1) = es.length - M - gk + 1 := by omega
      have ht : decide (M < es.length - (es.length - M - gk)) = true := decide_eq_true (by omega)
      have hr := Lib.hid (fun (P : Nat → Prop) (hp : P (es.length - M - gk + 1)) => show P (es.length - M - (gk - 1)) from by rw [hj1]; exact hp)
      clear hj1
      generalize hjj : es.length - M - gk = j at *
      obtain ⟨x, r, he⟩ : ∃ x r, es.drop j = x :: r := by
        cases hd : es.drop j with
        | nil => rw [List.drop_eq_nil_iff] at hd; omega
        | cons x r => exact ⟨x, r, rfl⟩
      have her : es.drop (j + 1) = r := by rw [← List.tail_drop, he]; rfl
      have hw := wasA_step (now := now) he
      have hch2 := hch.drop j
      have hnj := isAsr_was j hn hch
      rw [he] at hch2 hT
      obtain ⟨ho, hcr⟩ := hch2
      rw [bksE_cons] at hT
      have hlr : (bksE r).length ≤ 100000 := by rw [bksE_length, ← her, List.length_drop]; omega
      have LO := isAsr_owns hcr
      have k1 := Lib.hid (uCutLast_h ((ho.isOwn.star LO).star (hnj.star LR)) x.bk hlr hT)
      have k2 := Lib.hid (fun wx h => uRun_h (w := w) (W := wx) (A := logA g (bksE r)) (isAsr_log _ _) LO LR x ho hnj h)
      replace hm := Lib.hid hm
      replace he := Lib.hid he
      replace her := Lib.hid her
      replace hw := Lib.hid hw
      generalize es.length - j = n at *
      clear h hT ho hcr LO hch hn hnj
      go_wp2_with fail
      refine hm.out.mono ?_
      rintro e w1 ⟨rfl, rfl⟩
      clear hm
      go_wp2_with fail
      refine k1.out.mono ?_
      rintro e w2 ⟨rfl, hT2⟩
      replace k2 := Lib.hid (k2.out _ hT2)
      clear k1 hT2
      go_wp2_with fail
      refine k2.out.mono ?_
      rintro e w3 ⟨rfl, hT3⟩
      replace hT3 := Lib.hid hT3
      clear k2
      go_wp2_with fail
      go_roundg (gk - 1)
      case measure => omega
      case rel =>
        refine ⟨by omega, hr.out (fun z => Held w w3 (star (logA g (bksE (es.drop z))) (star (ownsA (es.drop z)) (star (wasA es now z) R)))) ?_⟩
        show Held w w3 (star (logA g (bksE (es.drop (j + 1)))) (star (ownsA (es.drop (j + 1))) (star (wasA es now (j + 1)) R)))
        rw [her.out, hw.out]
        exact hT3.out
end
end Go.Proofs.Ytkahohgbcnchiaa
