/- The landed disk: its small calls. No condition but sizes. -/
import Derived.Test.YtjaaicklhhpebaaZDa
namespace Go.Proofs.Ytjaaicklhhpebaa
open Go.RowKit

def hasB (n : Nat) (i : Int) : Bool := decide (0 ≤ i) && decide (i < (n : Int))
section
variable {W : World} {p a b n : Nat} {v : Value} {safe now : List ByteArray} {later : List (Nat × ByteArray)} {armed ops : Int}
set_option maxRecDepth 100000 in
theorem has_any (h : DkV W p a b v n safe now later armed ops) (i : Int) : Calls Try.prog 46 #[.pointer (some ⟨p, 0, none⟩), .int .i64 i] W fun e W' => e = .returned (.bool (hasB n i)) ∧ W = W' := by
  have c1 := h.c1
  have hlt := h.lt
  clear h
  by_cases h0 : 0 ≤ i
  · have hb : decide (i < (n : Int)) = hasB n i := by unfold hasB; rw [decide_eq_true h0]; rfl
    go_enter Try.func46, Try.ntmps46
    go_wp2
    go_ret
    exact ⟨by rw [← hb]; rfl, rfl⟩
  · have hb := Lib.hid (show hasB n i = false by unfold hasB; rw [decide_eq_false h0]; rfl)
    go_enter Try.func46, Try.ntmps46
    go_wp2
    go_ret
    exact ⟨by rw [hb.out]; rfl, rfl⟩
set_option maxRecDepth 100000 in
theorem sectors_any (h : DkV W p a b v n safe now later armed ops) : Calls Try.prog 48 #[.pointer (some ⟨p, 0, none⟩)] W fun e W' => e = .returned (.int .i64 (n : Int)) ∧ W = W' := by
  have c1 := h.c1
  have hlt := h.lt
  clear h
  go_enter Try.func48, Try.ntmps48
  go_wp2
  go_ret
  exact ⟨rfl, rfl⟩
set_option maxRecDepth 100000 in
theorem laters_any (h : DkV W p a b v n safe now later armed ops) (hz : ∀ w ∈ later, w.2.size = 128) : Calls Try.prog 18 #[.pointer (some ⟨p, 0, none⟩)] W fun e W' => e = .returned (.int .i64 (later.length : Int)) ∧ W = W' := by
  have c2 := h.c2
  obtain ⟨ao, cap, rfl, -⟩ := h.nth hz
  have hlt := h.lt
  clear h hz
  go_enter Try.func18, Try.ntmps18
  go_wp2
  go_ret
  exact ⟨rfl, rfl⟩
/-- An operation is tried: armed is the nearest number from 0 of what the document's machine bears. -/
def triedW (W : World) (p : Nat) (armed ops : Int) : World :=
  if armed = 0 then W.setCell ⟨p, 4, none⟩ (.int .i64 (ops + 1)) else (W.setCell ⟨p, 4, none⟩ (.int .i64 (ops + 1))).setCell ⟨p, 3, none⟩ (.int .i64 (armed - 1))
set_option maxRecDepth 100000 in
theorem tried_any (h : DkV W p a b v n safe now later armed ops) (ho : 0 ≤ ops ∧ ops ≤ 1000000) (ha : 0 ≤ armed ∧ armed ≤ 9223372036854775807) :
    Calls Try.prog 58 #[.pointer (some ⟨p, 0, none⟩)] W fun e W' => e = .returned (.bool (decide (armed ≠ 1))) ∧ W' = triedW W p armed ops := by
  have c3 := h.c3
  have c4 := h.c4
  have f3 := h.fz 3
  have f4 := h.fz 4
  have hlt := h.lt
  clear h
  by_cases h0 : armed = 0
  · subst h0
    have hw := Lib.hid (show triedW W p 0 ops = W.setCell ⟨p, 4, none⟩ (.int .i64 (ops + 1)) by unfold triedW; rw [if_pos rfl])
    have hb := Lib.hid (show decide ((0 : Int) ≠ 1) = true by decide)
    go_enter Try.func58, Try.ntmps58
    go_wp2
    go_ret
    exact ⟨by rw [hb.out]; rfl, by rw [hw.out]⟩
  · have hw := Lib.hid (show triedW W p armed ops = (W.setCell ⟨p, 4, none⟩ (.int .i64 (ops + 1))).setCell ⟨p, 3, none⟩ (.int .i64 (armed - 1)) by unfold triedW; rw [if_neg h0])
    have h1 : (armed == 0) = false := beq_eq_false_iff_ne.mpr h0
    have hb := Lib.hid (show decide (0 < armed - 1) = decide (armed ≠ 1) by
      by_cases e : armed = 1
      · rw [decide_eq_false (by omega), decide_eq_false (by omega)]
      · rw [decide_eq_true (by omega), decide_eq_true e])
    replace h0 := Lib.hid h0
    go_enter Try.func58, Try.ntmps58
    go_wp2
    go_ret
    exact ⟨by rw [← hb.out]; first | rfl | simp, by rw [hw.out]⟩
/-- What is known behind it. -/
def TriedPost (W : World) (p a b : Nat) (v : Value) (n : Nat) (safe now : List ByteArray) (later : List (Nat × ByteArray)) (armed ops : Int) (W' : World) : Prop :=
  DkV W' p a b v n safe now later (max (armed - 1) 0) (ops + 1) ∧ Only (fun k => k = p) W W'
theorem tried_post (h : DkV W p a b v n safe now later armed ops) (ho : 0 ≤ ops ∧ ops ≤ 1000000) (ha : 0 ≤ armed ∧ armed ≤ 9223372036854775807) :
    Calls Try.prog 58 #[.pointer (some ⟨p, 0, none⟩)] W fun e W' => e = .returned (.bool (decide (armed ≠ 1))) ∧ TriedPost W p a b v n safe now later armed ops W' := by
  refine (tried_any h ho ha).mono ?_
  rintro e W' ⟨rfl, rfl⟩
  refine ⟨rfl, ?_, ?_⟩
  · unfold triedW
    split
    · rename_i e
      subst e
      exact h.put4 _
    · rw [show max (armed - 1) 0 = armed - 1 by omega]
      exact (h.put4 _).put3 _
  · unfold triedW
    have h1 := (Only.refl (fun k => k = p) W).setCell (p := ⟨p, 4, none⟩) (fun _ => rfl) (.int .i64 (ops + 1))
    split
    · exact h1
    · exact h1.setCell (p := ⟨p, 3, none⟩) (fun _ => rfl) _
end
end Go.Proofs.Ytjaaicklhhpebaa
