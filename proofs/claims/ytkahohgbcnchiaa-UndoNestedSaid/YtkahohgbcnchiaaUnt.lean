/- Stage 14: what is left of nil ones; a script's sizes; what a document's block shows. No condition but sizes. -/
import Derived.Test.YtkahohgbcnchiaaUnw
import Derived.Test.YtkahohgbcnchiaaUnr
namespace Go.Proofs.Ytkahohgbcnchiaa
open Go.RowKit Wm

set_option maxRecDepth 100000 in
theorem uAdd_nil (x : Int) (W : World) : Calls Try.prog 19 #[.pointer none, .int .i64 x] W fun e W' => e = .returned (.int .i64 (-1)) ∧ Below W.heap.size W W' := by
  have hb : Below W.heap.size W (W.alloc (.cells [Value.pointer none].toArray 28)) := (Below.refl _ _).alloc (Nat.le_refl _) _
  go_enter Try.func19, Try.ntmps19
  go_wp2
  go_ret
  exact ⟨rfl, hb⟩
set_option maxRecDepth 100000 in
theorem uBack_nil (W : World) : Calls Try.prog 17 #[.pointer none, .int .i64 0] W fun e W' => e = .returned (.tuple #[]) ∧ W = W' := by
  have hm := Lib.hid (uMark_nil W)
  go_enter Try.func17, Try.ntmps17
  go_wp2_with fail
  go_loopg [] 0 (fun _ wr => W = wr)
  case atStart => rfl
  case round =>
    subst hrel
    go_wp2_with fail
    refine hm.out.mono ?_
    rintro e w1 ⟨rfl, rfl⟩
    clear hm
    go_wp2
    go_end0
    exact ⟨rfl, rfl⟩
/-- What is now, and was, of n calls. -/
structure GoodU (n : Nat) (hist : List StU) : Prop where
  ne : hist ≠ []
  len : hist.length ≤ n + 1
  all : ∀ s ∈ hist, s.1.length ≤ n ∧ s.2.length ≤ n
theorem GoodU.start : GoodU 0 [([], [])] := ⟨by simp, by simp, fun s hs => by rw [List.mem_singleton.1 hs]; simp⟩
theorem GoodU.mono {n m : Nat} {hist : List StU} (h : GoodU n hist) (hm : n ≤ m) : GoodU m hist := ⟨h.ne, by have := h.len; omega, fun s hs => by have := h.all s hs; omega⟩
theorem GoodU.push {n : Nat} {hist : List StU} {s : StU} (h : GoodU n hist) (h1 : s.1.length ≤ n + 1) (h2 : s.2.length ≤ n + 1) : GoodU (n + 1) (s :: hist) :=
  ⟨by simp, by have := h.len; simp; omega, fun x hx => by
    rcases List.mem_cons.1 hx with rfl | hx
    · exact ⟨h1, h2⟩
    · have := h.all x hx; omega⟩
theorem GoodU.next {n : Nat} {hist : List StU} (h : GoodU n hist) (c : Ucall) : GoodU (n + 1) (histU hist c) := by
  cases hist with
  | nil => exact (h.ne rfl).elim
  | cons st past =>
    have hst := h.all st (List.mem_cons_self ..)
    unfold histU
    dsimp only
    split
    · refine h.push ?_ ?_
      · unfold addU; cases c.Second <;> simp <;> omega
      · unfold addU; cases c.Second <;> simp <;> omega
    split
    · split
      · refine h.push ?_ ?_
        · unfold setU; cases c.Second <;> simp <;> omega
        · unfold setU; cases c.Second <;> simp <;> omega
      · exact h.mono (by omega)
    split
    · refine ⟨fun e => ?_, ?_, fun s hs => ?_⟩
      · rw [List.drop_eq_nil_iff, List.length_cons] at e; omega
      · have := h.len; rw [List.length_drop]; omega
      · have := h.all s (List.mem_of_mem_drop hs); omega
    split
    · exact ⟨by simp, by simp, fun s hs => by rw [List.mem_singleton.1 hs]; omega⟩
    · exact h.mono (by omega)
theorem GoodU.cons {n : Nat} {hist : List StU} (h : GoodU n hist) : ∃ st past, hist = st :: past ∧ past.length ≤ n ∧ st.1.length ≤ n ∧ st.2.length ≤ n := by
  cases hist with
  | nil => exact (h.ne rfl).elim
  | cons st past => exact ⟨st, past, rfl, by have := h.len; simpa using this, h.all st (List.mem_cons_self ..)⟩
section
variable {w W : World} {R : Asr} {p : Nat} {st : StU} {past : List StU}
theorem Held.docSeen (h : Held w W (star (docA p (st :: past)) R)) : ∃ ao c, W.cell? ⟨p, 0, none⟩ = some (.slice ao (past.length + 1) c) ∧ p < W.heap.size := by
  obtain ⟨la, lb, ra, rb, hd, h1⟩ := h.openDoc
  obtain ⟨F, vA, vB, hv, -⟩ := h1.head
  obtain ⟨g1, d1, rfl, -, -⟩ := row_last hv.oA
  rw [hd.lenA] at hv
  exact ⟨_, _, hv.c0, hv.lp⟩
end
theorem ucalls_cells {W : World} {ao : Option Addr} {l : List Ucall} (h : UcallsAt W ao l) {k : Nat} (hk : k < l.length) : ∃ b off, ao = some ⟨b, off, none⟩ ∧ b < W.heap.size ∧ W.cell? ⟨b, off + k * 4, none⟩ = some (.int .i64 (l[k]).Kind) ∧ W.cell? ⟨b, off + k * 4 + 1, none⟩ = some (.bool (l[k]).Second) ∧ W.cell? ⟨b, off + k * 4 + 2, none⟩ = some (.int .i64 (l[k]).I) ∧ W.cell? ⟨b, off + k * 4 + 3, none⟩ = some (.int .i64 (l[k]).X) := by
  obtain ⟨b, off, e, hb, hc⟩ := h.spot k hk
  exact ⟨b, off, e, hb, hc 0 _ rfl, hc 1 _ rfl, hc 2 _ rfl, hc 3 _ rfl⟩
end Go.Proofs.Ytkahohgbcnchiaa
