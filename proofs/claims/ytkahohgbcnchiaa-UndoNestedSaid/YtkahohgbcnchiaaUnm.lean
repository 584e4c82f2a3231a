/- Stage 14: the document's change, Back and Clear. No condition but sizes. -/
import Derived.Test.YtkahohgbcnchiaaUnl
import Derived.Lib.MinMax
namespace Go.Proofs.Ytkahohgbcnchiaa
open Go.RowKit Wm

/-- A row that may come into a document's past: it reads, and lies apart of what turns. -/
structure Apart (W : World) (p : Nat) (vA vB : Value) (r : Rw) : Prop where
  reads : r.reads W
  p : ∀ k, r.val.ownBlock = some k → k ≠ p
  a : ∀ k, r.val.ownBlock = some k → vA.ownBlock ≠ some k
  b : ∀ k, r.val.ownBlock = some k → vB.ownBlock ≠ some k
section
variable {W W' : World} {p : Nat} {vA vB v' : Value} {la lb la' lb' : List Rw} {r : Rw}
theorem PastV.apart (h : PastV W p vA vB la lb) (hr : r ∈ la ∨ r ∈ lb) : Apart W p vA vB r :=
  ⟨hr.elim (h.rA r) (h.rB r), fun k e x => h.np r hr (by rw [e, x]), fun k e => h.nA r hr k e, fun k e => h.nB r hr k e⟩
theorem Apart.lt (h : Apart W p vA vB r) {k : Nat} (e : r.val.ownBlock = some k) : k < W.heap.size := (Go.World.ownsRow.lt h.reads k e).2
theorem PastV.row0 (h : PastV W p vA vB la lb) (hr : ∀ r ∈ la', Apart W p vA vB r) (hO : Only (fun k => vA.ownBlock = some k) W W') (ho : W'.ownsRow 0 39 1 v' la'.length (rowK csR la')) (hd : ∀ k, v'.ownBlock = some k → vA.ownBlock = some k ∨ W.heap.size ≤ k) :
    PastV (W'.setCell ⟨p, 0, none⟩ v') p v' vB la' lb := by
  have hc : ∀ j, W'.cell? ⟨p, j, none⟩ = W.cell? ⟨p, j, none⟩ := fun j => hO.cell (p := ⟨p, j, none⟩) h.lp h.dA
  have h0 : W'.cell? ⟨p, 0, none⟩ = some vA := by rw [hc]; exact h.c0
  have hne : ∀ k, k < W.heap.size → vA.ownBlock ≠ some k → v'.ownBlock ≠ some k := fun k hk hv e => by
    rcases hd k e with e2 | e2
    · exact hv e2
    · omega
  have dm := hne p h.lp h.dA
  have hs : Only (fun k => k = p) W' (W'.setCell ⟨p, 0, none⟩ v') := (Only.refl (fun k => k = p) W').setCell (p := ⟨p, 0, none⟩) (fun _ => rfl) _
  have hrd : ∀ r, Apart W p vA vB r → r.reads (W'.setCell ⟨p, 0, none⟩ v') := fun r hr => hs.row (hO.row hr.reads (fun g e => hr.a g e)) (fun g e => hr.p g e)
  have hB : ∀ r ∈ lb, Apart W p vA vB r := fun r x => h.apart (.inr x)
  refine ⟨by rw [cell_putR h0, if_pos rfl], by rw [cell_putR h0, if_neg (by omega), hc]; exact h.c1, fun j => by have := hO.frozen (p := ⟨p, j, none⟩) h.lp h.dA; simpa [this] using h.fz j, by have := hO.size; have := h.lp; simp; omega,
    hs.row ho (fun g e x => dm (by rw [← x]; exact e)), hs.row (hO.row h.oB (fun g hg e => h.dd g e hg)) (fun g e x => h.dB (by rw [← x]; exact e)), fun r x => hrd r (hr r x), fun r x => hrd r (hB r x), dm, h.dB,
    fun k hk e => hne k (h.oB.lt k e).2 (fun e2 => h.dd k e2 e) hk, fun r x e => ?_, fun r x k e => ?_, fun r x k e => ?_⟩
  · exact (x.elim (hr r) (hB r)).p p e rfl
  · exact hne k ((x.elim (hr r) (hB r)).lt e) ((x.elim (hr r) (hB r)).a k e)
  · exact (x.elim (hr r) (hB r)).b k e
theorem PastV.row1 (h : PastV W p vA vB la lb) (hr : ∀ r ∈ lb', Apart W p vA vB r) (hO : Only (fun k => vB.ownBlock = some k) W W') (ho : W'.ownsRow 0 39 1 v' lb'.length (rowK csR lb')) (hd : ∀ k, v'.ownBlock = some k → vB.ownBlock = some k ∨ W.heap.size ≤ k) :
    PastV (W'.setCell ⟨p, 1, none⟩ v') p vA v' la lb' := by
  have hc : ∀ j, W'.cell? ⟨p, j, none⟩ = W.cell? ⟨p, j, none⟩ := fun j => hO.cell (p := ⟨p, j, none⟩) h.lp h.dB
  have h1 : W'.cell? ⟨p, 1, none⟩ = some vB := by rw [hc]; exact h.c1
  have hne : ∀ k, k < W.heap.size → vB.ownBlock ≠ some k → v'.ownBlock ≠ some k := fun k hk hv e => by
    rcases hd k e with e2 | e2
    · exact hv e2
    · omega
  have dm := hne p h.lp h.dB
  have hs : Only (fun k => k = p) W' (W'.setCell ⟨p, 1, none⟩ v') := (Only.refl (fun k => k = p) W').setCell (p := ⟨p, 1, none⟩) (fun _ => rfl) _
  have hrd : ∀ r, Apart W p vA vB r → r.reads (W'.setCell ⟨p, 1, none⟩ v') := fun r hr => hs.row (hO.row hr.reads (fun g e => hr.b g e)) (fun g e => hr.p g e)
  have hA : ∀ r ∈ la, Apart W p vA vB r := fun r x => h.apart (.inl x)
  refine ⟨by rw [cell_putR h1, if_neg (by omega), hc]; exact h.c0, by rw [cell_putR h1, if_pos rfl], fun j => by have := hO.frozen (p := ⟨p, j, none⟩) h.lp h.dB; simpa [this] using h.fz j, by have := hO.size; have := h.lp; simp; omega,
    hs.row (hO.row h.oA (fun g hg e => h.dd g hg e)) (fun g e x => h.dA (by rw [← x]; exact e)), hs.row ho (fun g e x => dm (by rw [← x]; exact e)), fun r x => hrd r (hA r x), fun r x => hrd r (hr r x), h.dA, dm,
    fun k hk e => hne k (h.oA.lt k hk).2 (fun e2 => h.dd k hk e2) e, fun r x e => ?_, fun r x k e => ?_, fun r x k e => ?_⟩
  · exact (x.elim (hA r) (hr r)).p p e rfl
  · exact (x.elim (hA r) (hr r)).a k e
  · exact hne k ((x.elim (hA r) (hr r)).lt e) ((x.elim (hA r) (hr r)).b k e)
/-- Behind a call that turned it. -/
def PostP (W : World) (p : Nat) (vA vB : Value) (la lb : List Rw) (W' : World) : Prop := ∃ vA' vB', PastV W' p vA' vB' la lb ∧ Only (fun k => k = p ∨ vA.ownBlock = some k ∨ vB.ownBlock = some k) W W' ∧ (∀ k, k < W.heap.size → vA'.ownBlock = some k → vA.ownBlock = some k) ∧ ∀ k, k < W.heap.size → vB'.ownBlock = some k → vB.ownBlock = some k
set_option maxRecDepth 100000 in
set_option maxHeartbeats 2000000 in
theorem refchange_any {ra rb : Rw} (h : PastV W p vA vB la lb) (hA : la.length ≤ 100000) (hB : lb.length ≤ 100000) (hra : Apart W p vA vB ra) (hrb : Apart W p vA vB rb) :
    Calls Try.prog 35 #[.pointer (some ⟨p, 0, none⟩), ra.val, rb.val] W fun e W' => e = .returned (.tuple #[]) ∧ PostP W p vA vB (la ++ [ra]) (lb ++ [rb]) W' := by
  obtain ⟨g2, cap2, w2, hrA, ho2, hO2, hd2⟩ := app_oneK (P := Try.prog) (ty := 36) csRK (by kernel_rfl) infoR W vA la ra h.oA (by omega) (by decide) 39
  have el1 : (la ++ [ra]).length = la.length + 1 := by simp
  have el2 : (lb ++ [rb]).length = lb.length + 1 := by simp
  have hdd2 : ∀ k, (Value.slice (some ⟨g2, 0, none⟩) (la ++ [ra]).length cap2).ownBlock = some k → vA.ownBlock = some k ∨ W.heap.size ≤ k := fun k hk => by
    have : g2 = k := by injection hk
    subst this
    exact hd2
  have hV2 := h.row0 (la' := la ++ [ra]) (fun r hr => by
    rcases List.mem_append.1 hr with hr | hr
    · exact h.apart (.inl hr)
    · rw [List.mem_singleton.1 hr]; exact hra) hO2 ho2 hdd2
  obtain ⟨W3, hW3⟩ : ∃ W3, W3 = w2.setCell ⟨p, 0, none⟩ (.slice (some ⟨g2, 0, none⟩) (la ++ [ra]).length cap2) := ⟨_, rfl⟩
  rw [← hW3] at hV2
  have hO3 : Only (fun k => k = p ∨ vA.ownBlock = some k ∨ vB.ownBlock = some k) W W3 := by
    rw [hW3]
    exact Only.setCell (F := fun k => k = p ∨ vA.ownBlock = some k ∨ vB.ownBlock = some k) (p := ⟨p, 0, none⟩) (hO2.mono (fun _ _ e => .inr (.inl e))) (fun _ => .inl rfl) _
  obtain ⟨g3, cap3, w4, hrB, ho4, hO4, hd4⟩ := app_oneK (P := Try.prog) (ty := 36) csRK (by kernel_rfl) infoR W3 vB lb rb hV2.oB (by omega) (by decide) 39
  have hdd4 : ∀ k, (Value.slice (some ⟨g3, 0, none⟩) (lb ++ [rb]).length cap3).ownBlock = some k → vB.ownBlock = some k ∨ W3.heap.size ≤ k := fun k hk => by
    have : g3 = k := by injection hk
    subst this
    exact hd4
  have hne : ∀ k, k < W.heap.size → vA.ownBlock ≠ some k → (Value.slice (some ⟨g2, 0, none⟩) (la ++ [ra]).length cap2).ownBlock ≠ some k := fun k hk hv e => by
    rcases hdd2 k e with e2 | e2
    · exact hv e2
    · omega
  have hrb3 : Apart W3 p (.slice (some ⟨g2, 0, none⟩) (la ++ [ra]).length cap2) vB rb :=
    ⟨hO3.row hrb.reads (fun g e x => x.elim (fun y => hrb.p g e y) (fun x => x.elim (fun y => hrb.a g e y) (fun y => hrb.b g e y))), hrb.p, fun k e => hne k (hrb.lt e) (hrb.a k e), hrb.b⟩
  have hV4 := hV2.row1 (lb' := lb ++ [rb]) (fun r hr => by
    rcases List.mem_append.1 hr with hr | hr
    · exact hV2.apart (.inr hr)
    · rw [List.mem_singleton.1 hr]; exact hrb3) hO4 ho4 hdd4
  have c0 := h.c0
  have lp := h.lp
  have c1 : w2.cell? ⟨p, 0, none⟩ = some vA := (hO2.cell (p := ⟨p, 0, none⟩) lp h.dA).trans c0
  have f1 : w2.frozen? ⟨p, 0, none⟩ = false := (hO2.frozen (p := ⟨p, 0, none⟩) lp h.dA).trans (h.fz 0)
  have l1 : p < w2.heap.size := Nat.lt_of_lt_of_le lp hO2.size
  have c2 := hV2.c1
  have l2 := hV2.lp
  have c3 : w4.cell? ⟨p, 1, none⟩ = some vB := (hO4.cell (p := ⟨p, 1, none⟩) l2 hV2.dB).trans c2
  have f3 : w4.frozen? ⟨p, 1, none⟩ = false := (hO4.frozen (p := ⟨p, 1, none⟩) l2 hV2.dB).trans (hV2.fz 1)
  have l3 : p < w4.heap.size := Nat.lt_of_lt_of_le l2 hO4.size
  have hP := Lib.hid (show PostP W p vA vB (la ++ [ra]) (lb ++ [rb]) (w4.setCell ⟨p, 1, none⟩ (.slice (some ⟨g3, 0, none⟩) (lb ++ [rb]).length cap3)) from
    ⟨_, _, hV4, Only.setCell (F := fun k => k = p ∨ vA.ownBlock = some k ∨ vB.ownBlock = some k) (p := ⟨p, 1, none⟩) (hO3.trans hO4 (fun _ _ e => .inr (.inr e))) (fun _ => .inl rfl) _,
      fun k hk e => (hdd2 k e).elim id (fun x => by omega), fun k hk e => (hdd4 k e).elim id (fun x => by have := hO3.size; omega)⟩)
  clear hV4 hrb3 hne hdd4 hO4 ho4 hd4 hV2 hO3 hdd2 hO2 ho2 hd2 hra hrb h
  rw [el1] at *
  rw [el2] at *
  replace hrA := Lib.hid hrA
  replace hrB := Lib.hid hrB
  unfold csR Rw.val at *
  generalize la.length = n at *
  generalize lb.length = m at *
  clear el1 el2
  go_enter Try.func35, Try.ntmps35
  go_upto_region 1 with (at_builtin; refine Lib.wpList_append_run _ rfl _ _ _ _ rfl _ _ rfl rfl _ _ hrA.out ?_)
  rw [← hW3]
  clear hW3 c1 f1 l1 hrA
  go_wp2_with (at_builtin; refine Lib.wpList_append_run _ rfl _ _ _ _ rfl _ _ rfl rfl _ _ hrB.out ?_)
  go_end0
  exact ⟨rfl, hP.out⟩
end
end Go.Proofs.Ytkahohgbcnchiaa
