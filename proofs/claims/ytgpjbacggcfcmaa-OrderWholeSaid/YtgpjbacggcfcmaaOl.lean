/- Stage 12: the document's Range. No condition but the list's size. -/
import Derived.Test.YtgpjbacggcfcmaaOk
import Derived.Test.YtgpjbacggcfcmaaOc
import Derived.Test.YtgpjbacggcfcmaaFork
import Derived.Deep.DeepCutAuto
namespace Go.Proofs.Ytgpjbacggcfcmaa
open Go.RowKit Wm

def rowBo (l : List Bool) : List Value := l.map Value.bool
theorem info_bo : ∃ ie, Try.prog.info? 4 = some ie ∧ ie.zero = some (.bool false) ∧ ie.size = 1 ∧ ie.bytes = 1 := by
  have h : (Try.prog.info? 4).map (fun i => (i.zero, i.size, i.bytes)) = some (some (.bool false), 1, 1) := by kernel_rfl
  cases hq : Try.prog.info? 4 with
  | none => simp [hq] at h
  | some ie =>
    rw [hq] at h
    simp only [Option.map_some, Option.some.injEq, Prod.mk.injEq] at h
    exact ⟨ie, rfl, h.1, h.2.1, h.2.2⟩
/-- What the selection holds: what is done, and two rows that grow. -/
structure Sel (W wr : World) (D n : Nat) (dl : List Bool) (ks zs : List Int) (vs va : Value) : Prop where
  below : Below W.heap.size W wr
  od : wr.ownsRow 0 4 1 (.slice (some ⟨D, 0, none⟩) n n) n (rowBo dl)
  dD : W.heap.size ≤ D
  o0 : wr.ownsRow 0 3 1 vs ks.length (rowZ ks)
  o1 : wr.ownsRow 0 3 1 va zs.length (rowZ zs)
  h0 : ∀ k, vs.ownBlock = some k → W.heap.size ≤ k ∧ k ≠ D
  h1 : ∀ k, va.ownBlock = some k → W.heap.size ≤ k ∧ k ≠ D
  e0 : ∀ k, vs.ownBlock = some k → va.ownBlock ≠ some k
section
variable {W wr w2 : World} {D n : Nat} {dl : List Bool} {ks zs : List Int} {vs va : Value}
theorem Sel.make (W : World) (n : Nat) (hn : n ≤ 10000) :
    ∃ w', (Instr.makeSlice 47 (.int .i64 ((n : Nat) : Int)) (.int .i64 ((n : Nat) : Int))).run Try.prog W = .ok (.slice (some ⟨W.heap.size, 0, none⟩) n n) w' ∧ Sel W w' W.heap.size n (List.replicate n false) [] [] (.slice none 0 0) (.slice none 0 0) := by
  obtain ⟨i0, hi0, hz0, hz1, hz2⟩ := info_bo
  obtain ⟨w', hrun, ho, hg⟩ := run_make_full (P := Try.prog) W 0 47 4 i0 (.bool false) 1 Try.underlying47 hi0 hz0 hz1 .i64 .i64 n (by rw [hz2]; omega) (by unfold maxLen; omega) (Nat.zero_le _)
  have hO : Only (fun _ => False) W w' := Only.of_grown hg (fun _ _ e => by simp at e)
  refine ⟨w', hrun, hO.to_below (Nat.le_refl _) (fun _ e => e.elim), ?_, Nat.le_refl _, ⟨rfl, .inl ⟨rfl, rfl⟩⟩, ⟨rfl, .inl ⟨rfl, rfl⟩⟩, (fun k e => by cases e), (fun k e => by cases e), (fun k e => by cases e)⟩
  have e : rowBo (List.replicate n false) = (madeCells (Value.bool false).cells (n * 1)).toList := by
    rw [show (Value.bool false).cells = #[.bool false] from rfl, toList_madeCells_one, Nat.mul_one]
    unfold rowBo; rw [List.map_replicate]
  rw [e]; exact ho
theorem Sel.done (h : Sel W wr D n dl ks zs vs va) {i : Nat} {x : Bool} (hi : dl[i]? = some x) : wr.cell? ⟨D, i, none⟩ = some (.bool x) := by
  rcases own_slice h.od with ⟨e, -⟩ | ⟨g, c, e, -, -, hc, -⟩
  · cases e
  · injection e with e1 _ _
    injection e1 with e1
    injection e1 with e1 _ _
    subst e1
    refine hc i _ ?_
    unfold rowBo
    rw [List.getElem?_map, hi]; rfl
theorem Sel.unfrozen (h : Sel W wr D n dl ks zs vs va) (i : Nat) : wr.frozen? ⟨D, i, none⟩ = false := by
  rcases own_slice h.od with ⟨e, -⟩ | ⟨g, c, e, -, -, -, hf⟩
  · cases e
  · injection e with e1 _ _
    injection e1 with e1
    injection e1 with e1 _ _
    subst e1
    exact hf i
theorem Sel.later (h : Sel W wr D n dl ks zs vs va) (hb : Below wr.heap.size wr w2) : Sel W w2 D n dl ks zs vs va :=
  ⟨h.below.trans (hb.mono h.below.size), (Only.of_below (F := fun _ => False) hb).row h.od (fun _ _ e => e), h.dD, (Only.of_below (F := fun _ => False) hb).row h.o0 (fun _ _ e => e), (Only.of_below (F := fun _ => False) hb).row h.o1 (fun _ _ e => e), h.h0, h.h1, h.e0⟩
theorem Sel.mark (h : Sel W wr D n dl ks zs vs va) (i : Nat) (x : Bool) : Sel W (wr.setCell ⟨D, i, none⟩ (.bool x)) D n (dl.set i x) ks zs vs va := by
  refine ⟨h.below.setCell (p := ⟨D, i, none⟩) h.dD _, ?_, h.dD, ownsRow_setCell_other (a := ⟨D, i, none⟩) h.o0 (fun e => (h.h0 D e).2 rfl) _, ownsRow_setCell_other (a := ⟨D, i, none⟩) h.o1 (fun e => (h.h1 D e).2 rfl) _, h.h0, h.h1, h.e0⟩
  have e : rowBo (dl.set i x) = (rowBo dl).set i (.bool x) := by unfold rowBo; rw [List.map_set]
  rw [e]
  exact (h.od.stored i _).1
theorem Sel.app0 (h : Sel W wr D n dl ks zs vs va) (x : Int) (hn : ks.length ≤ 1000) :
    ∃ g c w', (Builtin.append_ #[29, 29] 29 #[vs, .slice (some ⟨wr.heap.size, 0, none⟩) 1 1]).run Try.prog (wr.alloc (.cells #[.int .i64 x] 3)) = .ok (.slice (some ⟨g, 0, none⟩) (ks.length + 1) c) w' ∧
      Sel W w' D n dl (ks ++ [x]) zs (.slice (some ⟨g, 0, none⟩) (ks.length + 1) c) va := by
  obtain ⟨g, c, w', e1, e2, e3, e4⟩ := app_one wr vs ks x h.o0 hn
  have hD := (h.od.lt D rfl).2
  have hg : W.heap.size ≤ g ∧ g ≠ D ∧ va.ownBlock ≠ some g := by
    rcases e4 with e | e
    · exact ⟨(h.h0 g e).1, (h.h0 g e).2, h.e0 g e⟩
    · exact ⟨Nat.le_trans h.below.size e, by omega, fun e2 => by have := (h.o1.lt g e2).2; omega⟩
  refine ⟨g, c, w', e1, h.below.trans (e3.to_below h.below.size (fun k e => (h.h0 k e).1)), e3.row h.od (fun k hk e => ?_), h.dD, e2, e3.row h.o1 (fun k hk e => h.e0 k e hk), fun k hk => ?_, h.h1, fun k hk => ?_⟩
  · have : D = k := by injection hk
    exact (h.h0 k e).2 this.symm
  · have : g = k := by injection hk
    subst this; exact ⟨hg.1, hg.2.1⟩
  · have : g = k := by injection hk
    subst this; exact hg.2.2
theorem Sel.app1 (h : Sel W wr D n dl ks zs vs va) (x : Int) (hn : zs.length ≤ 1000) :
    ∃ g c w', (Builtin.append_ #[29, 29] 29 #[va, .slice (some ⟨wr.heap.size, 0, none⟩) 1 1]).run Try.prog (wr.alloc (.cells #[.int .i64 x] 3)) = .ok (.slice (some ⟨g, 0, none⟩) (zs.length + 1) c) w' ∧
      Sel W w' D n dl ks (zs ++ [x]) vs (.slice (some ⟨g, 0, none⟩) (zs.length + 1) c) := by
  obtain ⟨g, c, w', e1, e2, e3, e4⟩ := app_one wr va zs x h.o1 hn
  have hD := (h.od.lt D rfl).2
  have hg : W.heap.size ≤ g ∧ g ≠ D ∧ vs.ownBlock ≠ some g := by
    rcases e4 with e | e
    · exact ⟨(h.h1 g e).1, (h.h1 g e).2, fun e2 => h.e0 g e2 e⟩
    · exact ⟨Nat.le_trans h.below.size e, by omega, fun e2 => by have := (h.o0.lt g e2).2; omega⟩
  refine ⟨g, c, w', e1, h.below.trans (e3.to_below h.below.size (fun k e => (h.h1 k e).1)), e3.row h.od (fun k hk e => ?_), h.dD, e3.row h.o0 (fun k hk e => h.e0 k hk e), e2, h.h0, fun k hk => ?_, fun k hk e => ?_⟩
  · have : D = k := by injection hk
    exact (h.h1 k e).2 this.symm
  · have : g = k := by injection hk
    subst this; exact ⟨hg.1, hg.2.1⟩
  · have : g = k := by injection e
    subst this; exact hg.2.2 hk
end
/-- Numbers in memory. -/
structure IntsAt (W : World) (ao : Option Addr) (l : List Int) : Prop where
  spot : ∀ i (h : i < l.length), ∃ g, ao = some ⟨g, 0, none⟩ ∧ g < W.heap.size ∧ W.cell? ⟨g, i, none⟩ = some (.int .i64 l[i])
theorem IntsAt.later {W W' : World} {ao : Option Addr} {l : List Int} (h : IntsAt W ao l) (hb : Below W.heap.size W W') : IntsAt W' ao l := ⟨fun i hi => by
  obtain ⟨g, e, hg, h1⟩ := h.spot i hi
  exact ⟨g, e, Nat.lt_of_lt_of_le hg hb.size, (hb.cell (p := ⟨g, i, none⟩) hg).trans h1⟩⟩
theorem IntsAt.of_row {W : World} {v : Value} {l : List Int} (h : W.ownsRow 0 3 1 v l.length (rowZ l)) : ∃ ao c, v = .slice ao l.length c ∧ IntsAt W ao l := by
  rcases own_slice h with ⟨rfl, h0⟩ | ⟨g, c, rfl, hg, -, hc, -⟩
  · exact ⟨none, 0, by rw [h0], ⟨fun i hi => by omega⟩⟩
  · refine ⟨_, c, rfl, ⟨fun i hi => ⟨g, rfl, hg, hc i _ ?_⟩⟩⟩
    unfold rowZ
    rw [List.getElem?_map, List.getElem?_eq_getElem hi]; rfl
/-- Behind the document's Range. -/
def RefOut (T : Zbl) (W : World) (e : Ending) (W' : World) : Prop :=
  ∃ ao c bo d, e = .returned (.tuple #[.slice ao T.length c, .slice bo T.length d]) ∧ IntsAt W' ao (T.map Prod.fst) ∧ IntsAt W' bo (T.map Prod.snd) ∧ Below W.heap.size W W'
end Go.Proofs.Ytgpjbacggcfcmaa
