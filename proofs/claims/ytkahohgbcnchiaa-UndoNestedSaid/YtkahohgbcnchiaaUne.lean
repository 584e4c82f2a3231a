/- Stage 14, landed: a log's Clear and cutLast; what takes a change back is called, behind a door that catches. No condition but sizes. -/
import Derived.Test.YtkahohgbcnchiaaUnd
import Derived.Test.YtkahohgbcnchiaaMath
namespace Go.Proofs.Ytkahohgbcnchiaa
open Go.RowKit Wm

/-- A row cut and stored. -/
theorem SlV.cut {α : Type} {cs : α → List Value} {t : TypeId} {pre : List Value} (hK : CellsK cs 1) {W : World} {p g c i : Nat} {s : List α} (h : SlV cs t 1 pre W p (.slice (some ⟨g, 0, none⟩) s.length c) s) (hi : i ≤ s.length) (vs : List Value) :
    PostS cs t 1 pre W p (.slice (some ⟨g, 0, none⟩) s.length c) (s.take i) ((W.setCells g i vs).setCell ⟨p, pre.length, none⟩ (.slice (some ⟨g, 0, none⟩) i c)) := by
  have hO : Only (fun k => (Value.slice (some ⟨g, 0, none⟩) s.length c).ownBlock = some k) W (W.setCells g i vs) := only_setCells (F := fun k => (Value.slice (some ⟨g, 0, none⟩) s.length c).ownBlock = some k) g (fun _ => rfl) _ _ (Only.refl _ _)
  have ho := own_cut_many hK h.own hi vs
  rw [Nat.mul_one] at ho
  have hl : (s.take i).length = i := by rw [List.length_take]; omega
  have := h.stored (s' := s.take i) hO ho (fun k e => .inl e)
  rwa [hl] at this
section
variable {W W' : World} {p : Nat} {v : Value} {s : List Bk}
set_option maxRecDepth 100000 in
set_option maxHeartbeats 1000000 in
theorem uClear_any (h : LogV W p v s) : Calls Try.prog 18 #[.pointer (some ⟨p, 0, none⟩)] W fun e W' => e = .returned (.tuple #[]) ∧ PostL W p v [] W' := by
  have c0 := LogV.cell h
  have lp := h.lp
  have fp := LogV.fz h
  rcases h.slice with ⟨rfl, rfl⟩ | ⟨g, c, rfl, hg, -, hgp⟩
  · have hfin := Lib.hid (h.stored (s' := []) (W' := W) (Only.refl _ _) h.own (fun k e => .inl e))
    have hc := Lib.hid (uCutF_nil W)
    clear h
    go_enter Try.func18, Try.ntmps18
    go_wp2_with fail
    refine hc.out.mono ?_
    rintro e w1 ⟨rfl, rfl⟩
    clear hc
    go_wp2
    go_end0
    exact ⟨rfl, hfin.out⟩
  · have hfin := Lib.hid (h.cut bkK (i := 0) (Nat.zero_le _) (List.replicate (s.length - 0) Value.nilFunc))
    rw [List.take_zero] at hfin
    have hc := Lib.hid (uCutF_any h.own (Nat.zero_le _))
    have hO : Only (fun k => k = g) W (W.setCells g 0 (List.replicate (s.length - 0) Value.nilFunc)) := only_setCells (F := fun k => k = g) g (fun _ => rfl) _ _ (Only.refl _ _)
    have c1 := (hO.cell (p := ⟨p, 0, none⟩) h.lp (fun e => hgp e.symm)).trans (LogV.cell h)
    have f1 := (hO.frozen (p := ⟨p, 0, none⟩) h.lp (fun e => hgp e.symm)).trans (LogV.fz h)
    have l1 := Nat.lt_of_lt_of_le h.lp hO.size
    clear h hO
    generalize W.setCells g 0 (List.replicate (s.length - 0) Value.nilFunc) = W2 at *
    generalize s.length = n at *
    go_enter Try.func18, Try.ntmps18
    go_wp2_with fail
    refine hc.out.mono ?_
    rintro e w1 ⟨rfl, rfl⟩
    clear hc
    go_wp2
    go_end0
    exact ⟨rfl, hfin.out⟩
set_option maxRecDepth 100000 in
set_option maxHeartbeats 1000000 in
theorem uCutLast_any (b : Bk) (h : LogV W p v (s ++ [b])) (hs : s.length ≤ 100000) : Calls Try.prog 29 #[.pointer (some ⟨p, 0, none⟩)] W fun e W' => e = .returned b.val ∧ PostL W p v s W' := by
  have hl : (s ++ [b]).length = s.length + 1 := by simp
  have c0 := LogV.cell h
  have lp := h.lp
  have fp := LogV.fz h
  have hm := Lib.hid (uMark_any h)
  rcases h.slice with ⟨-, e⟩ | ⟨g, c, rfl, hg, -, hgp⟩
  · simp at e
  have hfin := Lib.hid (h.cut bkK (i := s.length) (by omega) (List.replicate ((s ++ [b]).length - s.length) Value.nilFunc))
  rw [List.take_left] at hfin
  have hc := Lib.hid (uCutF_any h.own (i := s.length) (by omega))
  have hO : Only (fun k => k = g) W (W.setCells g s.length (List.replicate ((s ++ [b]).length - s.length) Value.nilFunc)) := only_setCells (F := fun k => k = g) g (fun _ => rfl) _ _ (Only.refl _ _)
  have c1 := (hO.cell (p := ⟨p, 0, none⟩) h.lp (fun e => hgp e.symm)).trans (LogV.cell h)
  have f1 := (hO.frozen (p := ⟨p, 0, none⟩) h.lp (fun e => hgp e.symm)).trans (LogV.fz h)
  have l1 := Nat.lt_of_lt_of_le h.lp hO.size
  have hcell : W.cell? ⟨g, s.length, none⟩ = some b.val := by
    rcases own_spot h.own with ⟨e, -⟩ | ⟨g', c', e, -, -, -, hcc, -⟩
    · cases e
    · have e2 : g = g' := by injection e with e1 _ _; injection e1 with e1; injection e1
      subst e2
      refine hcc _ _ ?_
      have := rowK_at bkK (s ++ [b]) s.length 0 (by omega) (by decide)
      rw [Nat.mul_one, Nat.add_zero] at this
      rw [this]
      simp [Bk.cells]
  have hidx := run_idx_K (P := Try.prog) (K := 1) (ty := 25) (e := 1) (by kernel_rfl) (by kernel_rfl) (by kernel_rfl) g 0 (s ++ [b]).length c s.length (by omega)
  rw [Nat.zero_add, Nat.mul_one] at hidx
  replace hidx := Lib.hid hidx
  clear h hO
  generalize W.setCells g s.length (List.replicate ((s ++ [b]).length - s.length) Value.nilFunc) = W2 at *
  rw [hl] at *
  generalize s.length = n at *
  have ew : wrap64 (n : Int) = (n : Int) := wrap64_small _ (by omega)
  clear hl
  have hbv : b.val = .func (.func b.fn) #[] b.cap := rfl
  generalize b.val = bv at *
  go_enter Try.func29, Try.ntmps29
  go_wp2_with fail
  refine hm.out.mono ?_
  rintro e w1 ⟨rfl, rfl⟩
  clear hm
  go_wp2_with (refine wpList_index_run rfl _ _ _ rfl (.slice (some ⟨g, 0, none⟩) (n + 1) c) (.int .i64 (n : Int)) _ rfl rfl (hidx.out _) ?_)
  refine hc.out.mono ?_
  rintro e w1 ⟨rfl, rfl⟩
  clear hc hcell
  go_wp2
  go_ret
  exact ⟨by rw [hbv]; rfl, hfin.out⟩
theorem uCatch_idle (w : World) : CallsD Try.prog 37 #[] .returning w fun e u' w' => e = .returned (.tuple #[]) ∧ u' = .returning ∧ w' = w := by
  refine callsD_of_wpS Try.func37 rfl fun c₀ cs hu => ?_
  apply wpS_region
  simp [wpOpsS, go_sem, recoverD, hu, Try.ntmps37, bodyPostS, results, Try.results37]
  cases c₀
  simp_all
/-- What takes a change back, called. -/
theorem uRun_any (b : Bk) (he : ∀ args w, (callFunc b.fn args).run Try.prog w = .ok (.enter b.fn args) w) {S : World → Prop} (hc : Calls Try.prog b.fn b.cap W fun e W' => e = .returned (.tuple #[]) ∧ S W') : Calls Try.prog 28 #[b.val] W fun e W' => e = .returned (.tuple #[]) ∧ S W' := by
  have hbv : b.val = .func (.func b.fn) #[] b.cap := rfl
  rw [hbv]
  go_enter_defers Try.func28, Try.ntmps28
  have hce := Lib.hid hc
  clear hc hbv
  generalize b.fn = bf at *
  generalize b.cap = bc at *
  go_wp2_with fail
  refine hce.out.mono ?_
  rintro e w1 ⟨rfl, hS⟩
  go_wp2
  refine leaves_cons (f := 37) (args := #[]) (by simp) (by simp [go_sem]) ?_
  refine (uCatch_idle _).mono ?_
  rintro e u' w'' ⟨rfl, rfl, rfl⟩

  simp [Leaves, settle, results, Try.results28, go_sem]
  exact hS
end
end Go.Proofs.Ytkahohgbcnchiaa
