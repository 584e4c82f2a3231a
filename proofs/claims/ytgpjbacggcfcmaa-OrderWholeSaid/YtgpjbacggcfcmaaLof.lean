/- Stage 12, landed: room is closed; a stamp put, and dropped. No condition but sizes. -/
import Derived.Test.YtgpjbacggcfcmaaLoe
namespace Go.Proofs.Ytgpjbacggcfcmaa
open Go.RowKit Wm

/-- Fewer of a row. -/
theorem row_fewer {W : World} {g c n m : Nat} {xs : List Value} {e : TypeId} (h : W.ownsRow 0 e 2 (.slice (some ⟨g, 0, none⟩) n c) n xs) (hm : m ≤ n) : W.ownsRow 0 e 2 (.slice (some ⟨g, 0, none⟩) m c) m (xs.take (m * 2)) := by
  have hl := h.1
  rcases h.2 with ⟨e1, -⟩ | ⟨g', c', cur, e1, hb, hh, hnc, hcm, hsz, htk⟩
  · cases e1
  · injection e1 with e1 e2 e3
    injection e1 with e1
    injection e1 with e1
    subst e1 e3
    refine ⟨by rw [List.length_take, hl]; omega, .inr ⟨g, c, cur, rfl, hb, hh, Nat.le_trans hm hnc, hcm, hsz, ?_⟩⟩
    rw [← htk, List.take_take, Nat.min_eq_left (by omega)]
section
variable {W : World} {p : Nat} {v : Value} {s : Zbl}
set_option maxRecDepth 100000 in
set_option maxHeartbeats 1000000 in
theorem orClose_any (h : OrV W p v s) (hn : s.length ≤ 10000) (i : Nat) (hi : i < s.length) :
    Calls Try.prog 23 #[.pointer (some ⟨p, 0, none⟩), .int .i64 ((i : Nat) : Int)] W fun e W' => e = .returned (.tuple #[]) ∧ PostL W p v (s.take i ++ s.drop (i + 1)) W' := by
  rcases h.slice with ⟨-, rfl⟩ | ⟨g, c, rfl, hgl, hnc, -, hgp⟩
  · simp at hi
  have hown := (Only.refl (fun _ => False) W).drew.row h.own (fun _ _ e => e)
  have hlen : (s.drop (i + 1)).length = s.length - (i + 1) := List.length_drop ..
  have hcopy : ∃ W3 s1, (Builtin.copy_ #[25, 25] 3 #[.slice (some ⟨g, i * 2, none⟩) (s.length - i) (c - i), .slice (some ⟨g, if i + 1 = c then 0 else (i + 1) * 2, none⟩) (s.length - (i + 1)) (c - (i + 1))]).run Try.prog W.drew = .ok (goInt ((s.length - (i + 1) : Nat) : Int)) W3 ∧
      W3.ownsRow 0 44 2 (.slice (some ⟨g, 0, none⟩) s.length c) s.length (rowP s1) ∧ s1.take (s.length - 1) = s.take i ++ s.drop (i + 1) ∧ Only (fun k => k = g) W W3 := by
    by_cases hin : i + 1 = s.length
    · refine ⟨W.drew, s, ?_, hown, ?_, (Only.refl _ _).drew⟩
      · rw [copy_nothing _ _ _ _ _ _ _ (by rw [hin, Nat.sub_self]; exact Nat.zero_min _), hin, Nat.sub_self]; rfl
      · rw [hin, List.drop_length, List.append_nil, ← hin, Nat.add_sub_cancel]
    · have hpart := row_part hown (i + 1) (s.length - (i + 1))
      rw [List.take_of_length_le (by omega)] at hpart
      obtain ⟨W3, e1, e2, e3⟩ := copy_pairs W.drew g c s (s.drop (i + 1)) hown i (by omega) ⟨g, (i + 1) * 2, none⟩ hpart (s.length - i) (c - i) (s.length - (i + 1)) (c - (i + 1)) (by rw [hlen]; show min _ _ = _; omega)
      rw [hlen] at e1
      refine ⟨W3, _, by rw [if_neg (by omega)]; exact e1, e2, ?_, (Only.refl (fun k => k = g) W).drew.trans e3 (fun _ _ e => e)⟩
      rw [← List.append_assoc, List.take_append_of_le_length (by rw [List.length_append, List.length_take, hlen]; omega), List.take_of_length_le (by rw [List.length_append, List.length_take, hlen]; omega)]
  obtain ⟨W3, s1, hcp, ho3, hs1, hO3⟩ := hcopy
  have hpg : p ≠ g := fun e => hgp e.symm
  have c3 : W3.cell? ⟨p, 0, none⟩ = some (.slice (some ⟨g, 0, none⟩) s.length c) := by rw [hO3.cell (p := ⟨p, 0, none⟩) h.lp hpg]; exact h.c0
  have f3 : W3.frozen? ⟨p, 0, none⟩ = false := by rw [hO3.frozen (p := ⟨p, 0, none⟩) h.lp hpg]; exact h.fp
  have l3 : p < W3.heap.size := Nat.lt_of_lt_of_le h.lp hO3.size
  have hfin := Lib.hid (show PostL W p (.slice (some ⟨g, 0, none⟩) s.length c) (s.take i ++ s.drop (i + 1)) (W3.drew.setCell ⟨p, 0, none⟩ (.slice (some ⟨g, 0, none⟩) (s.length - 1) c)) from by
    have e : (s.take i ++ s.drop (i + 1)).length = s.length - 1 := by rw [List.length_append, List.length_take, hlen]; omega
    have hd : W3.drew.cell? ⟨p, 0, none⟩ = some (.slice (some ⟨g, 0, none⟩) s.length c) := c3
    have hff : ∀ k, footO p (.slice (some ⟨g, 0, none⟩) (s.length - 1) c) k → footO p (.slice (some ⟨g, 0, none⟩) s.length c) k := fun k e => e
    refine ⟨.slice (some ⟨g, 0, none⟩) (s.length - 1) c, ⟨?_, ?_, by simpa using l3, ?_, h.ne⟩, (hO3.drew.mono (fun j _ e => .inr (by rw [e]; rfl))).setCell (p := ⟨p, 0, none⟩) (fun _ => .inl rfl) _, fun k _ e => hff k e⟩
    · rw [cell_putR hd, if_pos rfl]
    · have : W3.drew.frozen? ⟨p, 0, none⟩ = false := f3
      simpa using this
    · rw [e, ← hs1, ← rowP_take]
      exact ((Only.refl (fun k => k = p) W3).drew.setCell (p := ⟨p, 0, none⟩) (fun _ => rfl) _).row (row_fewer ho3 (by omega)) (fun k e1 e2 => hpg (by injection e1 with e1; exact (e1.trans e2).symm)))
  have c0 := h.c0
  have lp := h.lp
  have hiI : ((i : Nat) : Int) < ((s.length : Nat) : Int) := by omega
  have hgcI : ((s.length : Nat) : Int) ≤ ((c : Nat) : Int) := by omega
  have hs2 := Lib.hid (run_from_pair g s.length c (i + 1) (by omega) hnc)
  have hs3 := Lib.hid (run_from_pair g s.length c i (by omega) hnc)
  have hs4 := Lib.hid (run_upto_pair g s.length c (s.length - 1) (by omega) hnc)
  rw [show (((i + 1 : Nat) : Int)) = (i : Int) + 1 from by omega] at hs2
  rw [show (((s.length - 1 : Nat) : Int)) = ((s.length : Nat) : Int) - 1 from by omega] at hs4
  rw [if_neg (show ¬ i = c by omega)] at hs3
  have ew : IntKind.i64.wrap (((i : Nat) : Int) + 1) = ((i : Nat) : Int) + 1 := IntWalk.i64_in _ (by omega)
  have ew2 : IntKind.i64.wrap (((s.length : Nat) : Int) - 1) = ((s.length : Nat) : Int) - 1 := IntWalk.i64_in _ (by omega)
  clear h ho3 hs1 hO3 hown hlen hgl hgp hpg hi
  generalize (if i + 1 = c then 0 else (i + 1) * 2) = o1 at *
  generalize s.length - 1 = N1 at *
  generalize s.length = N at *
  replace hcp := Lib.hid hcp
  go_enter Try.func23, Try.ntmps23
  go_upto_region 0 with (fail)
  refine wp_region_still_tail 13 (by kernel_rfl) (by kernel_rfl) ?_
  simp only [List.take_succ_cons, List.take_zero, List.drop_succ_cons, List.drop_zero]
  change wpStill _ _ W.drew _ _ _
  iterate 5 still_step
  refine still_slice rfl _ _ _ _ _ rfl (.slice (some ⟨g, 0, none⟩) N c) _ _ _ _ rfl rfl rfl rfl (hs3.out _) ?_
  simp only [Act.put, List.setIfInBounds_toArray, List.set_cons_zero, List.set_cons_succ]
  iterate 6 still_step
  refine still_slice rfl _ _ _ _ _ rfl (.slice (some ⟨g, 0, none⟩) N c) _ _ _ _ rfl rfl rfl rfl (hs2.out _) ?_
  simp only [Act.put, List.setIfInBounds_toArray, List.set_cons_zero, List.set_cons_succ]
  refine wpStill_nil ?_
  change wpList _ _ _ _ _ W.drew
  refine Lib.wpList_copy_run _ rfl _ _ _ _ rfl _ _ rfl rfl hcp.out ?_
  simp only [Act.put]
  change wpList _ _ _ _ _ W3
  clear hcp hs2 hs3 c0 lp
  go_upto_region 1 with (fail)
  refine wp_region_still_tail 14 (by kernel_rfl) (by kernel_rfl) ?_
  simp only [List.take_succ_cons, List.take_zero, List.drop_succ_cons, List.drop_zero]
  change wpStill _ _ W3.drew _ _ _
  iterate 11 still_step
  refine still_slice rfl _ _ _ _ _ rfl (.slice (some ⟨g, 0, none⟩) N c) _ _ _ _ rfl rfl rfl rfl (hs4.out _) ?_
  simp only [Act.put, List.setIfInBounds_toArray, List.set_cons_zero, List.set_cons_succ]
  iterate 2 still_step
  refine wpStill_nil ?_
  change wpList _ _ _ _ _ W3.drew
  go_wp2
  go_end0
  exact ⟨rfl, hfin.out⟩
end
end Go.Proofs.Ytgpjbacggcfcmaa
