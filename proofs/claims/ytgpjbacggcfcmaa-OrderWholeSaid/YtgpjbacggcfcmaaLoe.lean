/- Stage 12, landed: room is made, and closed, in the midst of a list. No condition but sizes. -/
import Derived.Test.YtgpjbacggcfcmaaLod
import Derived.Test.YtgpjbacggcfcmaaCpy
namespace Go.Proofs.Ytgpjbacggcfcmaa
open Go.RowKit Wm

theorem rowP_take : ∀ (l : Zbl) (i : Nat), (rowP l).take (i * 2) = rowP (l.take i)
  | [], i => by simp [rowP]
  | x :: r, 0 => by simp [rowP]
  | x :: r, i + 1 => by
    show (cellsP x ++ rowP r).take ((i + 1) * 2) = cellsP x ++ rowP (r.take i)
    rw [show (i + 1) * 2 = (cellsP x).length + i * 2 from by show _ = 2 + i * 2; omega, List.take_length_add_append, rowP_take r i]
theorem rowP_drop : ∀ (l : Zbl) (i : Nat), (rowP l).drop (i * 2) = rowP (l.drop i)
  | [], i => by simp [rowP]
  | x :: r, 0 => by simp
  | x :: r, i + 1 => by
    show (cellsP x ++ rowP r).drop ((i + 1) * 2) = rowP (r.drop i)
    rw [show (i + 1) * 2 = (cellsP x).length + i * 2 from by show _ = 2 + i * 2; omega, List.drop_length_add_append, rowP_drop r i]
theorem rowP_one (l : Zbl) : ∀ u ∈ rowP l, u.oneCell' = true := fun u hu => by
  unfold rowP at hu
  obtain ⟨x, _, hx⟩ := List.mem_flatMap.1 hu
  unfold cellsP at hx
  simp at hx
  rcases hx with rfl | rfl <;> rfl
/-- Pairs copied into a row of one's own. -/
theorem copy_pairs (W : World) (g c : Nat) (l r : Zbl) (h : W.ownsRow 0 44 2 (.slice (some ⟨g, 0, none⟩) l.length c) l.length (rowP l)) (i : Nat) (hi : i + r.length ≤ l.length) (a : Addr) (hsrc : ∀ j u, (rowP r)[j]? = some u → W.cell? (a.add j) = some u)
    (dLen dCap sLen sCap : Nat) (hm : Nat.min sLen dLen = r.length) :
    ∃ W', (Builtin.copy_ #[25, 25] 3 #[.slice (some ⟨g, i * 2, none⟩) dLen dCap, .slice (some a) sLen sCap]).run Try.prog W = .ok (goInt r.length) W' ∧
      W'.ownsRow 0 44 2 (.slice (some ⟨g, 0, none⟩) l.length c) l.length (rowP (l.take i ++ (r ++ l.drop (i + r.length)))) ∧ Only (fun k => k = g) W W' := by
  obtain ⟨W', e1, e2, e3⟩ := copy_own (P := Try.prog) W 25 25 3 44 2 0 g c l.length (rowP l) Try.underlying25 (by kernel_rfl) h i r.length hi (rowP r) (rowP_length r) a hsrc (rowP_one r) dLen dCap sLen sCap hm
  refine ⟨W', e1, ?_, Only.of_grown e3 (fun k _ e => by injection e with e; exact e.symm)⟩
  rw [rowP_app, rowP_app, ← rowP_take, ← rowP_drop]
  exact e2
theorem copy_nothing (W : World) (d a : Option Addr) (dLen dCap sLen sCap : Nat) (hm : Nat.min sLen dLen = 0) :
    (Builtin.copy_ #[25, 25] 3 #[.slice d dLen dCap, .slice a sLen sCap]).run Try.prog W = .ok (goInt 0) W :=
  run_copy_noneK (P := Try.prog) W 25 25 3 44 2 d a dLen dCap sLen sCap Try.underlying25 (by kernel_rfl) hm
/-- Cells of a part of a row. -/
theorem row_part {W : World} {g c : Nat} {l : Zbl} (h : W.ownsRow 0 44 2 (.slice (some ⟨g, 0, none⟩) l.length c) l.length (rowP l)) (i m : Nat) : ∀ j u, (rowP ((l.drop i).take m))[j]? = some u → W.cell? ((⟨g, i * 2, none⟩ : Addr).add j) = some u := fun j u hj => by
  rw [← rowP_take, ← rowP_drop, List.getElem?_take] at hj
  split at hj
  · rw [List.getElem?_drop] at hj
    rw [Addr.add_mid]
    rcases own_slice h with ⟨e, -⟩ | ⟨g', c', e, -, -, hc, -⟩
    · cases e
    · have : g = g' := by injection e with e1 _ _; injection e1 with e1; injection e1
      subst this
      exact hc _ _ hj
  · cases hj
theorem run_from_pair (g n c i : Nat) (h : i ≤ n) (_hc : n ≤ c) (w : World) : (Instr.sliceAt 25 (.slice (some ⟨g, 0, none⟩) n c) (some (.int .i64 (i : Int))) none none).run Try.prog w = .ok (.slice (some ⟨g, if i = c then 0 else i * 2, none⟩) (n - i) (c - i)) w := by
  have h1 : ((i : Nat) : Int) ≤ ((n : Nat) : Int) := by omega
  have h2 : (c = i) = (i = c) := propext ⟨Eq.symm, Eq.symm⟩
  go_simp
  split <;> rfl
theorem run_part_pair (g n c i j : Nat) (h : i ≤ j) (hj : j ≤ n) (hc : n ≤ c) (w : World) : (Instr.sliceAt 25 (.slice (some ⟨g, 0, none⟩) n c) (some (.int .i64 (i : Int))) (some (.int .i64 (j : Int))) none).run Try.prog w = .ok (.slice (some ⟨g, if i = c then 0 else i * 2, none⟩) (j - i) (c - i)) w := by
  have h1 : ((i : Nat) : Int) ≤ ((j : Nat) : Int) := by omega
  have h3 : ((j : Nat) : Int) ≤ ((c : Nat) : Int) := by omega
  have h2 : (c = i) = (i = c) := propext ⟨Eq.symm, Eq.symm⟩
  go_simp
  split <;> rfl
theorem run_upto_pair (g n c j : Nat) (hj : j ≤ n) (hc : n ≤ c) (w : World) : (Instr.sliceAt 25 (.slice (some ⟨g, 0, none⟩) n c) none (some (.int .i64 (j : Int))) none).run Try.prog w = .ok (.slice (some ⟨g, 0, none⟩) j c) w := by
  have h3 : ((j : Nat) : Int) ≤ ((c : Nat) : Int) := by omega
  go_simp
/-- A slice stored into a list. -/
theorem OrV.stored {W W' : World} {p g c : Nat} {v : Value} {s t : Zbl} (h : OrV W p v s) (hO : Only (fun k => v.ownBlock = some k) W W') (ho : W'.ownsRow 0 44 2 (.slice (some ⟨g, 0, none⟩) t.length c) t.length (rowP t)) (hg : v.ownBlock = some g ∨ W.heap.size ≤ g) :
    OrV (W'.setCell ⟨p, 0, none⟩ (.slice (some ⟨g, 0, none⟩) t.length c)) p (.slice (some ⟨g, 0, none⟩) t.length c) t := by
  have hpg : g ≠ p := by
    rintro rfl
    rcases hg with e | e
    · exact h.ne e
    · exact Nat.lt_irrefl _ (Nat.lt_of_lt_of_le h.lp e)
  have hc : W'.cell? ⟨p, 0, none⟩ = some v := (hO.cell (p := ⟨p, 0, none⟩) h.lp (fun e => h.ne e)).trans h.c0
  have hf : W'.frozen? ⟨p, 0, none⟩ = false := (hO.frozen (p := ⟨p, 0, none⟩) h.lp (fun e => h.ne e)).trans h.fp
  refine ⟨?_, by simpa using hf, by simpa using Nat.lt_of_lt_of_le h.lp hO.size, ?_, fun e => hpg (by injection e)⟩
  · rw [cell_putR hc, if_pos rfl]
  · exact ((Only.refl (fun k => k = p) W').setCell (p := ⟨p, 0, none⟩) (fun _ => rfl) _).row ho (fun k e1 e2 => hpg (by injection e1 with e1; exact e1.trans e2))
/-- Behind a call that turned a list. -/
def PostL (W : World) (p : Nat) (v : Value) (t : Zbl) (W' : World) : Prop := ∃ v', OrV W' p v' t ∧ Only (footO p v) W W' ∧ ∀ k, k < W.heap.size → footO p v' k → footO p v k
/-- A list in which there is room for one more. -/
def RoomPost (W : World) (p : Nat) (v : Value) (s : Zbl) (i : Nat) (W' : World) : Prop := ∃ y : Int × Int, PostL W p v (s.take i ++ y :: s.drop i) W'
section
variable {W : World} {p : Nat} {v : Value} {s : Zbl}
set_option maxRecDepth 100000 in
set_option maxHeartbeats 1000000 in
theorem orRoom_any (h : OrV W p v s) (hn : s.length ≤ 1000) (i : Nat) (hi : i ≤ s.length) :
    Calls Try.prog 22 #[.pointer (some ⟨p, 0, none⟩), .int .i64 ((i : Nat) : Int)] W fun e W' => e = .returned (.tuple #[]) ∧ RoomPost W p v s i W' := by
  obtain ⟨g, c, w', hr, ho, hO, hg⟩ := app_pair W v s (0, 0) h.own hn
  have hl1 : (s ++ [((0 : Int), (0 : Int))]).length = s.length + 1 := by simp
  have ho' := ho
  rw [← hl1] at ho'
  have h2 := h.stored hO ho' hg
  have hO2 : Only (footO p v) W (w'.setCell ⟨p, 0, none⟩ (.slice (some ⟨g, 0, none⟩) (s.length + 1) c)) := (hO.mono (fun j _ e => .inr e)).setCell (p := ⟨p, 0, none⟩) (fun _ => .inl rfl) _
  rw [hl1] at h2
  have c0 := h.c0
  have fp := h.fp
  have lp := h.lp
  have c0' : w'.cell? ⟨p, 0, none⟩ = some v := (hO.cell (p := ⟨p, 0, none⟩) h.lp (fun e => h.ne e)).trans h.c0
  have f0' : w'.frozen? ⟨p, 0, none⟩ = false := (hO.frozen (p := ⟨p, 0, none⟩) h.lp (fun e => h.ne e)).trans h.fp
  have lp' : p < w'.heap.size := Nat.lt_of_lt_of_le h.lp hO.size
  have hfoot : ∀ k, k < W.heap.size → footO p (.slice (some ⟨g, 0, none⟩) (s.length + 1) c) k → footO p v k := fun k hk e => by
    rcases e with e | e
    · exact .inl e
    · have e2 : g = k := by injection e
      subst e2
      rcases hg with e | e
      · exact .inr e
      · omega
  have hgc : s.length + 1 ≤ c := by
    rcases own_slice ho' with ⟨e, -⟩ | ⟨g', c', e, -, hc, -⟩
    · cases e
    · injection e with _ _ e3; rw [e3, ← hl1]; exact hc
  have hres := Lib.hid (show ∀ W3, Only (fun k => k = g) (w'.setCell ⟨p, 0, none⟩ (.slice (some ⟨g, 0, none⟩) (s.length + 1) c)) W3 → ∀ y, W3.ownsRow 0 44 2 (.slice (some ⟨g, 0, none⟩) (s.length + 1) c) (s.length + 1) (rowP (s.take i ++ y :: s.drop i)) → RoomPost W p v s i W3 from fun W3 hO3 y ho3 => by
    have hpg : p ≠ g := fun e => h2.ne (by rw [e]; rfl)
    refine ⟨y, .slice (some ⟨g, 0, none⟩) (s.length + 1) c, ⟨?_, ?_, Nat.lt_of_lt_of_le h2.lp hO3.size, ?_, h2.ne⟩, hO2.trans hO3 (fun j hj e => hfoot j hj (.inr (by rw [e]; rfl))), hfoot⟩
    · rw [hO3.cell (p := ⟨p, 0, none⟩) h2.lp hpg]; exact h2.c0
    · rw [hO3.frozen (p := ⟨p, 0, none⟩) h2.lp hpg]; exact h2.fp
    · have e : (s.take i ++ y :: s.drop i).length = s.length + 1 := by simp; omega
      rw [e]
      exact ho3)
  have d0 := h2.c0
  have d1 := h2.lp
  have ho2 := h2.own
  rw [hl1] at ho2
  have hcopy : ∃ W3, (∀ d : Nat, (Builtin.copy_ #[25, 25] 3 #[.slice (some ⟨g, if i + 1 = c then 0 else (i + 1) * 2, none⟩) (s.length + 1 - (i + 1)) (c - (i + 1)), .slice (some ⟨g, i * 2, none⟩) (s.length + 1 - i) (c - i)]).run Try.prog (w'.setCell ⟨p, 0, none⟩ (.slice (some ⟨g, 0, none⟩) (s.length + 1) c)).drew = .ok (goInt ((s.length - i : Nat) : Int)) W3) ∧ RoomPost W p v s i W3 := by
    generalize hW2 : w'.setCell ⟨p, 0, none⟩ (.slice (some ⟨g, 0, none⟩) (s.length + 1) c) = W2 at *
    have hod : W2.drew.ownsRow 0 44 2 (.slice (some ⟨g, 0, none⟩) (s ++ [((0 : Int), (0 : Int))]).length c) (s ++ [((0 : Int), (0 : Int))]).length (rowP (s ++ [((0 : Int), (0 : Int))])) := by
      rw [hl1]
      exact (Only.refl (fun _ => False) W2).drew.row ho2 (fun _ _ e => e)
    by_cases hin : i = s.length
    · subst hin
      refine ⟨W2.drew, fun d => ?_, hres.out _ ((Only.refl _ _).drew) (0, 0) ?_⟩
      · rw [copy_nothing _ _ _ _ _ _ _ (by rw [Nat.sub_self]; exact Nat.min_zero _), Nat.sub_self]; rfl
      · rw [List.take_length, List.drop_length]
        rw [hl1] at hod
        exact hod
    · have hlt : i < s.length := by omega
      have hle : ((s ++ [((0 : Int), (0 : Int))]).drop i).take (s.length - i) = s.drop i := by
        rw [List.drop_append_of_le_length hi, List.take_append_of_le_length (by rw [List.length_drop]; omega), List.take_of_length_le (by rw [List.length_drop]; omega)]
      have hpart := row_part hod i (s.length - i)
      rw [hle] at hpart
      have hlen : (s.drop i).length = s.length - i := List.length_drop ..
      obtain ⟨W3, e1, e2, e3⟩ := copy_pairs W2.drew g c (s ++ [((0 : Int), (0 : Int))]) (s.drop i) hod (i + 1) (by rw [hl1, hlen]; omega) ⟨g, i * 2, none⟩ hpart (s.length + 1 - (i + 1)) (c - (i + 1)) (s.length + 1 - i) (c - i) (by rw [hlen]; show min _ _ = _; omega)
      rw [hlen] at e1
      refine ⟨W3, fun d => by rw [if_neg (by omega)]; exact e1, hres.out _ ((Only.refl (fun k => k = g) W2).drew.trans e3 (fun _ _ e => e)) s[i] ?_⟩
      have e4 : (s ++ [((0 : Int), (0 : Int))]).take (i + 1) ++ (s.drop i ++ (s ++ [((0 : Int), (0 : Int))]).drop (i + 1 + (s.drop i).length)) = s.take i ++ s[i] :: s.drop i := by
        have e5 : (s ++ [((0 : Int), (0 : Int))]).drop (i + 1 + (s.drop i).length) = [] := List.drop_eq_nil_of_le (by rw [hl1, hlen]; omega)
        rw [e5, List.take_append_of_le_length (by omega), List.append_nil, List.take_succ_eq_append_getElem hlt, List.append_assoc]
        rfl
      rw [e4, hl1] at e2
      exact e2
  obtain ⟨W3, hcp, hfin⟩ := hcopy
  replace hfin := Lib.hid hfin
  clear h h2 ho ho' ho2 hO hO2 hg hfoot hres hl1 fp
  dsimp only at hr
  have hcp1 := Lib.hid (hcp 0)
  clear hcp
  go_enter Try.func22, Try.ntmps22
  go_upto_region 1 with (at_builtin; refine Lib.wpList_append_run _ rfl _ _ _ _ rfl _ _ rfl rfl _ _ hr ?_)
  clear hr c0 lp c0' f0' lp'
  generalize w'.setCell ⟨p, 0, none⟩ (.slice (some ⟨g, 0, none⟩) (s.length + 1) c) = W2 at *
  have hiN : i < s.length + 1 := by omega
  generalize s.length + 1 = N at *
  have hiI : ((i : Nat) : Int) < ((N : Nat) : Int) := by omega
  have hgcI : ((N : Nat) : Int) ≤ ((c : Nat) : Int) := by omega
  have hs1 := Lib.hid (run_from_pair g N c (i + 1) (by omega) hgc)
  have hs2 := Lib.hid (run_from_pair g N c i (by omega) hgc)
  rw [show (((i + 1 : Nat) : Int)) = (i : Int) + 1 from by omega] at hs1
  have hic : ¬ i = c := by omega
  rw [if_neg hic] at hs2
  have ew : IntKind.i64.wrap (((i : Nat) : Int) + 1) = ((i : Nat) : Int) + 1 := IntWalk.i64_in _ (by omega)
  clear hic
  generalize (if i + 1 = c then 0 else (i + 1) * 2) = o1 at *
  refine wp_region_still_tail 13 (by kernel_rfl) (by kernel_rfl) ?_
  simp only [List.take_succ_cons, List.take_zero, List.drop_succ_cons, List.drop_zero]
  change wpStill _ _ W2.drew _ _ _
  iterate 6 still_step
  refine still_slice rfl _ _ _ _ _ rfl (.slice (some ⟨g, 0, none⟩) N c) _ _ _ _ rfl rfl rfl rfl (hs1.out _) ?_
  simp only [Act.put, List.setIfInBounds_toArray, List.set_cons_zero, List.set_cons_succ]
  iterate 5 still_step
  refine still_slice rfl _ _ _ _ _ rfl (.slice (some ⟨g, 0, none⟩) N c) _ _ _ _ rfl rfl rfl rfl (hs2.out _) ?_
  simp only [Act.put, List.setIfInBounds_toArray, List.set_cons_zero, List.set_cons_succ]
  refine wpStill_nil ?_
  change wpList _ _ _ _ _ W2.drew
  refine Lib.wpList_copy_run _ rfl _ _ _ _ rfl _ _ rfl rfl hcp1.out ?_
  simp only [Act.put]
  change wpList _ _ _ _ _ W3
  go_wp2
  go_end0
  exact ⟨rfl, hfin.out⟩
end
end Go.Proofs.Ytgpjbacggcfcmaa
