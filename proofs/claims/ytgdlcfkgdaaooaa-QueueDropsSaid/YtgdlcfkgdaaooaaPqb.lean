/- Stage 13, landed: a heap's row in memory; the small calls on it. No condition but sizes. -/
import Derived.Test.YtgdlcfkgdaaooaaPqa
import Derived.Test.YtgdlcfkgdaaooaaRwk
import Derived.Test.YtgdlcfkgdaaooaaIdx
import Derived.Test.YtgdlcfkgdaaooaaNeed
import Derived.Test.YtgdlcfkgdaaooaaYld
import Derived.Test.YtgdlcfkgdaaooaaRo
import Derived.Test.YtgdlcfkgdaaooaaCix
import Derived.Lib.Hide
import Derived.BigQuiet
namespace Go.Proofs.Ytgdlcfkgdaaooaa
open Go.RowKit Wm

theorem qitK : CellsK Qit.cells 4 := ⟨fun _ => rfl, fun x v hv => by
  unfold Qit.cells at hv
  simp at hv
  rcases hv with rfl | rfl | rfl | rfl <;> rfl, by decide⟩
/-- A queue in memory. -/
structure QuV (W : World) (p : Nat) (v : Value) (s : List Qit) : Prop where
  c0 : W.cell? ⟨p, 0, none⟩ = some v
  fp : W.frozen? ⟨p, 0, none⟩ = false
  lp : p < W.heap.size
  own : W.ownsRow 0 34 4 v s.length (rowK Qit.cells s)
  ne : v.ownBlock ≠ some p
def footQ (p : Nat) (v : Value) : Nat → Prop := fun k => k = p ∨ v.ownBlock = some k
section
variable {W W' : World} {p : Nat} {v : Value} {s : List Qit}
theorem QuV.near (h : QuV W p v s) : ∀ k, footQ p v k → k < W.heap.size := by
  rintro k (rfl | e)
  · exact h.lp
  · exact (h.own.lt k e).2
theorem QuV.keep {G : Nat → Prop} (h : QuV W p v s) (hO : Only G W W') (hG : ∀ k, footQ p v k → ¬ G k) : QuV W' p v s := by
  have hp : ¬ G p := hG p (.inl rfl)
  refine ⟨?_, ?_, Nat.lt_of_lt_of_le h.lp hO.size, hO.row h.own (fun g e => hG g (.inr e)), h.ne⟩
  · rw [hO.cell (p := ⟨p, 0, none⟩) h.lp hp]; exact h.c0
  · rw [hO.frozen (p := ⟨p, 0, none⟩) h.lp hp]; exact h.fp
theorem QuV.later (h : QuV W p v s) (hb : Below W.heap.size W W') : QuV W' p v s := h.keep (G := fun _ => False) (Only.of_below hb) (fun _ _ e => e)
/-- Its slice, as a value. -/
theorem QuV.slice (h : QuV W p v s) : (v = .slice none 0 0 ∧ s = []) ∨ ∃ g c, v = .slice (some ⟨g, 0, none⟩) s.length c ∧ g < W.heap.size ∧ s.length ≤ c ∧ g ≠ p := by
  rcases own_spot h.own with ⟨rfl, h0⟩ | ⟨g, c, rfl, hg, hc1, _, _, _⟩
  · exact .inl ⟨rfl, List.eq_nil_of_length_eq_zero h0⟩
  · exact .inr ⟨g, c, rfl, hg, hc1, fun e => h.ne (by rw [e]; rfl)⟩
end
theorem run_idx_qit (g n c i : Nat) (h : i < n) (w : World) : (Instr.indexAt 26 (.slice (some ⟨g, 0, none⟩) n c) (.int .i64 (i : Int))).run Try.prog w = .ok (.pointer (some ⟨g, i * 4, none⟩)) w := by
  have := run_idx_K (P := Try.prog) (K := 4) (ty := 26) (e := 34) (by kernel_rfl) (by kernel_rfl) (by kernel_rfl) g 0 n c i h w
  rwa [Nat.zero_add] at this
set_option maxRecDepth 100000 in
theorem qAhead_any (a b : Qit) (W : World) : Calls Try.prog 42 #[.agg a.cells.toArray, .agg b.cells.toArray] W fun e W' => e = .returned (.bool (qahead a b)) ∧ Below W.heap.size W W' := by
  obtain ⟨d1, s1, i1⟩ := a
  obtain ⟨d2, s2, i2⟩ := b
  by_cases h : d1 = d2
  · subst h
    have hq : qahead ⟨d1, s1, i1⟩ ⟨d1, s2, i2⟩ = decide (s1 < s2) := by unfold qahead; rw [if_pos rfl]
    rw [hq]
    dsimp only [Qit.cells]
    go_enter Try.func42, Try.ntmps42
    go_wp2
    go_ret
    exact ⟨rfl, ((Below.refl _ _).alloc (Nat.le_refl _) _).alloc (by simp) _⟩
  · have hq : qahead ⟨d1, s1, i1⟩ ⟨d2, s2, i2⟩ = decide (d1 < d2) := by unfold qahead; rw [if_neg h]
    rw [hq]
    have hb : (d1 != d2) = true := bne_iff_ne.2 h
    clear h
    dsimp only [Qit.cells]
    go_enter Try.func42, Try.ntmps42
    go_wp2
    go_ret
    exact ⟨rfl, ((Below.refl _ _).alloc (Nat.le_refl _) _).alloc (by simp) _⟩
set_option maxRecDepth 100000 in
theorem qPLen_any (ao : Option Addr) (n c : Nat) (W : World) : Calls Try.prog 39 #[.slice ao n c] W fun e W' => e = .returned (.int .i64 ((n : Nat) : Int)) ∧ W = W' := by
  go_enter Try.func39, Try.ntmps39
  go_wp2
  go_ret
  exact ⟨rfl, rfl⟩
theorem meth_row {P : Program} {T : TypeId} {name : String} {f : FuncId} {pr : Bool} (h : ((P.info? T).bind fun i => i.methods.find? (·.name == name)).map (fun m => (m.path.toList, m.func)) = some ([], some (f, pr))) :
    ∃ i m, P.info? T = some i ∧ i.methods.find? (·.name == name) = some m ∧ m.path = #[] ∧ m.func = some (f, pr) := by
  cases hi : P.info? T with
  | none => rw [hi] at h; simp at h
  | some i =>
    cases hm : i.methods.find? (·.name == name) with
    | none => rw [hi] at h; simp [hm] at h
    | some m =>
      rw [hi] at h
      simp only [Option.bind_some, hm, Option.map_some, Option.some.injEq, Prod.mk.injEq] at h
      exact ⟨i, m, rfl, hm, by rw [← Array.toList_inj]; exact h.1, h.2⟩
/-- A method of a pointer's, found behind an interface. -/
theorem run_meth_ptr {P : Program} {T E : TypeId} {name : String} {f : FuncId} (h : ((P.info? T).bind fun i => i.methods.find? (·.name == name)).map (fun m => (m.path.toList, m.func)) = some ([], some (f, true)))
    (hu : P.underlying T = some (.pointer E)) (n : Nat) (x : Value) (W : World) : (method (n + 1) T x name).run P W = .ok (f, x) W := by
  obtain ⟨i, m, h1, h2, h3, h4⟩ := meth_row h
  unfold method
  simp [typeInfo, h1, h2, h3, h4, follow, receiverAt, run_underlying hu, Place.get]
theorem run_nilChk {P : Program} (t : Array TypeId) (ty : TypeId) (a : Addr) (x y : String) (W : World) : (Builtin.ssaWrapNilChk_ t ty #[.pointer (some a), strVal x, strVal y]).run P W = .ok (.pointer (some a)) W := rfl
/-- A method of a value's, found behind an interface that holds its pointer. -/
theorem run_meth_val {P : Program} {T E : TypeId} {name : String} {f : FuncId} (h : ((P.info? T).bind fun i => i.methods.find? (·.name == name)).map (fun m => (m.path.toList, m.func)) = some ([], some (f, false)))
    (hu : P.underlying T = some (.pointer E)) (n : Nat) (p : Nat) (v : Value) (W : World) (hl : (loadVar E ⟨p, 0, none⟩).run P W = .ok v W) : (method (n + 1) T (.pointer (some ⟨p, 0, none⟩)) name).run P W = .ok (f, v) W := by
  obtain ⟨i, m, h1, h2, h3, h4⟩ := meth_row h
  unfold method
  simp [typeInfo, h1, h2, h3, h4, follow, receiverAt, run_underlying hu, Place.get, run_nilChk, asAddr, hl]
theorem run_load_pile (p : Nat) (v : Value) (W : World) (hc : W.cell? ⟨p, 0, none⟩ = some v) : (loadVar 26 ⟨p, 0, none⟩).run Try.prog W = .ok v W := by
  go_simp
theorem m_Len {p : Nat} {v : Value} {W : World} (hc : W.cell? ⟨p, 0, none⟩ = some v) (n : Nat) : (method (n + 1) 55 (.pointer (some ⟨p, 0, none⟩)) "Len").run Try.prog W = .ok (39, v) W :=
  run_meth_val (E := 26) (by kernel_rfl) Try.underlying55 n p v W (run_load_pile p v W hc)
theorem m_Less {p : Nat} {v : Value} {W : World} (hc : W.cell? ⟨p, 0, none⟩ = some v) (n : Nat) : (method (n + 1) 55 (.pointer (some ⟨p, 0, none⟩)) "Less").run Try.prog W = .ok (40, v) W :=
  run_meth_val (E := 26) (by kernel_rfl) Try.underlying55 n p v W (run_load_pile p v W hc)
theorem m_Swap {p : Nat} {v : Value} {W : World} (hc : W.cell? ⟨p, 0, none⟩ = some v) (n : Nat) : (method (n + 1) 55 (.pointer (some ⟨p, 0, none⟩)) "Swap").run Try.prog W = .ok (41, v) W :=
  run_meth_val (E := 26) (by kernel_rfl) Try.underlying55 n p v W (run_load_pile p v W hc)
theorem m_Push (x : Value) (W : World) (n : Nat) : (method (n + 1) 55 x "Push").run Try.prog W = .ok (44, x) W :=
  run_meth_ptr (E := 26) (by kernel_rfl) Try.underlying55 n x W
theorem m_Pop (x : Value) (W : World) (n : Nat) : (method (n + 1) 55 x "Pop").run Try.prog W = .ok (43, x) W :=
  run_meth_ptr (E := 26) (by kernel_rfl) Try.underlying55 n x W
theorem rangeAt_below {W W' : World} {g o : Nat} {cs : List Value} (h : W.rangeAt g o cs) (hg : g < W.heap.size) (hb : Below W.heap.size W W') : W'.rangeAt g o cs := fun j v hv => (hb.cell (p := ⟨g, o + j, none⟩) hg).trans (h j v hv)
set_option maxRecDepth 100000 in
theorem qLess_any {W : World} {g c : Nat} {s : List Qit} (h : W.ownsRow 0 34 4 (.slice (some ⟨g, 0, none⟩) s.length c) s.length (rowK Qit.cells s)) (i j : Nat) (hi : i < s.length) (hj : j < s.length) :
    Calls Try.prog 40 #[.slice (some ⟨g, 0, none⟩) s.length c, .int .i64 (i : Int), .int .i64 (j : Int)] W fun e W' => e = .returned (.bool (qahead (atQ s i) (atQ s j))) ∧ Below W.heap.size W W' := by
  rw [atQ_get hi, atQ_get hj]
  have r1 := rowK_range qitK h i hi
  have r2 := rowK_range qitK h j hj
  have hg : g < W.heap.size := (h.lt g rfl).2
  have ix1 := Lib.hid (fun w => run_idx_qit g s.length c i hi w)
  have ix2 := Lib.hid (fun w => run_idx_qit g s.length c j hj w)
  clear h
  generalize s[i] = x at *
  generalize s[j] = y at *
  generalize s.length = n at *
  have hS : ∀ W', Below W.heap.size W W' → W'.rangeAt g (i * 4) x.cells ∧ W'.rangeAt g (j * 4) y.cells ∧ Below W.heap.size W W' := fun W' hb => ⟨rangeAt_below r1 hg hb, rangeAt_below r2 hg hb, hb⟩
  replace hS := Lib.hid hS
  have i3 := Lib.hid (show (Try.prog.info? 34).map (·.size) = some x.cells.length by kernel_rfl)
  have i4 := Lib.hid (show (Try.prog.info? 34).map (·.size) = some y.cells.length by kernel_rfl)
  have ha := Lib.hid (qAhead_any x y)
  generalize x.cells = X at *
  generalize y.cells = Y at *
  clear r1 r2 hi hj
  go_enter Try.func40, Try.ntmps40
  go_wp2_with fail
  refine wp_region_calm (fun w' => w'.rangeAt g (i * 4) X ∧ w'.rangeAt g (j * 4) Y ∧ Below W.heap.size W w') (by kernel_rfl) (by kernel_rfl) (hS.out _ (Below.refl _ _).drew) ?_
  refine calm_pure (v := ?cv135) (by rfl) (fun w' => ?ch135) ?cr135
  case ch135 => (go_simp; first | done | with_reducible rfl)
  try simp only [Act.put, List.setIfInBounds_toArray, List.set_cons_zero, List.set_cons_succ]
  refine calm_pure (v := ?cv138) (by rfl) (fun w' => ?ch138) ?cr138
  case ch138 => (go_simp; first | done | with_reducible rfl)
  try simp only [Act.put, List.setIfInBounds_toArray, List.set_cons_zero, List.set_cons_succ]
  refine calm_index _ _ _ (.slice (some ⟨g, 0, none⟩) n c) (.int .i64 (i : Int)) _ (by rfl) rfl rfl rfl ix1.out ?_
  try simp only [Act.put, List.setIfInBounds_toArray, List.set_cons_zero, List.set_cons_succ]
  refine calm_load 34 _ g (i * 4) X _ (by rfl) rfl rfl (fun w' h => h.1) Try.underlying34 rfl i3.out ?_
  try simp only [Act.put, List.setIfInBounds_toArray, List.set_cons_zero, List.set_cons_succ]
  refine calm_pure (v := ?cv145) (by rfl) (fun w' => ?ch145) ?cr145
  case ch145 => (go_simp; first | done | with_reducible rfl)
  try simp only [Act.put, List.setIfInBounds_toArray, List.set_cons_zero, List.set_cons_succ]
  refine calm_pure (v := ?cv148) (by rfl) (fun w' => ?ch148) ?cr148
  case ch148 => (go_simp; first | done | with_reducible rfl)
  try simp only [Act.put, List.setIfInBounds_toArray, List.set_cons_zero, List.set_cons_succ]
  refine calm_index _ _ _ (.slice (some ⟨g, 0, none⟩) n c) (.int .i64 (j : Int)) _ (by rfl) rfl rfl rfl ix2.out ?_
  try simp only [Act.put, List.setIfInBounds_toArray, List.set_cons_zero, List.set_cons_succ]
  refine calm_load 34 _ g (j * 4) Y _ (by rfl) rfl rfl (fun w' h => h.2.1) Try.underlying34 rfl i4.out ?_
  try simp only [Act.put, List.setIfInBounds_toArray, List.set_cons_zero, List.set_cons_succ]
  refine calm_call 42 #[.agg X.toArray, .agg Y.toArray] (by rfl) (fun w' => by go_simp) (fun w' h => (ha.out w').mono (fun _ _ ⟨e, hb⟩ => ⟨e, hS.out _ (h.2.2.trans (hb.mono h.2.2.size))⟩)) ?_
  try simp only [Act.put, List.setIfInBounds_toArray, List.set_cons_zero, List.set_cons_succ]
  refine calm_pure (v := ?cv157) (by rfl) (fun w' => ?ch157) ?cr157
  case ch157 => (go_simp; first | done | with_reducible rfl)
  try simp only [Act.put, List.setIfInBounds_toArray, List.set_cons_zero, List.set_cons_succ]
  intro w9 hm9
  go_wp2
  go_ret
  exact ⟨rfl, hm9.2.2⟩
end Go.Proofs.Ytgdlcfkgdaaooaa
