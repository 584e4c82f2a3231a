/- Stage 14, landed: a list's small calls: Of, Len, has, At, All. No condition but sizes. -/
import Derived.Test.YtkahohgbcnchiaaUnd
import Derived.Test.YtkahohgbcnchiaaMath
namespace Go.Proofs.Ytkahohgbcnchiaa
open Go.RowKit Wm

abbrev ListV (lg : Option Addr) := SlV csI 3 1 [.pointer lg]
abbrev ListO (lg : Option Addr) : Kind (List Int) := SlO csI 3 1 [.pointer lg]
theorem infoI : InfoK Try.prog 3 1 8 := InfoK.mk' (by kernel_rfl)
/-- The i-th item, and whether there is one. -/
def hasU (s : List Int) (i : Int) : Bool := decide (0 ≤ i ∧ i < (s.length : Int))
def atU (s : List Int) (i : Int) : Int := if hasU s i then s[i.toNat]?.getD 0 else 0
/-- A row of one's own that is new. -/
def NewRow (W W' : World) (v : Value) (s : List Int) : Prop := W'.ownsRow 0 3 1 v s.length (rowK csI s) ∧ (∀ k, v.ownBlock = some k → W.heap.size ≤ k) ∧ Below W.heap.size W W'
section
variable {W W' : World} {lg : Option Addr} {p : Nat} {v : Value} {s : List Int}
theorem ListV.cell (h : ListV lg W p v s) : W.cell? ⟨p, 1, none⟩ = some v := h.c0
theorem ListV.fz (h : ListV lg W p v s) : W.frozen? ⟨p, 1, none⟩ = false := h.fp
theorem ListV.log (h : ListV lg W p v s) : W.cell? ⟨p, 0, none⟩ = some (.pointer lg) := h.pr 0 _ rfl
set_option maxRecDepth 100000 in
theorem uOf_any (lg : Option Addr) (W : World) : Calls Try.prog 8 #[.pointer lg] W fun e W' => e = .returned (.pointer (some ⟨W.heap.size, 0, none⟩)) ∧ W.alloc (.cells #[.pointer lg, .slice none 0 0] 55) = W' := by
  go_enter Try.func8, Try.ntmps8
  go_wp2
  go_ret
  exact ⟨rfl, rfl⟩
set_option maxRecDepth 100000 in
theorem uLen_any (h : ListV lg W p v s) : Calls Try.prog 16 #[.pointer (some ⟨p, 0, none⟩)] W fun e W' => e = .returned (.int .i64 ((s.length : Nat) : Int)) ∧ W = W' := by
  have c0 := ListV.cell h
  have lp := h.lp
  rcases h.slice with ⟨rfl, rfl⟩ | ⟨g, c, rfl, -, -, -⟩
  · clear h
    go_enter Try.func16, Try.ntmps16
    go_wp2
    go_ret
    exact ⟨rfl, rfl⟩
  · clear h
    go_enter Try.func16, Try.ntmps16
    go_wp2
    go_ret
    exact ⟨rfl, rfl⟩
theorem uLen_nil (W : World) : Calls Try.prog 16 #[.pointer none] W fun e W' => e = .returned (.int .i64 0) ∧ W = W' := by
  go_enter Try.func16, Try.ntmps16
  go_wp2
  go_ret
  exact ⟨rfl, rfl⟩
set_option maxRecDepth 100000 in
theorem uHas_run {po : Option Addr} {n : Nat} (hl : Calls Try.prog 16 #[.pointer po] W fun e W' => e = .returned (.int .i64 (n : Int)) ∧ W = W') (i : Int) :
    Calls Try.prog 26 #[.pointer po, .int .i64 i] W fun e W' => e = .returned (.bool (decide (0 ≤ i ∧ i < (n : Int)))) ∧ W = W' := by
  by_cases h0 : 0 ≤ i
  · have ha : decide (0 ≤ i) = true := decide_eq_true h0
    have hr : decide (0 ≤ i ∧ i < (n : Int)) = decide (i < (n : Int)) := decide_eq_decide.2 ⟨fun x => x.2, fun x => ⟨h0, x⟩⟩
    rw [hr]
    replace hl := Lib.hid hl
    clear h0 hr
    go_enter Try.func26, Try.ntmps26
    go_wp2_with fail
    refine hl.out.mono ?_
    rintro e w1 ⟨rfl, rfl⟩
    clear hl
    go_wp2
    go_ret
    exact ⟨rfl, rfl⟩
  · have ha : decide (0 ≤ i) = false := decide_eq_false h0
    have hr : decide (0 ≤ i ∧ i < (n : Int)) = false := decide_eq_false (fun x => h0 x.1)
    rw [hr]
    clear h0 hr hl
    go_enter Try.func26, Try.ntmps26
    go_wp2
    go_ret
    exact ⟨rfl, rfl⟩
theorem uHas_any (h : ListV lg W p v s) (i : Int) : Calls Try.prog 26 #[.pointer (some ⟨p, 0, none⟩), .int .i64 i] W fun e W' => e = .returned (.bool (hasU s i)) ∧ W = W' := uHas_run (uLen_any h) i
theorem uHas_nil (i : Int) (W : World) : Calls Try.prog 26 #[.pointer none, .int .i64 i] W fun e W' => e = .returned (.bool false) ∧ W = W' := by
  have := uHas_run (n := 0) (uLen_nil W) i
  rwa [decide_eq_false (by omega)] at this
theorem csI_cell (h : W.ownsRow 0 3 1 v s.length (rowK csI s)) {i : Nat} (hi : i < s.length) : ∃ g c, v = .slice (some ⟨g, 0, none⟩) s.length c ∧ W.cell? ⟨g, i, none⟩ = some (.int .i64 s[i]) ∧ W.frozen? ⟨g, i, none⟩ = false ∧ g < W.heap.size := by
  rcases own_spot h with ⟨rfl, h0⟩ | ⟨g, c, rfl, hg, hnc, hcm, hc, hf⟩
  · omega
  · refine ⟨g, c, rfl, hc _ _ ?_, hf _, hg⟩
    have := rowK_at csIK s i 0 hi (by decide)
    rw [Nat.mul_one, Nat.add_zero] at this
    rw [this]; rfl
theorem run_idx_I (g n c i : Nat) (h : i < n) (w : World) : (Instr.indexAt 39 (.slice (some ⟨g, 0, none⟩) n c) (.int .i64 (i : Int))).run Try.prog w = .ok (.pointer (some ⟨g, i, none⟩)) w := by
  have := run_idx_K (P := Try.prog) (K := 1) (ty := 39) (e := 3) (by kernel_rfl) (by kernel_rfl) (by kernel_rfl) g 0 n c i h w
  rwa [Nat.zero_add, Nat.mul_one] at this
set_option maxRecDepth 100000 in
theorem uAt_any (h : ListV lg W p v s) (i : Int) : Calls Try.prog 13 #[.pointer (some ⟨p, 0, none⟩), .int .i64 i] W fun e W' => e = .returned (.tuple #[.int .i64 (atU s i), .bool (hasU s i)]) ∧ W = W' := by
  have hh := Lib.hid (uHas_any h i)
  have c0 := ListV.cell h
  have lp := h.lp
  unfold atU
  by_cases hi : hasU s i = true
  · rw [hi] at hh ⊢
    rw [if_pos rfl]
    have hi2 := of_decide_eq_true hi
    obtain ⟨n, rfl⟩ := Int.eq_ofNat_of_zero_le hi2.1
    have hn : n < s.length := by omega
    obtain ⟨g, c, rfl, hcell, -, hg⟩ := csI_cell h.own hn
    have ev : s[((n : Nat) : Int).toNat]?.getD 0 = s[n] := by rw [Int.toNat_natCast, List.getElem?_eq_getElem hn]; rfl
    rw [ev]
    have hidx := Lib.hid (fun w => run_idx_I g s.length c n hn w)
    clear h hi hi2 ev
    generalize s[n] = x at *
    generalize s.length = m at *
    go_enter Try.func13, Try.ntmps13
    go_wp2_with fail
    refine hh.out.mono ?_
    rintro e w1 ⟨rfl, rfl⟩
    clear hh
    go_wp2_with (refine wpList_index_run rfl _ _ _ rfl (.slice (some ⟨g, 0, none⟩) m c) (.int .i64 (n : Int)) _ rfl rfl (hidx.out _) ?_)
    go_ret2
    exact ⟨rfl, rfl⟩
  · have hi : hasU s i = false := by simpa using hi
    rw [hi] at hh ⊢
    clear h
    go_enter Try.func13, Try.ntmps13
    go_wp2_with fail
    refine hh.out.mono ?_
    rintro e w1 ⟨rfl, rfl⟩
    clear hh
    go_wp2
    go_ret2
    exact ⟨rfl, rfl⟩
theorem uAt_nil (i : Int) (W : World) : Calls Try.prog 13 #[.pointer none, .int .i64 i] W fun e W' => e = .returned (.tuple #[.int .i64 0, .bool false]) ∧ W = W' := by
  have hh := Lib.hid (uHas_nil i W)
  go_enter Try.func13, Try.ntmps13
  go_wp2_with fail
  refine hh.out.mono ?_
  rintro e w1 ⟨rfl, rfl⟩
  clear hh
  go_wp2
  go_ret2
  exact ⟨rfl, rfl⟩
/-- A new row of what stands somewhere. -/
theorem app_fresh (W : World) (m : List Int) (hm : m.length ≤ 100000) (a : Addr) (c : Nat) (ha : a.block < W.heap.size) (hsrc : ∀ j u, (rowK csI m)[j]? = some u → W.cell? (a.add j) = some u) :
    ∃ v' w', (Builtin.append_ #[39, 39] 39 #[.slice (some ⟨W.heap.size, 0, none⟩) 0 0, .slice (some a) m.length c]).run Try.prog (W.alloc (.cells #[] 3)) = .ok v' w' ∧ NewRow W w' v' m ∧ v'.ownBlock ≠ none := by
  have hbl : Below W.heap.size W (W.alloc (.cells #[] 3)) := (Below.refl _ _).alloc (Nat.le_refl _) _
  have hown : (W.alloc (.cells #[] 3)).ownsRow 0 3 1 (.slice (some ⟨W.heap.size, 0, none⟩) 0 0) ([] : List Int).length (rowK csI []) :=
    ⟨rfl, .inr ⟨W.heap.size, 0, #[], rfl, Nat.zero_le _, by show (W.heap.push _)[W.heap.size]? = _; rw [Array.getElem?_push_size], Nat.le_refl _, Nat.zero_le _, rfl, rfl⟩⟩
  have hadd : ∀ (a : Addr) j, (a.add j).block = a.block := fun a j => by unfold Addr.add; split <;> rfl
  obtain ⟨v', w', r1, o1, g1, d1⟩ := app_rowK (P := Try.prog) (ty := 39) csIK (by kernel_rfl) infoI (W.alloc (.cells #[] 3)) (.slice (some ⟨W.heap.size, 0, none⟩) 0 0) [] m hown a c (fun j u hj => by
    rw [hbl.cell (p := a.add j) (by rw [hadd]; exact ha)]
    exact hsrc j u hj) (by simp only [List.length_nil]; omega) (by decide)
  rw [List.nil_append] at o1
  have hO : Only (fun _ => False) W w' := (Only.of_below (F := fun _ => False) hbl).trans (Only.of_grown (F := fun k => k = W.heap.size) g1 (fun k _ hk => (Option.some.inj hk).symm)) (fun j hj hf => by omega)
  refine ⟨v', w', r1, ⟨o1, fun k hk => ?_, hO.to_below (Nat.le_refl _) (fun _ e => e.elim)⟩, fun e => ?_⟩
  · rcases d1 with e | e
    · have : some W.heap.size = some k := e.symm.trans hk
      injection this with this
      omega
    · have : some (W.alloc (.cells #[] 3)).heap.size = some k := e.symm.trans hk
      injection this with this
      rw [← this]
      exact hbl.size
  · rcases d1 with e2 | e2
    · rw [e] at e2; cases e2
    · rw [e] at e2; cases e2
set_option maxRecDepth 100000 in
set_option maxHeartbeats 1000000 in
theorem uClone_any (h : W.ownsRow 0 3 1 v s.length (rowK csI s)) (hs : s.length ≤ 100000) : Calls Try.prog 27 #[v] W fun e W' => ∃ v', e = .returned v' ∧ NewRow W W' v' s := by
  rcases own_spot h with ⟨rfl, h0⟩ | ⟨g, c, rfl, hg, hnc, hcm, hc, hf⟩
  · have hfin : NewRow W W (.slice none 0 0) s := ⟨by rw [List.eq_nil_of_length_eq_zero h0]; exact ⟨rfl, .inl ⟨rfl, rfl⟩⟩, fun k e => (by cases e), Below.refl _ _⟩
    replace hfin := Lib.hid hfin
    rw [h0] at *
    clear h hs h0
    have hnil := fun w => Lib.run_eql_slice_nil (P := Try.prog) w 39 3 none 0 0 0 0 (by kernel_rfl)
    go_enter Try.func27, Try.ntmps27
    go_wp2
    go_ret
    exact ⟨_, rfl, hfin.out⟩
  · obtain ⟨v', w', hr, hn, -⟩ := app_fresh W s hs ⟨g, 0, none⟩ c hg (fun j u hj => by rw [Addr.add_mid, Nat.zero_add]; exact hc j u hj)
    replace hn := Lib.hid hn
    replace hr := Lib.hid hr
    clear h hc hf hcm hnc hg hs
    generalize s.length = n at *
    have hnil := fun w => Lib.run_eql_slice_nil (P := Try.prog) w 39 3 (some ⟨g, 0, none⟩) n c 0 0 (by kernel_rfl)
    go_enter Try.func27, Try.ntmps27
    go_wp2_with (at_builtin; refine Lib.wpList_append_run _ rfl _ _ _ _ rfl _ _ rfl rfl _ _ hr.out ?_)
    go_ret
    exact ⟨_, rfl, hn.out⟩
set_option maxRecDepth 100000 in
theorem uAll_any (h : ListV lg W p v s) (hs : s.length ≤ 100000) : Calls Try.prog 15 #[.pointer (some ⟨p, 0, none⟩)] W fun e W' => ∃ v', e = .returned v' ∧ NewRow W W' v' s := by
  have hc := Lib.hid (uClone_any h.own hs)
  have c0 := ListV.cell h
  have lp := h.lp
  clear h
  go_enter Try.func15, Try.ntmps15
  go_wp2_with fail
  refine hc.out.mono ?_
  rintro e w1 ⟨v', rfl, hn⟩
  replace hn := Lib.hid hn
  clear hc
  go_wp2
  go_ret
  exact ⟨_, rfl, hn.out⟩
theorem uAll_nil (W : World) : Calls Try.prog 15 #[.pointer none] W fun e W' => e = .returned (.slice none 0 0) ∧ W = W' := by
  go_enter Try.func15, Try.ntmps15
  go_wp2
  go_ret
  exact ⟨rfl, rfl⟩
end
end Go.Proofs.Ytkahohgbcnchiaa
