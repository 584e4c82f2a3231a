/- WireCuts holds: for every input the law returns true, and each argument reads behind the call as it read before. Conditions: none. -/
import Derived.Test.YtcailaeebheaoaaZWqy
import Derived.ProofKit
import Derived.OpenShut
import Derived.ShutString
import Derived.ChangeOld
import Derived.Below
import Derived.Lib.SmallJoins
import Derived.SizedLaws
namespace Go.Proofs.Ytcailaeebheaoaa
open Go.RowKit Go.Sort Wm Cr

theorem str_to2 (s : ByteArray) (n : Nat) (h : n ≤ s.size) (W : World) :
    (Instr.sliceAt 9 (.string s) none (some (.int .i64 ((n : Nat) : Int))) none).run Try.prog W = .ok (.string (s.extract 0 n)) W := by
  rw [run_sliceAt_string _ _ _ _ _ _ Try.underlying9, run_slice_string_h _ _ _ Try.underlying9 _ _ (by omega) (by omega)]
  simp
theorem readNone_any (t : ByteArray) (ht : t.size ≤ 16384) (hn : readQ t = none) (W : World) : Calls Try.prog 14 #[.string t] W
    fun e w2 => e = .returned (.tuple #[bareV, .int .i64 4]) ∧ Below W.heap.size W w2 := by
  refine (wireRead_any t ht W).mono ?_
  rintro e w2 ⟨h1, hb⟩
  rcases h1 with ⟨q, sl, h2, -⟩ | ⟨-, h2⟩
  · rw [hn] at h2; cases h2
  · exact ⟨h2, hb⟩
theorem place_cut (a : Int) (n : Nat) (hn : n ≤ 4096) (h0' : 0 < n) : ∃ k : Nat, k < n ∧ wrap64 ((IntKind.u64.wrap a).tmod ((n : Nat) : Int)) = ((k : Nat) : Int) := by
  have h0 : 0 ≤ IntKind.u64.wrap a := by simp [IntKind.wrap, IntKind.bits, IntKind.signed]; omega
  obtain ⟨u, hu⟩ := Int.eq_ofNat_of_zero_le h0
  have := Nat.mod_lt u h0'
  refine ⟨u % n, this, ?_⟩
  rw [hu, Int.tmod_eq_emod_of_nonneg (Int.natCast_nonneg u), ← Int.natCast_emod]
  generalize u % n = z at *
  unfold wrap64
  omega
set_option maxRecDepth 100000 in
set_option maxHeartbeats 8000000 in
theorem wireCuts_any (q : Req) (sl : Reqs) (hq : q.Wf) (cut : Int) (_hc : -9223372036854775808 ≤ cut ∧ cut ≤ 9223372036854775807) (more : ByteArray) (hm : more.size ≤ 140737488351232) (W : World) (hat : ReqAt W q sl) :
    Calls Try.prog 7 #[reqV q sl, .int .i64 cut, .string more] W fun e w2 => e = .returned (.bool true) ∧ Below W.heap.size W w2 := by
  have ha := Lib.hid wireAlive_any
  have hal := Lib.hid (fun (W' : World) (hb : Below W.heap.size W W') => hat.later hb)
  have kgr := Lib.hid (fun w h => wgreat_any q sl w h)
  have kg := Lib.hid (fun w h => refGood22_any q sl w h)
  have kdb := Lib.hid (fun hg w h => refBytes22_any q sl w h hg)
  have hszB := Lib.hid (fun hg => reqB_size q hg)
  have hpos : 1 ≤ (reqB q).size := by unfold reqB; rw [ByteArray.size_append, intB_size, show sizeK 1 = 1 from rfl]; omega
  have hmo := Lib.hid (fun hg hm => read_more q hq hg more hm)
  have hle := Lib.hid (fun hg i hi => read_less q hq hg i hi)
  generalize reqB q = B at *
  generalize goodQ q = gq at *
  obtain ⟨w1, hw1⟩ : ∃ w1, w1 = W.alloc (.cells (q.cells sl).toArray 31) := ⟨_, rfl⟩
  have hbx := Lib.hid (show BoxAt w1 W.heap.size (q.cells sl) by rw [hw1]; exact BoxAt.new W (q.cells sl) _)
  have hW := Lib.hid (fun w' (hb : Below w1.heap.size w1 w') => (show Below W.heap.size W w' from ((by rw [hw1]; exact (Below.refl _ _).alloc (Nat.le_refl _) _ : Below W.heap.size W w1)).trans (hb.mono (by rw [hw1]; simp))))
  have hcs := Lib.hid (fun wx b (h : BoxAt wx b (q.cells sl)) => h.req)
  clear hat hq
  obtain ⟨op, acs, ts, now, ids, ⟨ac, fr, tt, db, cr, la, li⟩⟩ := q
  obtain ⟨sA, sAc, sT, sTc, sI, sIc⟩ := sl
  unfold reqV at kgr kg kdb
  unfold reqV
  dsimp only at *
  unfold Req.cells at hw1
  generalize decide (100 < acs.length + ts.length + ids.length) = gr at *
  replace hw1 := Lib.hid hw1
  have hb : Below w1.heap.size w1 w1 := Below.refl _ _
  go_enter Try.func7, Try.ntmps7
  go_wp2_with fail
  rw [← hw1.out]
  clear hw1
  obtain ⟨z0, z1, z2, z3, z4, z5, z6, z7, z8, z9, z10, z11, z12, zl⟩ := hcs.out _ _ hbx.out
  try dsimp only at z0 z1 z2 z3 z4 z5 z6 z7 z8 z9 z10 z11 z12 zl
  refine (ha.out _).mono ?_
  rintro e w2 ⟨rfl, hbn⟩
  replace hb := hb.trans (hbn.mono hb.size)
  clear z0 z1 z2 z3 z4 z5 z6 z7 z8 z9 z10 z11 z12 zl hbn
  obtain ⟨z0, z1, z2, z3, z4, z5, z6, z7, z8, z9, z10, z11, z12, zl⟩ := hcs.out _ _ (hbx.out.later hb)
  try dsimp only at z0 z1 z2 z3 z4 z5 z6 z7 z8 z9 z10 z11 z12 zl
  go_wp2_with fail
  refine (kgr.out _ (hal.out _ (hW.out _ hb))).mono ?_
  rintro e w3 ⟨rfl, hbn⟩
  replace hb := hb.trans (hbn.mono hb.size)
  clear z0 z1 z2 z3 z4 z5 z6 z7 z8 z9 z10 z11 z12 zl hbn
  obtain ⟨z0, z1, z2, z3, z4, z5, z6, z7, z8, z9, z10, z11, z12, zl⟩ := hcs.out _ _ (hbx.out.later hb)
  try dsimp only at z0 z1 z2 z3 z4 z5 z6 z7 z8 z9 z10 z11 z12 zl
  cases gr with
  | true =>
    have hfin := Lib.hid (hW.out _ hb)
    clear z0 z1 z2 z3 z4 z5 z6 z7 z8 z9 z10 z11 z12 zl
    go_wp2
    go_ret
    exact ⟨rfl, hfin.out⟩
  | false =>
    go_wp2_with fail
    refine (kg.out _ (hal.out _ (hW.out _ hb))).mono ?_
    rintro e w4 ⟨rfl, hbn⟩
    replace hb := hb.trans (hbn.mono hb.size)
    clear z0 z1 z2 z3 z4 z5 z6 z7 z8 z9 z10 z11 z12 zl hbn
    obtain ⟨z0, z1, z2, z3, z4, z5, z6, z7, z8, z9, z10, z11, z12, zl⟩ := hcs.out _ _ (hbx.out.later hb)
    try dsimp only at z0 z1 z2 z3 z4 z5 z6 z7 z8 z9 z10 z11 z12 zl
    cases gq with
    | false =>
      have hfin := Lib.hid (hW.out _ hb)
      clear z0 z1 z2 z3 z4 z5 z6 z7 z8 z9 z10 z11 z12 zl
      go_wp2
      go_ret
      exact ⟨rfl, hfin.out⟩
    | true =>
      by_cases hm1 : 100 < more.size
      · have m1 : decide (100 < ((more.size : Nat) : Int)) = true := decide_eq_true (by omega)
        have hfin := Lib.hid (hW.out _ hb)
        clear z0 z1 z2 z3 z4 z5 z6 z7 z8 z9 z10 z11 z12 zl
        go_wp2
        go_ret
        exact ⟨rfl, hfin.out⟩
      have m1 : decide (100 < ((more.size : Nat) : Int)) = false := decide_eq_false (by omega)
      by_cases hm0 : more = ⟨#[]⟩
      · subst hm0
        have hfin := Lib.hid (hW.out _ hb)
        clear z0 z1 z2 z3 z4 z5 z6 z7 z8 z9 z10 z11 z12 zl
        go_wp2
        go_ret
        exact ⟨rfl, hfin.out⟩
      have hms : 0 < more.size := by
        rcases Nat.eq_zero_or_pos more.size with h | h
        · exact (hm0 (ByteArray.size_eq_zero_iff.1 h)).elim
        · exact h
      have m0 : more.toList.isEmpty = false := by
        rw [empty_iff]
        show (true && decide (more.size = 0)) = false
        rw [decide_eq_false (by omega)]
        rfl
      clear hm0
      have hB : B.size ≤ 1000 := by first | exact hszB.out rfl | exact hszB.out trivial
      have hr1 : readQ (B ++ more) = none := by first | exact hmo.out rfl hms | exact hmo.out trivial hms
      obtain ⟨I, hI, hix⟩ := place_cut cut B.size (by omega) (by omega)
      have hr2 : readQ (B.extract 0 I) = none := by first | exact hle.out rfl _ hI | exact hle.out trivial _ hI
      have l2 := str_to2 B I (by omega)
      have hbI : (B.extract 0 I).size ≤ 1000 := by rw [ByteArray.size_extract]; omega
      have k1 := Lib.hid (fun W => readNone_any (B.extract 0 I) (by omega) hr2 W)
      have k2 := Lib.hid (fun W => readNone_any (B ++ more) (by rw [ByteArray.size_append]; omega) hr1 W)
      unfold bareV at k1 k2
      clear hr1 hr2
      generalize B.extract 0 I = C at *
      go_wp2_with fail
      refine (kdb.out (by first | exact rfl | exact trivial) _ (hal.out _ (hW.out _ hb))).mono ?_
      rintro e w5 ⟨rfl, hbn⟩
      replace hb := hb.trans (hbn.mono hb.size)
      clear z0 z1 z2 z3 z4 z5 z6 z7 z8 z9 z10 z11 z12 zl hbn
      obtain ⟨z0, z1, z2, z3, z4, z5, z6, z7, z8, z9, z10, z11, z12, zl⟩ := hcs.out _ _ (hbx.out.later hb)
      try dsimp only at z0 z1 z2 z3 z4 z5 z6 z7 z8 z9 z10 z11 z12 zl
      clear z0 z1 z2 z3 z4 z5 z6 z7 z8 z9 z10 z11 z12 zl
      have hf0 := Lib.hid (hW.out _ hb)
      clear hcs hbx hal hW hb
      go_wp2_with fail
      refine (k1.out _).mono ?_
      rintro e w6 ⟨rfl, hbn⟩
      have hf1 := Lib.hid (hf0.out.trans (hbn.mono hf0.out.size))
      have hf2 := Lib.hid (fun (cs : Array Value) (t : TypeId) => hf1.out.alloc hf1.out.size (.cells cs t))
      clear hf0 hbn
      go_wp2_with fail
      refine (k2.out _).mono ?_
      rintro e w7 ⟨rfl, hbn⟩
      have hf3 := Lib.hid (show Below W.heap.size W w7 by first | exact (hf2.out _ _).trans (hbn.mono (hf2.out _ _).size) | exact hf1.out.trans (hbn.mono hf1.out.size))
      clear hf1 hf2 hbn
      go_wp2
      go_ret
      exact ⟨by first | rfl | simp, by first | exact hf3.out | exact hf3.out.alloc hf3.out.size _⟩
end Go.Proofs.Ytcailaeebheaoaa
namespace Go.Proofs.Ytcailaeebheaoaa
namespace wireCuts
open Go.ChangeShapes Go.WideShapes Go.ChangeAt Go.WideMaps Go.WideElems Go.RowKit Go.Joins 
open Go.ChangeMaps (open_string shut_string)

theorem own : ownKnob Try.prog.godebug = none := by kernel_rfl
theorem laidOut : laidOutB Try.prog = true := by kernel_rfl
set_option maxRecDepth 100000 in
theorem lifted  (os : Os) (started : os.Started) (H : Type) (enc : TypeId × Value → H) :
    ReturnsInHanded {} Try.checked os 7 .any (Rows.wireCutsSpec.pre6 enc Try.prog Try.f7 Rows.wireCutsRow.domain false) (Rows.wireCutsSpec.post enc Try.prog Try.f7 false true false false) := by
  refine returnsInHanded_of_change_sized (C := Try.checked) own started (by kernel_rfl) Try.func7
    (ChangeSpec.witness6 (enc := enc) (C := Try.checked) false ⟨#[], #[.agg #[.int .i64 0, .slice none 0 0, .slice none 0 0, .int .i64 0, .slice none 0 0, .int .u64 0, .int .u64 0, .int .i64 0, .int .i64 0, .bool false, .bool false, .bool false, .int .i64 0], .int .i64 0, .string ⟨#[]⟩], []⟩ 8 (by kernel_rfl) (by kernel_rfl) (by kernel_rfl) (by kernel_rfl)) ?_
  intro W base args ds gs before hval0 hW hcnd hsz0 _
  have hval : ∀ (j : Nat) t v, Try.f7.params[j]? = some t → args[j]? = some v → Value.okWide Try.prog W .any base t v := hval0
  have hsz : (DataW.weightsEach Try.prog (Try.f7.params.toList ++ Rows.wireCutsSpec.plain.varTypes Try.prog) (ds ++ gs)).all (· ≤ reachBytes) = true := hsz0
  have hW' := hW
  obtain ⟨p, q, hA0, hV, rfl, hfz, hnd⟩ := hW
  have hA : DataW.TrodAll enc Try.prog W 0 (fun _ => true) true Try.f7.params.toList args.toList ds p := hA0
  rw [Try.params7] at hA hval hsz
  obtain ⟨v0, vs0, d0, ds0, p0, q0, hargs, rfl, rfl, h0, r0⟩ := trodAll_cons hA
  obtain ⟨v1, vs1, d1, ds1, p1, q1, rfl, rfl, rfl, h1, r1⟩ := trodAll_cons r0
  obtain ⟨v2, vs2, d2, ds2, p2, q2, rfl, rfl, rfl, h2, r2⟩ := trodAll_cons r1
  obtain ⟨rfl, rfl, rfl⟩ := trodAll_nil r2
  obtain rfl : args = #[v0, v1, v2] := by cases args; simp_all
  obtain ⟨rfl, rfl⟩ := trodVars_none hV
  have k0 := h0
  have lt0 : ∀ x ∈ p0, x.block < W.heap.size := by obtain ⟨m, hm⟩ := k0; exact DataW.trod_lt m _ _ _ hm
  have z0 : ∀ n ∈ d0.weights Try.prog 31, n ≤ reachBytes := fun n hn => by simpa using List.all_eq_true.1 hsz n (DataW.weights_mem_each (j := 0) rfl rfl n hn)
  obtain ⟨a0, s0, rfl, at0, wf0⟩ := reqv_open (hval 0 31 v0 rfl rfl) h0 z0
  have k1 := h1
  have lt1 : ∀ x ∈ p1, x.block < W.heap.size := by obtain ⟨m, hm⟩ := k1; exact DataW.trod_lt m _ _ _ hm
  have z1 : ∀ n ∈ d1.weights Try.prog 3, n ≤ reachBytes := fun n hn => by simpa using List.all_eq_true.1 hsz n (DataW.weights_mem_each (j := 1) rfl rfl n hn)
  obtain ⟨a1, rfl, _, _, b1⟩ := open_int Try.underlying3 (hval 1 3 v1 rfl rfl) h1
  replace b1 := bounds_i64 b1
  have k2 := h2
  have lt2 : ∀ x ∈ p2, x.block < W.heap.size := by obtain ⟨m, hm⟩ := k2; exact DataW.trod_lt m _ _ _ hm
  have z2 : ∀ n ∈ d2.weights Try.prog 9, n ≤ reachBytes := fun n hn => by simpa using List.all_eq_true.1 hsz n (DataW.weights_mem_each (j := 2) rfl rfl n hn)
  obtain ⟨a2, rfl, e2, _, _⟩ := open_string Try.underlying9 (hval 2 9 v2 rfl rfl) h2
  have b2 : a2.size ≤ 140737488351232 := by
    have := z2 a2.data.toList.length (by rw [e2]; simp [DataW.weights])
    have e : a2.data.toList.length = a2.size := rfl
    unfold reachBytes at this
    omega
  clear hA0 hval0
  refine (wireCuts_any a0 s0 wf0 a1 b1 a2 b2 W at0).mono fun e W' ⟨he, bel⟩ => ?_
  subst he
  exact ⟨_, rfl, _, _, _, [], _, [], hW', trodAll_mk1 (shut_bool Try.underlying4 _), (trodAll_cons_mk (Below.trod laidOut (by kernel_rfl) (of_decide_eq_true (by kernel_rfl)) k0 bel lt0) (trodAll_cons_mk (Below.trod laidOut (by kernel_rfl) (of_decide_eq_true (by kernel_rfl)) k1 bel lt1) (trodAll_cons_mk (Below.trod laidOut (by kernel_rfl) (of_decide_eq_true (by kernel_rfl)) k2 bel lt2) trodAll_mk0))), rfl, bel.frame _, fun h => by cases h⟩

theorem proved  : Rows.WireCutsSaid :=
  OpenClaim.holds_of_wide 7 Try.f7 rfl rfl rfl rfl rfl rfl rfl ⟨rfl, rfl, rfl, rfl, rfl⟩ rfl rfl rfl rfl rfl (by kernel_rfl) Try.func7 (by kernel_rfl)
    (of_decide_eq_true (by kernel_rfl)) (by unfold Func.isWrapper; first | (rw [if_pos (by decide +kernel)]; kernel_rfl) | (rw [if_neg (by decide +kernel)]; exact ⟨rfl, rfl⟩))
    (fun os started H enc _ => lifted  os started H enc)
#print axioms proved
end wireCuts
end Go.Proofs.Ytcailaeebheaoaa
