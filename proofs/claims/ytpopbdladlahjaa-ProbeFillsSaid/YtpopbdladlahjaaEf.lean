/- The landed table: all its names laid anew. No condition but sizes. -/
import Derived.Test.YtpopbdladlahjaaEe
namespace Go.Proofs.Ytpopbdladlahjaa
open Go.RowKit Go.Sort Wm

/-- What is known behind it. -/
def AnewPost (W : World) (p g : Nat) (m : Tbl) (names : Nat) (W' : World) : Prop :=
  ∃ (g' : Nat) (cs' : List Cl) (used' : Nat), PtV W' p g' cs' names used' ∧ CellsOk startZ cs' m names used' ∧ used' < cs'.length ∧ Only (footP p g) W W' ∧ W.heap.size ≤ g'
/-- How many cells: a power of two. -/
def SizeIs (s : Nat) : Prop := ∃ b, 4 ≤ b ∧ b ≤ 13 ∧ s = 2 ^ b
theorem SizeIs.first : SizeIs 16 := ⟨4, by omega, by omega, rfl⟩
theorem SizeIs.twice {s : Nat} (h : SizeIs s) (hs : s < 4096) : SizeIs (s * 2) := by
  obtain ⟨b, h1, h2, rfl⟩ := h
  refine ⟨b + 1, by omega, ?_, (Nat.pow_succ ..).symm⟩
  have : b < 12 := by
    refine (Nat.pow_lt_pow_iff_right (a := 2) (by omega)).1 ?_
    exact hs
  omega
theorem SizeIs.most {s : Nat} (h : SizeIs s) : 16 ≤ s ∧ s ≤ 8192 := by
  obtain ⟨b, h1, h2, rfl⟩ := h
  exact ⟨Nat.pow_le_pow_right (n := 2) (by omega) h1, Nat.pow_le_pow_right (n := 2) (by omega) h2⟩
/-- So far: the first j cells' names. -/
structure Anew (W wr : World) (p g g' : Nat) (cs : List Cl) (N names j : Nat) (cs' : List Cl) (names' used' : Nat) : Prop where
  tab : PtV wr p g' cs' names' used'
  ok : CellsOk startZ cs' (laidT cs j) names' used'
  len : cs'.length = N
  few : used' ≤ names'
  old : OldRow wr g cs
  only : Only (footP p g) W wr
theorem Anew.later {W wr w2 : World} {p g g' : Nat} {cs cs' : List Cl} {N names j names' used' : Nat} (h : Anew W wr p g g' cs N names j cs' names' used') (hb : Below wr.heap.size wr w2) : Anew W w2 p g g' cs N names j cs' names' used' :=
  ⟨h.tab.later hb, h.ok, h.len, h.few, h.old.only (G := fun _ => False) (Only.of_below hb) (fun e => e), h.only.later hb⟩
section
variable {W : World} {p g : Nat} {cs : List Cl} {names used : Nat} {m : Tbl}
set_option maxRecDepth 100000 in
set_option maxHeartbeats 4000000 in
theorem tbAnew_any (h : PtV W p g cs names used) (hC : CellsOk startZ cs m names used) (hfewN : names ≤ 1000) :
    Calls Try.prog 19 #[.pointer (some ⟨p, 0, none⟩)] W fun e W' => e = .returned (.tuple #[]) ∧ AnewPost W p g m names W' := by
  have c0 := h.c0
  have c1 := h.c1
  have lp := h.lp
  have hn8 := hC.pos.2
  have hmk := Lib.hid (fun N hN => make_cellsE N hN W)
  have hV := Lib.hid h
  replace hC := Lib.hid hC
  clear h
  go_enter Try.func19, Try.ntmps19
  go_wp2
  go_loop [3] (fun sv => ∃ s : Nat, sv = .int .i64 s ∧ SizeIs s) (fun sv => 10000 - (RowKit.intOf sv).toNat)
  case atStart => exact ⟨16, rfl, SizeIs.first⟩
  case round =>
    obtain ⟨s, rfl, hs⟩ := hrel
    have hsm := hs.most
    by_cases hlt : s < 4 * (names + 1)
    · have hs2 := Lib.hid (hs.twice (by omega))
      have hltI : ((s : Nat) : Int) < 4 * ((names : Int) + 1) := by omega
      replace hs := Lib.hid hs
      go_wp2
      go_round
      case rel => exact ⟨s * 2, by go_num, hs2.out⟩
      case measure => simp [RowKit.intOf]; omega
    · have hltI : ¬ ((s : Nat) : Int) < 4 * ((names : Int) + 1) := by omega
      obtain ⟨hm1, hm2⟩ := hsm
      replace hs := Lib.hid hs
      have hth := Lib.hid ((hV.out.later ((Below.refl _ _).alloc (Nat.le_refl _) (.cells (blankE s) 51))).there3)
      have hA := Lib.hid (show Anew W ((W.alloc (.cells (blankE s) 51)).setCells p 0 [.slice (some ⟨W.heap.size, 0, none⟩) s s, .int .i64 0, .int .i64 0]) p g W.heap.size cs s names 0 (List.replicate s ⟨0, 0, 0⟩) 0 0 by
        obtain ⟨b, h1, h2, h3⟩ := hs.out
        have hal : Below W.heap.size W (W.alloc (.cells (blankE s) 51)) := (Below.refl _ _).alloc (Nat.le_refl _) _
        refine ⟨hV.out.blank s, CellsOk.blank h1 h2 h3, List.length_replicate, Nat.le_refl _, ?_, ?_⟩
        · refine ((⟨hV.out.row, hV.out.lg⟩ : OldRow W g cs).only (G := fun _ => False) (Only.of_below hal) (fun e => e)).only (G := fun k => k = p) (Only.setCells (F := fun k => k = p) (fun _ => rfl) _ _ _ (Only.refl (fun k => k = p) _)) (fun e => hV.out.ne e.symm)
        · exact Only.setCells (fun _ => .inl rfl) _ _ _ (Only.of_below hal))
      have hmk1 := Lib.hid (hmk.out s hm2)
      have hi48 := Lib.hid (show (Try.prog.info? 48).map (·.size) = some (#[Value.slice (some ⟨W.heap.size, 0, none⟩) s s, Value.int .i64 0, Value.int .i64 0] : Array Value).size by kernel_rfl)
      have hone := Lib.hid (show (#[Value.slice (some ⟨W.heap.size, 0, none⟩) s s, Value.int .i64 0, Value.int .i64 0] : Array Value).all (·.oneCell') = true by simp [Value.oneCell'])
      have hgp := Lib.hid hV.out.ne
      have hgl := Lib.hid hV.out.lg
      clear hmk hs hV
      go_upto_region 5 with (first | (refine wpList_make_run _ rfl _ _ _ rfl _ _ rfl rfl _ _ hmk1.out ?_) | (refine wpList_store_mid rfl _ _ _ rfl p 0 #[.slice (some ⟨W.heap.size, 0, none⟩) s s, .int .i64 0, .int .i64 0] rfl rfl hth.out hi48.out hone.out ?_))
      try dsimp only [Act.put]
      generalize hW2 : (W.alloc (.cells (blankE s) 51)).setCells p 0 [.slice (some ⟨W.heap.size, 0, none⟩) s s, .int .i64 0, .int .i64 0] = W2 at *
      change Code.wp _ _ _ _ W2
      clear hW2 hth hmk1 hi48 hone c0 c1 lp hltI
      go_wp2
      go_loopw [27] (fun iv wr => ∃ (j : Nat) (cs' : List Cl) (names' used' : Nat), j ≤ cs.length ∧ iv = .int .i64 j ∧ Anew W wr p g W.heap.size cs s names j cs' names' used') (fun iv _ => (cs.length - RowKit.intOf iv).toNat)
      case atStart => exact ⟨0, _, 0, 0, by omega, rfl, hA.out⟩
      case round =>
        clear hA
        obtain ⟨j, cs', names', used', hj, rfl, hA⟩ := hrel
        have hnn : names' ≤ names := by rw [hA.ok.len]; exact hC.out.laid_few
        have huu : used' < cs'.length := by rw [hA.len]; have := hA.few; omega
        by_cases hjl : j < cs.length
        · have hjI : ((j : Nat) : Int) < ((cs.length : Nat) : Int) := by omega
          obtain ⟨c, hc⟩ : ∃ c, cs[j]? = some c := ⟨_, List.getElem?_eq_getElem hjl⟩
          have hr := Lib.hid (hA.old.row j c hc)
          have hix := Lib.hid (run_idx_cell g cs.length cs.length j hjl)
          have hkb := (hC.out.kinds c (List.mem_of_getElem? hc)).2
          have hba : Below wr.heap.size wr (wr.alloc (.cells (cellsK c).toArray 51)) := (Below.refl _ _).alloc (Nat.le_refl _) _
          have hA3 := Lib.hid (hA.later hba)
          have bq3 := BoxAt.new wr (cellsK c) 51
          have q0 := Lib.hid (bq3.spot 0 _ rfl)
          have q1 := Lib.hid (bq3.spot 1 _ rfl)
          have q2 := Lib.hid (bq3.spot 2 _ rfl)
          have q3 := Lib.hid (bq3.spot 3 _ rfl)
          have ql := Lib.hid (bq3.lt)
          try dsimp only at q0 q1 q2 q3
          have hMi := Lib.hid (show (Try.prog.info? 51).map (·.size) = some (cellsK c).length by rw [cellsK_length]; kernel_rfl)
          have hM1 := Lib.hid (all_oneCell_toArray (cellsK_one c))
          have hMl := Lib.hid (cellsK_length c)
          replace hc := Lib.hid hc
          clear hba bq3 hA
          generalize cellsK c = M at *
          have hst : ∀ w0 : World, (storeCells ⟨w0.heap.size, 0, none⟩ M 0).run Try.prog (w0.alloc (.cells #[.int .i64 0, .int .u64 0, .int .u64 0, .int .i64 0] 51)) = .ok () (w0.alloc (.cells M.toArray 51)) :=
            fun w0 => run_storeCells_new (P := Try.prog) w0 51 _ M.toArray (by rw [List.size_toArray]; exact hMi.out) (show (4 : Nat) = _ from ((List.size_toArray ..).trans hMl.out).symm) hM1.out
          go_upto_region 8 with (first | (refine wpList_index_run rfl _ _ _ rfl (.slice (some ⟨g, 0, none⟩) cs.length cs.length) (.int .i64 (j : Int)) _ rfl rfl (hix.out _) ?_) | (refine wpList_load_midg rfl _ _ rfl g (j * 4) rfl M _ hr.out Try.underlying51 rfl hMi.out ?_))
          clear hst hr hMi hM1 hMl hix
          generalize wr.alloc (.cells M.toArray 51) = W3 at *
          generalize wr.heap.size = q at *
          replace q0 := q0.out
          replace q1 := q1.out
          replace q2 := q2.out
          replace q3 := q3.out
          replace ql := ql.out
          by_cases h2 : c.kind = 2
          · have hnx := Lib.hid (hC.out.laid_next hc.out h2)
            have hlay := Lib.hid (tbLay_any hA3.out.tab hA3.out.ok huu c.name hkb c.plc)
            rw [h2] at q0
            replace q0 : W3.cell? ⟨q, 0, none⟩ = some (.int .i64 2) := q0
            clear h2 hc hkb
            generalize (!(getT (laidT cs j) c.name).isSome) = bo at *
            go_wp2_with fail
            refine hlay.out.mono ?_
            rintro e W4 ⟨rfl, cs2, names2, used2, k1, k2, k3, k4, k5⟩
            have hAn := Lib.hid (show Anew W W4 p g W.heap.size cs s names (j + 1) cs2 names2 used2 from
              ⟨k1, by rw [hnx.out]; exact k3, k2.trans hA3.out.len, by have := hA3.out.few; omega,
                hA3.out.old.only k5 (fun e => by
                  rcases e with e | e
                  · exact hgp.out e.symm
                  · have := hgl.out; omega),
                hA3.out.only.trans k5 (fun i hi e => by
                  rcases e with e | e
                  · exact .inl e
                  · omega)⟩)
            clear k1 k2 k3 k4 k5 hlay hA3 q0 q1 q2 q3 ql hnx
            go_wp2_with fail
            exact ⟨⟨j + 1, _, _, _, by omega, by go_num, hAn.out⟩, by simp [RowKit.intOf]; omega⟩
          · have hq2 : (((c.kind : Nat) : Int) == 2) = false := by
              rw [beq_eq_false_iff_ne]
              omega
            have hAn := Lib.hid (show Anew W W3 p g W.heap.size cs s names (j + 1) cs' names' used' from
              ⟨hA3.out.tab, by rw [laidT_skip hc.out h2]; exact hA3.out.ok, hA3.out.len, hA3.out.few, hA3.out.old, hA3.out.only⟩)
            clear h2 hc hkb hA3
            generalize c.kind = kd at *
            go_wp2_with fail
            exact ⟨⟨j + 1, _, _, _, by omega, by go_num, hAn.out⟩, by simp [RowKit.intOf]; omega⟩
        · obtain rfl : j = cs.length := by omega
          have hok := hC.out.anew hA.ok
          have hfin := Lib.hid (show AnewPost W p g m names wr from ⟨W.heap.size, cs', used', by
            have e : names' = names := hA.ok.len.trans (by rw [laidT_length, List.take_length]; exact hC.out.taken.symm)
            rw [← e]; exact hA.tab, hok, huu, hA.only, Nat.le_refl _⟩)
          clear hok hA
          go_wp2
          go_end0
          exact ⟨rfl, hfin.out⟩
end
end Go.Proofs.Ytpopbdladlahjaa
