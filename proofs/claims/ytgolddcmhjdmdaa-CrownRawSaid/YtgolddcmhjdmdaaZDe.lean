/- The landed disk: a write. No condition but sizes. -/
import Derived.Test.YtgolddcmhjdmdaaZDd
import Derived.Test.YtgolddcmhjdmdaaZFork
import Derived.RegionTactic
import Derived.Deep.RegionLaw
namespace Go.Proofs.Ytgolddcmhjdmdaa
open Go.RowKit

/-- What a write leaves. -/
def WrotePost (W : World) (p a b : Nat) (v : Value) (n : Nat) (safe now : List ByteArray) (later : List (Nat × ByteArray)) (armed ops : Int) (W' : World) : Prop :=
  ∃ v', DkV W' p a b v' n safe now later armed ops ∧ Only (footD p a b v) W W' ∧ ∀ j, j < W.heap.size → footD p a b v' j → footD p a b v j
section
variable {W : World} {p a b n : Nat} {v : Value} {safe now : List ByteArray} {later : List (Nat × ByteArray)} {armed ops : Int}
set_option maxRecDepth 100000 in
set_option maxHeartbeats 1000000 in
theorem writeD_any (h : DkV W p a b v n safe now later armed ops) (k : Nat) (hk : k < n) (s : ByteArray) (hs : s.size ≤ 128) (hb : hasB n (k : Int) = true) (ho : 0 ≤ ops ∧ ops ≤ 1000000) (ha : 0 ≤ armed ∧ armed ≤ 9223372036854775807)  (hd : decide (armed ≠ 1) = true) (hl : later.length ≤ 1000) :
    Calls Try.prog 23 #[.pointer (some ⟨p, 0, none⟩), .int .i64 k, .string s] W fun e W' => e = .returned (.int .i64 0) ∧ WrotePost W p a b v n safe (now.set k (padB s)) (later ++ [(k, padB s)]) (max (armed - 1) 0) (ops + 1) W' := by
  have hh := Lib.hid (has_any h k)
  have ht := Lib.hid (tried_post h ho ha)
  rw [hb] at hh
  rw [hd] at ht
  clear hd hb
  have hs2 : ¬ (128 : Int) < (s.size : Int) := by omega
  have hlt := h.lt
  replace h := Lib.hid h
  go_enter Try.func23, Try.ntmps23
  go_wp2_with fail
  refine (hh.out).mono ?_
  rintro e w1 ⟨rfl, rfl⟩
  go_wp2_with fail
  refine (ht.out).mono ?_
  rintro e w2 ⟨rfl, hD2, hO2⟩
  clear hh ht ho ha
  obtain ⟨Z, hZ, hZ0, hZs, hZn, hi⟩ := zero_write
  have hZk := hZs k
  have hCn : ((cellsW (k, zerosB 128)).toArray).size = 129 := by rw [List.size_toArray, cellsW_length, zerosB_size]
  have hC1 : ((cellsW (k, zerosB 128)).toArray).all (·.oneCell') = true := all_oneCell_toArray (cellsW_one _)
  generalize hC : (cellsW (k, zerosB 128)).toArray = C at *
  replace hC := Lib.hid hC
  have r1 := run_storeCells_new (P := Try.prog) w2 78 Z C (by rw [hi, hCn]) (by rw [hZn, hCn]) hC1
  replace hZn := Lib.hid hZn
  replace hCn := Lib.hid hCn
  replace hi := Lib.hid hi
  replace hC1 := Lib.hid hC1
  clear hZs
  have hsl := sliceSec w2.heap.size 1
  have hcp := run_copy_string (P := Try.prog) (w2.alloc (.cells C 78)) 53 9 3 5 w2.heap.size 1 128 128 s Try.underlying53 (fun W => by kernel_rfl) hs
    (fun j hj => by rw [cell_of_row _ _ _ _ _ _ (heap_alloc_last w2 _), Array.getElem?_eq_getElem (by rw [hCn.out]; omega)]; rfl) (fun j hj => by simp [go_sem])
  rw [show (s.data.toList.map fun x => Value.int .u8 (x.toNat : Int)) = cellsB s from rfl, ← hC.out, write_laid w2 k s hs] at hcp
  rw [hC.out] at hcp
  go_wp2
  clear hcp hsl r1 hZ hZ0 hZk hZn hi hC hC1 hCn
  have hxs := padB_size s hs
  have hL := cellsB_length (padB s)
  rw [hxs] at hL
  have hlr := laid_range w2 k (padB s)
  have hl0 := laid_range0 w2 (cellsW (k, padB s)) 78
  have hD3 := hD2.alloc (.cells (cellsW (k, padB s)).toArray 78)
  have hb3 : Below w2.heap.size w2 (w2.alloc (.cells (cellsW (k, padB s)).toArray 78)) := (Below.refl _ _).alloc (Nat.le_refl _) _
  have hq3 : w2.heap.size < (w2.alloc (.cells (cellsW (k, padB s)).toArray 78)).heap.size := by simp
  have hqb : b < w2.heap.size := hD2.s1.lt
  generalize hW3 : w2.alloc (.cells (cellsW (k, padB s)).toArray 78) = W3 at *
  generalize hq : w2.heap.size = q at *
  replace hW3 := Lib.hid hW3
  replace hq := Lib.hid hq
  replace hxs := Lib.hid hxs
  have c1 := hD3.c1
  have hlt3 := hD3.lt
  have hlr1 : W3.drew.rangeAt q 1 (cellsB (padB s)) := (World.rangeAt_drew _ _ _ _).2 hlr
  replace hlr1 := Lib.hid hlr1
  have hth := hD3.drew.s1.there k (by rw [hD3.l1]; exact hk)
  replace hth := Lib.hid hth
  have hone := cellsB_one (padB s)
  replace hone := Lib.hid hone
  have hD4 := hD3.drew.sec1 k hk (padB s) hxs.out
  replace hlr := Lib.hid hlr
  replace hl0 := Lib.hid hl0
  replace hD3 := Lib.hid hD3
  replace hD2 := Lib.hid hD2
  replace hD4 := Lib.hid hD4
  replace hL := Lib.hid hL
  generalize cellsB (padB s) = L at *
  refine wp_region_still_tail 8 (by kernel_rfl) (by kernel_rfl) ?_
  simp only [List.take_succ_cons, List.take_zero, List.drop_succ_cons, List.drop_zero]
  change wpStill _ _ W3.drew _ _ _
  iterate 6 still_step
  refine still_load rfl _ _ rfl q 1 rfl L _ hlr1.out und_sec rfl (by rw [info_sec, hL.out]) ?_
  simp only [Act.put, List.setIfInBounds_toArray, List.set_cons_zero, List.set_cons_succ]
  still_step
  refine wpStill_nil ?_
  change wpList _ _ _ _ _ W3.drew
  refine wpList_store_mid rfl _ _ _ rfl b (k * 128) L.toArray rfl rfl (by rw [List.size_toArray, hL.out]; exact hth.out) (by rw [info_sec, List.size_toArray, hL.out]) (all_oneCell_toArray hone.out) ?_
  simp only [Act.put]
  have hO4 : Only (fun j => j = b) W3 (W3.drew.setCells b (k * 128) L) := (Only.of_below (F := fun j => j = b) ((Below.refl _ _).drew)).trans (Only.many W3.drew b (k * 128) L) (fun _ _ e => e)
  have hr4 : (W3.drew.setCells b (k * 128) L).rangeAt q 0 (cellsW (k, padB s)) := World.rangeAt_setCells_apart ((World.rangeAt_drew _ _ _ _).2 hl0.out) _ _ _ (.inl (by omega))
  have hq4 : q < (W3.drew.setCells b (k * 128) L).heap.size := by have := hO4.size; omega
  generalize hW4 : W3.drew.setCells b (k * 128) L = W4 at *
  clear hlr1 hone hth hlr hL hW4
  replace hr4 := Lib.hid ((World.rangeAt_drew _ _ _ _).2 hr4)
  have hM := cellsW_length (k, padB s)
  have hxs' : (padB s).size = 128 := hxs.out
  rw [show ((k, padB s) : Nat × ByteArray).2.size = 128 from hxs'] at hM
  replace hM := Lib.hid hM
  obtain ⟨g, cap, w5, hrun, hown, hgr, hat⟩ := app_write W4.drew v later hD4.out.drew.o2 (k, padB s) hxs' (by omega)
  clear hxs'
  have hO5 : Only (fun j => v.ownBlock = some j) W4 w5 := ((Only.of_below (F := fun j => v.ownBlock = some j) ((Below.refl _ _).drew)).trans (Only.of_below ((Below.refl _ _).alloc (Nat.le_refl _) _)) (fun _ _ e => e)).trans (Only.of_grown (F := fun j => v.ownBlock = some j) hgr (fun j _ hj => hj)) (fun _ _ e => e)
  have hat2 : ∀ j, (Value.slice (some ⟨g, 0, none⟩) (later.length + 1) cap).ownBlock = some j → v.ownBlock = some j ∨ W4.heap.size ≤ j := fun j hj => by
    have hj2 : g = j := by simpa [Value.ownBlock] using hj
    subst hj2
    rcases hat with e | e
    · left; exact e
    · right; rw [e]; show W4.heap.size ≤ W4.heap.size + 1; omega
  have hD6 := hD4.out.row2 (W' := w5) (v' := .slice (some ⟨g, 0, none⟩) (later.length + 1) cap) (l := later ++ [(k, padB s)]) hO5 hown hat2
  have c2 := hD4.out.c2
  have c2d : W4.drew.cell? ⟨p, 2, none⟩ = some v := hD4.out.drew.c2
  have c2a : (W4.drew.alloc (.cells (cellsW (k, padB s)).toArray 78)).cell? ⟨p, 2, none⟩ = some v := (hD4.out.drew.alloc _).c2
  have lt4 := hD4.out.lt
  have c2' : w5.cell? ⟨p, 2, none⟩ = some v := by rw [hO5.cell (p := ⟨p, 2, none⟩) hD4.out.lt hD4.out.vp]; exact c2
  have f2' : w5.frozen? ⟨p, 2, none⟩ = false := by rw [hO5.frozen (p := ⟨p, 2, none⟩) hD4.out.lt hD4.out.vp]; exact hD4.out.fz 2
  have lt5 : p < w5.heap.size := Nat.lt_of_lt_of_le lt4 hO5.size
  have h' := h.out
  have hfin : WrotePost W p a b v n safe (now.set k (padB s)) (later ++ [(k, padB s)]) (max (armed - 1) 0) (ops + 1) (w5.setCell ⟨p, 2, none⟩ (.slice (some ⟨g, 0, none⟩) (later.length + 1) cap)) := by
    refine ⟨_, hD6, ?_, fun j hj hf => ?_⟩
    · have s1 : W.heap.size ≤ w2.heap.size := hO2.size
      have s2 : w2.heap.size ≤ W3.heap.size := hb3.size
      have s3 := hO4.size
      have x1 : Only (footD p a b v) W w2 := hO2.mono (fun j _ e => .inl e)
      have x2 : Only (footD p a b v) w2 W3 := Only.of_below (by rw [hq.out]; exact hb3)
      have x3 : Only (footD p a b v) W3 W4 := hO4.mono (fun j _ e => .inr (.inr (.inl e)))
      have x4 : Only (footD p a b v) W4 w5 := hO5.mono (fun j _ e => .inr (.inr (.inr e)))
      exact (((x1.trans x2 (fun _ _ e => e)).trans x3 (fun _ _ e => e)).trans x4 (fun _ _ e => e)).setCell (fun _ => .inl rfl) _
    · have s1 : W.heap.size ≤ w2.heap.size := hO2.size
      have s2 : q ≤ W3.heap.size := Nat.le_of_lt hq3
      have s3 := hO4.size
      have hq' := hq.out
      rcases hf with e | e | e | e
      · exact .inl e
      · exact .inr (.inl e)
      · exact .inr (.inr (.inl e))
      · rcases hat2 j e with e2 | e2
        · exact .inr (.inr (.inr e2))
        · omega
  replace hfin := Lib.hid hfin
  clear hD6 hat2 hat hown hgr hO5 h' hD4 hO4 hb3 hO2
  replace hrun := Lib.hid hrun
  obtain ⟨dw, hdw, hrw⟩ := und_write
  replace hdw := Lib.hid hdw
  replace hrw := Lib.hid hrw
  generalize cellsW (k, padB s) = M at *
  go_wp2
  refine wp_region_any (by kernel_rfl) ?_
  change wpAny _ _ _ _ _ _ _ W4.drew
  refine wpAny_take (i := 0) (oi := { dst := some 36, op := Op.move (Operand.tmp 0), type := 34, pos := "platter.go:59", after := #[], guard := none }) (v := .pointer (some ⟨p, 0, none⟩)) rfl (by kernel_rfl) (by kernel_rfl) (by kernel_rfl) (fun _ _ _ h => h) (Or.inl ⟨by rfl, fun w => by go_simp⟩) ?_
  simp only [Act.put, List.setIfInBounds_toArray, List.set_cons_zero, List.set_cons_succ]
  refine wpAny_take (i := 1) (oi := { dst := some 37, op := Op.move (Operand.tmp 0), type := 34, pos := "platter.go:59", after := #[], guard := none }) (v := .pointer (some ⟨p, 0, none⟩)) rfl (by kernel_rfl) (by kernel_rfl) (by kernel_rfl) (fun _ _ _ h => h) (Or.inl ⟨by rfl, fun w => by go_simp⟩) ?_
  simp only [Act.put, List.setIfInBounds_toArray, List.set_cons_zero, List.set_cons_succ]
  refine wpAny_take (i := 2) (oi := { dst := some 38, op := Op.nilCheck (Operand.tmp 37), type := 0, pos := "platter.go:59", after := #[{ on := 1, ground := Ground.data }], guard := none }) (v := .pointer (some ⟨p, 0, none⟩)) rfl (by kernel_rfl) (by kernel_rfl) (by kernel_rfl) (fun _ _ _ h => h) (Or.inl ⟨by rfl, fun w => by go_simp⟩) ?_
  simp only [Act.put, List.setIfInBounds_toArray, List.set_cons_zero, List.set_cons_succ]
  refine wpAny_take (i := 3) (oi := { dst := some 39, op := Op.fieldAddr 69 (Operand.tmp 38) 2, type := 0, pos := "platter.go:59", after := #[{ on := 2, ground := Ground.data }], guard := none }) (v := .pointer (some ⟨p, 2, none⟩)) rfl (by kernel_rfl) (by kernel_rfl) (by kernel_rfl) (fun _ _ _ h => h) (Or.inl ⟨by rfl, fun w => by go_simp⟩) ?_
  simp only [Act.put, List.setIfInBounds_toArray, List.set_cons_zero, List.set_cons_succ]
  refine wpAny_fork (i := 4) (w1 := W4.drew.alloc (.cells M.toArray 78)) (va := v) (vb := .agg M.toArray) (vc := .slice (some ⟨W4.drew.heap.size, 0, none⟩) 1 1) (da := 40) (db := 41) (dc := 42) 
    (oa := { dst := some 40, op := Op.load 67 (Operand.tmp 39), type := 67, pos := "platter.go:59", after := #[{ on := 3, ground := Ground.data }], guard := none })
    (ob := { dst := some 41, op := Op.load 78 (Operand.tmp 7), type := 78, pos := "platter.go:59", after := #[], guard := none })
    (oc := { dst := some 42, op := Op.buildSlice 67 1 #[(0, Operand.tmp 41)], type := 67, pos := "platter.go:59", after := #[{ on := 5, ground := Ground.data }], guard := none })

    ?a1 ?a2 ?a3 ?a4 ?a5 ?a6 ?a8 ?a9 ?a0 (by decide) (by decide) ?a7 ?r0 ?r1 ?r2 ?r3 ?r4 ?r5 ?x1 ?x2 ?x3 ?x4 ?x5 ?x6 ?x7 ?h
  case a1 => rfl
  case a2 => rfl
  case a3 => rfl
  case a4 => rfl
  case a5 => rfl
  case a6 => rfl
  case a8 => rfl
  case a9 => rfl
  case a0 => rfl
  case a7 => kernel_rfl
  case r0 => kernel_rfl
  case r1 => kernel_rfl
  case r2 => kernel_rfl
  case r3 => kernel_rfl
  case r4 => kernel_rfl
  case r5 => kernel_rfl
  case x1 =>
    intro K hK
    exact wp_load_cell _ _ rfl p 2 rfl v (by kernel_rfl) c2d hK
  case x2 =>
    intro K hK
    exact wp_load_cell _ _ rfl p 2 rfl v (by kernel_rfl) c2d hK
  case x3 =>
    intro K hK
    exact wp_load_cell _ _ rfl p 2 rfl v (by kernel_rfl) c2a hK
  case x4 =>
    intro K hK
    exact wp_load_mid _ _ rfl q 0 rfl M _ hr4.out hdw.out hrw.out (by rw [hM.out]; kernel_rfl) hK
  case x5 =>
    intro K hK
    exact wp_load_mid _ _ rfl q 0 rfl M _ hr4.out hdw.out hrw.out (by rw [hM.out]; kernel_rfl) hK
  case x6 =>
    intro K hK
    exact build_op _ rfl M rfl hM.out hK
  case x7 =>
    intro K hK
    exact build_op _ rfl M rfl hM.out hK
  case h =>
    simp only [List.drop_succ_cons, List.drop_zero, Act.put, List.setIfInBounds_toArray, List.set_cons_zero, List.set_cons_succ]
    refine Lib.wpList_append_run _ rfl _ _ _ _ rfl _ _ rfl rfl _ _ hrun.out ?_
    simp only [Act.put, List.setIfInBounds_toArray, List.set_cons_zero, List.set_cons_succ]
    clear hrun c2a c2d c2
    go_wp2
    go_ret
    exact ⟨rfl, hfin.out⟩
end
end Go.Proofs.Ytgolddcmhjdmdaa
