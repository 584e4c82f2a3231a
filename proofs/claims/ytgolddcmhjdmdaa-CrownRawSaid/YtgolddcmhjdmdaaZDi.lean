/- The landed disk: a crash. No condition but sizes. -/
import Derived.Test.YtgolddcmhjdmdaaZDh
namespace Go.Proofs.Ytgolddcmhjdmdaa
open Go.RowKit

/-- What is known while writes go over, at a crash. -/
structure Going (F : Nat → Prop) (W wr : World) (p a b : Nat) (v : Value) (n : Nat) (now : List ByteArray) (later : List (Nat × ByteArray)) (armed ops : Int) (mask : Nat) (torn : Int) (c : Nat) (fin : List ByteArray) (k : Nat) (sf : List ByteArray) : Prop where
  goal : lasting mask torn c k (later.drop k) sf = fin
  disk : DkV wr p a b v n sf now later armed ops
  only : Only F W wr
structure Covering (F : Nat → Prop) (W wr : World) (p a b : Nat) (v : Value) (n : Nat) (fin : List ByteArray) (later : List (Nat × ByteArray)) (armed ops : Int) (goalN : List ByteArray) (k : Nat) (nw : List ByteArray) : Prop where
  goal : cover fin (later.drop k) nw = goalN
  disk : DkV wr p a b v n fin nw later armed ops
  only : Only F W wr
section
variable {W : World} {p a b n : Nat} {v : Value} {safe now : List ByteArray} {later : List (Nat × ByteArray)} {armed ops : Int}
set_option maxRecDepth 100000 in
set_option maxHeartbeats 1000000 in
theorem crashD_any (h : DkV W p a b v n safe now later armed ops) (hz : ∀ w ∈ later, w.2.size = 128 ∧ w.1 < n) (hfew : later.length ≤ 1000) (mask : Nat) (hmask : mask < 18446744073709551616) (torn cut : Int)
    (hcv : cover (lasting mask torn (cutC cut) 0 later safe) later now = lasting mask torn (cutC cut) 0 later safe) :
    Calls Try.prog 19 #[.pointer (some ⟨p, 0, none⟩), .int .u64 ((mask : Nat) : Int), .int .i64 torn, .int .i64 cut] W fun e W' => e = .returned (.tuple #[]) ∧ SyncedPost W p a b n v (lasting mask torn (cutC cut) 0 later safe) (lasting mask torn (cutC cut) 0 later safe) 0 ops W' := by
  have hz2 : ∀ w ∈ later, w.2.size = 128 := fun w hw => (hz w hw).1
  obtain ⟨ao, cap, rfl, -⟩ := h.nth hz2
  have hcl := cutC_le cut
  have hnr := cutC_near cut
  generalize cutC cut = c at *
  obtain ⟨fin, hfn⟩ : ∃ fin, lasting mask torn c 0 later safe = fin := ⟨_, rfl⟩
  rw [hfn]
  rw [hfn] at hcv
  have hG : Going (footD p a b (.slice ao later.length cap)) W W p a b (.slice ao later.length cap) n now later armed ops mask torn c fin 0 safe := ⟨by rw [List.drop_zero]; exact hfn, h, Only.refl _ _⟩
  have hnear := Lib.hid (fun w => nearP_any cut 128 w)
  rw [hnr] at hnear
  have c2 := h.c2
  have hlt := h.lt
  replace hfn := Lib.hid hfn
  replace hcv := Lib.hid hcv
  replace hG := Lib.hid hG
  clear h hnr
  go_enter Try.func19, Try.ntmps19
  go_wp2
  go_loopw [19] (fun i wr => ∃ (k : Nat) (sf : List ByteArray), k ≤ later.length ∧ i = .int .i64 k ∧ Going (footD p a b (.slice ao later.length cap)) W wr p a b (.slice ao later.length cap) n now later armed ops mask torn c fin k sf) (fun i _ => (later.length - RowKit.intOf i).toNat)
  case atStart => exact ⟨0, _, by omega, rfl, hG.out⟩
  case round =>
    clear hG c2 hlt
    obtain ⟨k, sf, hk, rfl, hC⟩ := hrel
    by_cases hkl : k < later.length
    · obtain ⟨ao', cap', e1, hn2⟩ := hC.disk.nth hz2
      obtain ⟨rfl, -⟩ := (by simpa using e1 : ao = ao' ∧ cap = _)
      obtain ⟨g, rfl, hgl, hr⟩ := hn2 k hkl
      have hx := hz later[k] (List.getElem_mem hkl)
      have hgo := hC.goal
      rw [lasting_step _ _ _ k later sf hkl] at hgo
      clear hn2 e1
      generalize later[k] = x at *
      obtain ⟨xi, xd⟩ := x
      dsimp only at hx hgo
      obtain ⟨hxs, hxi⟩ := hx
      have hM := cellsW_length (xi, xd)
      dsimp only at hM
      rw [hxs] at hM
      have hMi : (Try.prog.info? 78).map (·.size) = some (cellsW (xi, xd)).length := by rw [hM]; kernel_rfl
      obtain ⟨dw, hdw, hrw⟩ := und_write
      replace hdw := Lib.hid hdw
      replace hrw := Lib.hid hrw
      replace hMi := Lib.hid hMi
      replace hr := Lib.hid hr
      replace hM := Lib.hid hM
      replace hxs := Lib.hid hxs
      obtain ⟨Z, hZ, hZ0, hZs, hZn, hi⟩ := zero_write
      have r1 := run_storeCells_new (P := Try.prog) wr 78 Z (cellsW (xi, xd)).toArray (by rw [hi, List.size_toArray, hM.out]) (by rw [hZn, List.size_toArray, hM.out]) (all_oneCell_toArray (cellsW_one _))
      rw [List.toList_toArray] at r1
      have hlr := laid_range wr xi xd
      have hlr0 := laid_range0 wr (cellsW (xi, xd)) 78
      have hD3 := hC.disk.alloc (.cells (cellsW (xi, xd)).toArray 78)
      have hO3 := hC.only.alloc (.cells (cellsW (xi, xd)).toArray 78)
      have hM0 : (cellsW (xi, xd))[0]? = some (.int .i64 (xi : Int)) := rfl
      have hq0 : (wr.alloc (.cells (cellsW (xi, xd)).toArray 78)).cell? ⟨wr.heap.size, 0, none⟩ = some (.int .i64 (xi : Int)) := hlr0 0 _ hM0
      have hqlt : wr.heap.size < (wr.alloc (.cells (cellsW (xi, xd)).toArray 78)).heap.size := by simp
      clear hZs hZn hi hlr0 hM0
      replace hlr := Lib.hid hlr
      replace hq0 := Lib.hid hq0
      replace hD3 := Lib.hid hD3
      replace hO3 := Lib.hid hO3
      replace hC := Lib.hid hC
      generalize cellsW (xi, xd) = M at *
      replace hM := hM.out
      have hL := cellsB_length xd
      rw [hxs.out] at hL
      replace hL := Lib.hid hL
      have hlr1 := Lib.hid ((World.rangeAt_drew _ _ _ _).2 hlr.out)
      have hth := Lib.hid (hD3.out.drew.s0.there xi (by rw [hD3.out.l0]; exact hxi))
      have hone := Lib.hid (cellsB_one xd)
      have hnext := Lib.hid (fun w2 sf2 e1 e2 e3 => (⟨e1, e2, e3⟩ : Going (footD p a b (.slice (some ⟨g, 0, none⟩) later.length cap)) W w2 p a b (.slice (some ⟨g, 0, none⟩) later.length cap) n now later armed ops mask torn c fin (k + 1) sf2))
      by_cases ht : (k : Int) = torn
      · have hbt : ((k : Int) == torn) = true := beq_iff_eq.2 ht
        rw [if_pos ht] at hgo
        replace ht := Lib.hid ht
        have hs0 := getD_some (l := sf) (i := xi) (by rw [hD3.out.l0]; exact hxi)
        have hsec := hD3.out.drew.s0.part xi _ hs0 xd hxs.out c hcl
        have hD4 := hD3.out.drew.some0 (xi * 128) ((cellsB xd).take c) _ hsec (by rw [List.length_set]; exact hD3.out.l0)
        have hO4 := Only.setCells (F := footD p a b (.slice (some ⟨g, 0, none⟩) later.length cap)) (g := a) (fun _ => .inr (.inl rfl)) ((cellsB xd).take c) (xi * 128) _ hO3.out.drew
        have hN4 := Lib.hid (hnext.out _ _ hgo hD4 hO4)
        have htk : ((cellsB xd).take c).length = c := by rw [List.length_take, hL.out]; omega
        have hrun := run_copy_cells (P := Try.prog) (wr.alloc (.cells M.toArray 78)).drew 53 53 3 5 a (xi * 128) c 128 ⟨wr.heap.size, 1, none⟩ 128 128 ((cellsB xd).take c) Try.underlying53 (by kernel_rfl) (by rw [htk]; show c = min 128 c; omega)
          (fun j u hj => by
            rw [Addr.add_mid]
            refine hlr1.out j u ?_
            rw [List.getElem?_take] at hj
            split at hj
            · exact hj
            · cases hj)
          (fun j hj => (hth.out j (by omega)).1) (fun j hj => (hth.out j (by omega)).2) (fun u hu => cellsB_one xd u (List.mem_of_mem_take hu))
        replace hrun := Lib.hid hrun
        clear hs0 hsec hD4 hO4 hnext htk hgo
        generalize cellsB xd = L at *
        go_wp2_with (refine wpList_load_mid rfl _ _ rfl g (k * 129) rfl M _ hr.out hdw.out hrw.out hMi.out ?_)
        clear r1 hZ hZ0 hM hMi hr
        generalize wr.alloc (.cells M.toArray 78) = W3 at *
        generalize wr.heap.size = q at *
        replace hq0 := hq0.out
        have c0 := hD3.out.c0
        have lt3 := hD3.out.lt
        have hslh := sliceSecH a (xi * 128) c hcl
        have hsl := sliceSec q 1
        refine wp_region_still_tail 12 (by kernel_rfl) (by kernel_rfl) ?_
        simp only [List.take_succ_cons, List.take_zero, List.drop_succ_cons, List.drop_zero]
        change wpStill _ _ W3.drew _ _ _
        iterate 8 still_step
        still_call ((hnear.out _).mono fun _ _ h => ⟨h.1, h.2.symm⟩)
        iterate 3 still_step
        refine wpStill_nil ?_
        change wpList _ _ _ _ _ W3.drew
        refine wpList_copy_run _ rfl _ _ _ _ rfl _ _ rfl rfl _ _ hrun.out ?_
        simp only [Act.put]
        generalize W3.drew.setCells a (xi * 128) (L.take c) = W4 at *
        clear hrun hslh hsl hth hlr1 hlr hD3 hO3 hq0 c0
        go_wp2
        exact ⟨⟨k + 1, _, by omega, by go_num, hN4.out⟩, by simp [RowKit.intOf]; omega⟩
      · have hbt : ((k : Int) == torn) = false := beq_eq_false_iff_ne.2 ht
        rw [if_neg ht] at hgo
        replace ht := Lib.hid ht
        have hbit := bitP_form mask k hmask
        by_cases hm : mask / 2 ^ (min k 63) % 2 = 1
        · rw [if_pos hm] at hgo
          rw [decide_eq_true hm] at hbit
          replace hm := Lib.hid hm
          have hD4 := hD3.out.drew.sec0 xi hxi xd hxs.out
          have hO4 := Only.setCells (F := footD p a b (.slice (some ⟨g, 0, none⟩) later.length cap)) (g := a) (fun _ => .inr (.inl rfl)) (cellsB xd) (xi * 128) _ hO3.out.drew
          have hN4 := Lib.hid (hnext.out _ _ hgo hD4 hO4)
          clear hD4 hO4 hnext hgo
          generalize cellsB xd = L at *
          go_wp2_with (refine wpList_load_mid rfl _ _ rfl g (k * 129) rfl M _ hr.out hdw.out hrw.out hMi.out ?_)
          clear r1 hZ hZ0 hM hMi hr
          generalize wr.alloc (.cells M.toArray 78) = W3 at *
          generalize wr.heap.size = q at *
          replace hq0 := hq0.out
          have c0 := hD3.out.c0
          have lt3 := hD3.out.lt
          refine wp_region_still_tail 9 (by kernel_rfl) (by kernel_rfl) ?_
          simp only [List.take_succ_cons, List.take_zero, List.drop_succ_cons, List.drop_zero]
          change wpStill _ _ W3.drew _ _ _
          iterate 7 still_step
          refine still_load rfl _ _ rfl q 1 rfl L _ hlr1.out und_sec rfl (by rw [info_sec, hL.out]) ?_
          simp only [Act.put, List.setIfInBounds_toArray, List.set_cons_zero, List.set_cons_succ]
          still_step
          refine wpStill_nil ?_
          change wpList _ _ _ _ _ W3.drew
          refine wpList_store_mid rfl _ _ _ rfl a (xi * 128) L.toArray rfl rfl (by rw [List.size_toArray, hL.out]; exact hth.out) (by rw [info_sec, List.size_toArray, hL.out]) (all_oneCell_toArray hone.out) ?_
          simp only [Act.put]
          generalize W3.drew.setCells a (xi * 128) L = W4 at *
          clear hth hlr1 hlr hD3 hO3 hq0 c0
          go_wp2
          exact ⟨⟨k + 1, _, by omega, by go_num, hN4.out⟩, by simp [RowKit.intOf]; omega⟩
        · rw [if_neg hm] at hgo
          rw [decide_eq_false hm] at hbit
          replace hm := Lib.hid hm
          have hN4 := Lib.hid (hnext.out _ _ hgo hD3.out hO3.out)
          clear hnext hgo
          go_wp2_with (refine wpList_load_mid rfl _ _ rfl g (k * 129) rfl M _ hr.out hdw.out hrw.out hMi.out ?_)
          exact ⟨⟨k + 1, _, by omega, by go_num, hN4.out⟩, by simp [RowKit.intOf]; omega⟩
    · obtain rfl : k = later.length := by omega
      have hgo := hC.goal
      rw [List.drop_length, lasting] at hgo
      have hD0 := hC.disk
      rw [hgo] at hD0
      have hG2 : Covering (footD p a b (.slice ao later.length cap)) W wr p a b (.slice ao later.length cap) n fin later armed ops fin 0 now := ⟨by rw [List.drop_zero]; exact hcv.out, hD0, hC.only⟩
      have c2 := hC.disk.c2
      have hlt := hC.disk.lt
      replace hG2 := Lib.hid hG2
      clear hC hD0 hgo
      go_wp2
      go_loopw [61] (fun i wr => ∃ (k : Nat) (nw : List ByteArray), k ≤ later.length ∧ i = .int .i64 k ∧ Covering (footD p a b (.slice ao later.length cap)) W wr p a b (.slice ao later.length cap) n fin later armed ops fin k nw) (fun i _ => (later.length - RowKit.intOf i).toNat)
      case atStart => exact ⟨0, _, by omega, rfl, hG2.out⟩
      case round =>
        clear hG2 c2 hlt hk hkl
        obtain ⟨k, nw, hk, rfl, hC⟩ := hrel
        by_cases hkl : k < later.length
        · obtain ⟨ao', cap', e1, hn2⟩ := hC.disk.nth hz2
          obtain ⟨rfl, -⟩ := (by simpa using e1 : ao = ao' ∧ cap = _)
          obtain ⟨g, rfl, hgl, hr⟩ := hn2 k hkl
          have hx := hz later[k] (List.getElem_mem hkl)
          have hgo := hC.goal
          rw [List.drop_eq_getElem_cons hkl, cover] at hgo
          clear hn2 e1
          generalize later[k] = x at *
          obtain ⟨xi, xd⟩ := x
          dsimp only at hx hgo
          obtain ⟨hxs, hxi⟩ := hx
          have hM := cellsW_length (xi, xd)
          dsimp only at hM
          rw [hxs] at hM
          have hMi : (Try.prog.info? 78).map (·.size) = some (cellsW (xi, xd)).length := by rw [hM]; kernel_rfl
          obtain ⟨dw, hdw, hrw⟩ := und_write
          replace hdw := Lib.hid hdw
          replace hrw := Lib.hid hrw
          replace hMi := Lib.hid hMi
          replace hr := Lib.hid hr
          replace hM := Lib.hid hM
          obtain ⟨Z, hZ, hZ0, hZs, hZn, hi⟩ := zero_write
          have r1 := run_storeCells_new (P := Try.prog) wr 78 Z (cellsW (xi, xd)).toArray (by rw [hi, List.size_toArray, hM.out]) (by rw [hZn, List.size_toArray, hM.out]) (all_oneCell_toArray (cellsW_one _))
          rw [List.toList_toArray] at r1
          have hlr0 := laid_range0 wr (cellsW (xi, xd)) 78
          have hD3 := hC.disk.alloc (.cells (cellsW (xi, xd)).toArray 78)
          have hO3 := hC.only.alloc (.cells (cellsW (xi, xd)).toArray 78)
          have hM0 : (cellsW (xi, xd))[0]? = some (.int .i64 (xi : Int)) := rfl
          have hq0 : (wr.alloc (.cells (cellsW (xi, xd)).toArray 78)).cell? ⟨wr.heap.size, 0, none⟩ = some (.int .i64 (xi : Int)) := hlr0 0 _ hM0
          have hqlt : wr.heap.size < (wr.alloc (.cells (cellsW (xi, xd)).toArray 78)).heap.size := by simp
          clear hZs hZn hi hlr0 hM0
          replace hq0 := Lib.hid hq0
          have hxf : xi < fin.length := by rw [hD3.l0]; exact hxi
          have hs0 := getD_some (l := fin) (i := xi) hxf
          have hx1 := hD3.drew.s0.size _ (List.mem_of_getElem? hs0)
          have hr1 := Lib.hid (hD3.drew.s0.lay xi _ hs0)
          have hth := Lib.hid (hD3.drew.s1.there xi (by rw [hD3.l1]; exact hxi))
          have hone := Lib.hid (cellsB_one (fin.getD xi ByteArray.empty))
          have hD4 := hD3.drew.sec1 xi hxi _ hx1
          have hO4 := Only.setCells (F := footD p a b (.slice (some ⟨g, 0, none⟩) later.length cap)) (g := b) (fun _ => .inr (.inr (.inl rfl))) (cellsB (fin.getD xi ByteArray.empty)) (xi * 128) _ hO3.drew
          have hN4 : Covering (footD p a b (.slice (some ⟨g, 0, none⟩) later.length cap)) W ((wr.alloc (.cells (cellsW (xi, xd)).toArray 78)).drew.setCells b (xi * 128) (cellsB (fin.getD xi ByteArray.empty))) p a b (.slice (some ⟨g, 0, none⟩) later.length cap) n fin later armed ops fin (k + 1) (nw.set xi (fin.getD xi ByteArray.empty)) := ⟨hgo, hD4, hO4⟩
          have hL := cellsB_length (fin.getD xi ByteArray.empty)
          rw [hx1] at hL
          replace hL := Lib.hid hL
          replace hN4 := Lib.hid hN4
          clear hD4 hO4 hgo hC hO3 hs0 hx1 hxf
          have c0 := Lib.hid hD3.c0
          have c1 := Lib.hid hD3.c1
          have lt3 := hD3.lt
          clear hD3
          generalize fin.getD xi ByteArray.empty = x0 at *
          generalize nw.set xi x0 = nw2 at *
          generalize cellsW (xi, xd) = M at *
          generalize cellsB x0 = L at *
          replace hM := hM.out
          go_wp2_with (refine wpList_load_mid rfl _ _ rfl g (k * 129) rfl M _ hr.out hdw.out hrw.out hMi.out ?_)
          clear r1 hZ hZ0 hM hMi hr
          generalize wr.alloc (.cells M.toArray 78) = W3 at *
          generalize wr.heap.size = q at *
          replace hq0 := hq0.out
          replace c0 := c0.out
          replace c1 := c1.out
          refine wp_region_still_tail 15 (by kernel_rfl) (by kernel_rfl) ?_
          simp only [List.take_succ_cons, List.take_zero, List.drop_succ_cons, List.drop_zero]
          change wpStill _ _ W3.drew _ _ _
          iterate 13 still_step
          refine still_load rfl _ _ rfl a (xi * 128) rfl L _ hr1.out und_sec rfl (by rw [info_sec, hL.out]) ?_
          simp only [Act.put, List.setIfInBounds_toArray, List.set_cons_zero, List.set_cons_succ]
          still_step
          refine wpStill_nil ?_
          change wpList _ _ _ _ _ W3.drew
          refine wpList_store_mid rfl _ _ _ rfl b (xi * 128) L.toArray rfl rfl (by rw [List.size_toArray, hL.out]; exact hth.out) (by rw [info_sec, List.size_toArray, hL.out]) (all_oneCell_toArray hone.out) ?_
          simp only [Act.put]
          generalize W3.drew.setCells b (xi * 128) L = W4 at *
          clear hth hr1 hq0 c0 c1
          go_wp2
          exact ⟨⟨k + 1, _, by omega, by go_num, hN4.out⟩, by simp [RowKit.intOf]; omega⟩
        · obtain rfl : k = later.length := by omega
          have hgo := hC.goal
          rw [List.drop_length, cover] at hgo
          have hD0 := hC.disk
          rw [hgo] at hD0
          have hD5 := hD0.row2 (W' := wr) (v' := .slice none 0 0) (l := []) (Only.refl _ _) (World.ownsRow_nil _ _ _ _) (fun k hk => by simp [Value.ownBlock] at hk)
          have hfin := Lib.hid (show SyncedPost W p a b n (.slice ao later.length cap) fin fin 0 ops ((wr.setCell ⟨p, 2, none⟩ (.slice none 0 0)).setCell ⟨p, 3, none⟩ (.int .i64 0)) from ⟨hD5.put3 0, (hC.only.setCell (fun _ => .inl rfl) _).setCell (fun _ => .inl rfl) _⟩)
          have c2 := hC.disk.c2
          have f2 := hC.disk.fz 2
          have c3 := hC.disk.c3
          have f3 := hC.disk.fz 3
          have hlt := hC.disk.lt
          clear hD5 hC hD0 hgo
          go_wp2
          go_end0
          exact ⟨rfl, hfin.out⟩
end
end Go.Proofs.Ytgolddcmhjdmdaa
