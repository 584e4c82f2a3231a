/- The landed disk: a sync. No condition but sizes. -/
import Derived.Test.YtgolddcmhjdmdaaZDf
namespace Go.Proofs.Ytgolddcmhjdmdaa
open Go.RowKit

theorem lasting_step (mask : Nat) (torn : Int) (c k : Nat) (L : List (Nat × ByteArray)) (sf : List ByteArray) (hk : k < L.length) :
    lasting mask torn c k (L.drop k) sf = lasting mask torn c (k + 1) (L.drop (k + 1))
      (if (k : Int) = torn then sf.set L[k].1 (L[k].2.extract 0 c ++ (sf.getD L[k].1 ByteArray.empty).extract c 128)
       else if mask / 2 ^ (min k 63) % 2 = 1 then sf.set L[k].1 L[k].2 else sf) := by
  rw [List.drop_eq_getElem_cons hk, lasting]
theorem allOnes_bit (k : Nat) : allOnes / 2 ^ (min k 63) % 2 = 1 := by
  have h : ∀ j, j ≤ 63 → allOnes / 2 ^ j % 2 = 1 := by decide
  exact h _ (by omega)
/-- What is known while writes go over. -/
structure Syncing (F : Nat → Prop) (W wr : World) (p a b : Nat) (v : Value) (n : Nat) (now : List ByteArray) (later : List (Nat × ByteArray)) (armed ops : Int) (fin : List ByteArray) (k : Nat) (sf : List ByteArray) : Prop where
  goal : lasting allOnes (-1) 0 k (later.drop k) sf = fin
  disk : DkV wr p a b v n sf now later armed ops
  only : Only F W wr
section
variable {W : World} {p a b n : Nat} {v : Value} {safe now : List ByteArray} {later : List (Nat × ByteArray)} {armed ops : Int}
/-- What a sync leaves. -/
def SyncedPost (W : World) (p a b n : Nat) (v : Value) (now : List ByteArray) (fin : List ByteArray) (armed ops : Int) (W' : World) : Prop :=
  DkV W' p a b (.slice none 0 0) n fin now [] armed ops ∧ Only (footD p a b v) W W'
set_option maxRecDepth 100000 in
set_option maxHeartbeats 1000000 in
theorem syncD_any (h : DkV W p a b v n safe now later armed ops) (ho : 0 ≤ ops ∧ ops ≤ 1000000) (ha : 0 ≤ armed ∧ armed ≤ 9223372036854775807) (hd : decide (armed ≠ 1) = true)
    (hz : ∀ w ∈ later, w.2.size = 128 ∧ w.1 < n) (hfew : later.length ≤ 1000) :
    Calls Try.prog 36 #[.pointer (some ⟨p, 0, none⟩)] W fun e W' => e = .returned (.int .i64 0) ∧ SyncedPost W p a b n v now (lasting allOnes (-1) 0 0 later safe) (max (armed - 1) 0) (ops + 1) W' := by
  have ht := Lib.hid (tried_post h ho ha)
  rw [hd] at ht
  have hz2 : ∀ w ∈ later, w.2.size = 128 := fun w hw => (hz w hw).1
  obtain ⟨ao, cap, rfl, hnth⟩ := h.nth hz2
  replace hnth := Lib.hid hnth
  clear hd h ho ha
  obtain ⟨fin, hfn⟩ : ∃ fin, lasting allOnes (-1) 0 0 later safe = fin := ⟨_, rfl⟩
  rw [hfn]
  replace hfn := Lib.hid hfn
  generalize ha' : max (armed - 1) 0 = armed' at *
  generalize ho' : ops + 1 = ops' at *
  replace ha' := Lib.hid ha'
  replace ho' := Lib.hid ho'
  go_enter Try.func36, Try.ntmps36
  go_wp2_with fail
  refine (ht.out).mono ?_
  rintro e w2 ⟨rfl, hD, hO⟩
  rw [ha'.out, ho'.out] at hD
  have hG : Syncing (footD p a b (.slice ao later.length cap)) W w2 p a b (.slice ao later.length cap) n now later armed' ops' fin 0 safe := ⟨by rw [List.drop_zero]; exact hfn.out, hD, hO.mono (fun j _ e => .inl e)⟩
  have c2 := hD.c2
  have hlt := hD.lt
  clear hD hO ht
  replace hG := Lib.hid hG
  go_wp2
  go_loopw [15] (fun i wr => ∃ (k : Nat) (sf : List ByteArray), k ≤ later.length ∧ i = .int .i64 k ∧ Syncing (footD p a b (.slice ao later.length cap)) W wr p a b (.slice ao later.length cap) n now later armed' ops' fin k sf) (fun i _ => (later.length - RowKit.intOf i).toNat)
  case atStart => exact ⟨0, _, by omega, rfl, hG.out⟩
  case round =>
    clear hG c2 hlt
    obtain ⟨k, sf, hk, rfl, hC⟩ := hrel
    by_cases hkl : k < later.length
    · obtain ⟨ao', cap', e1, hn2⟩ := hC.disk.nth hz2
      obtain ⟨rfl, -⟩ := (by simpa using e1 : ao = ao' ∧ cap = _)
      obtain ⟨g, rfl, hgl, hr⟩ := hn2 k hkl
      have hx := hz later[k] (List.getElem_mem hkl)
      have hgo := hC.goal
      rw [lasting_step _ _ _ k later sf hkl, if_neg (by omega), if_pos (allOnes_bit k)] at hgo
      clear hn2 e1
      generalize later[k] = x at *
      obtain ⟨xi, xd⟩ := x
      dsimp only at hx hgo
      obtain ⟨hxs, hxi⟩ := hx
      have hM := cellsW_length (xi, xd)
      dsimp only at hM
      rw [hxs] at hM
      have hMi : (Try.prog.info? 78).map (·.size) = some (cellsW (xi, xd)).length := by rw [hM]; kernel_rfl
      obtain ⟨dw, hdw, hrw⟩ := und_write
      replace hdw := Lib.hid hdw
      replace hrw := Lib.hid hrw
      replace hMi := Lib.hid hMi
      replace hr := Lib.hid hr
      replace hM := Lib.hid hM
      replace hgo := Lib.hid hgo
      replace hxs := Lib.hid hxs
      replace hnth := 0
      obtain ⟨Z, hZ, hZ0, hZs, hZn, hi⟩ := zero_write
      have r1 := run_storeCells_new (P := Try.prog) wr 78 Z (cellsW (xi, xd)).toArray (by rw [hi, List.size_toArray, hM.out]) (by rw [hZn, List.size_toArray, hM.out]) (all_oneCell_toArray (cellsW_one _))
      rw [List.toList_toArray] at r1
      have hlr := laid_range wr xi xd
      have hlr0 := laid_range0 wr (cellsW (xi, xd)) 78
      have hD3 := hC.disk.alloc (.cells (cellsW (xi, xd)).toArray 78)
      have hO3 := hC.only.alloc (.cells (cellsW (xi, xd)).toArray 78)
      have hM0 : (cellsW (xi, xd))[0]? = some (.int .i64 (xi : Int)) := rfl
      have hq0 : (wr.alloc (.cells (cellsW (xi, xd)).toArray 78)).cell? ⟨wr.heap.size, 0, none⟩ = some (.int .i64 (xi : Int)) := hlr0 0 _ hM0
      have hqlt : wr.heap.size < (wr.alloc (.cells (cellsW (xi, xd)).toArray 78)).heap.size := by simp
      clear hZs hZn hi hlr0 hM0
      replace hlr := Lib.hid hlr
      replace hq0 := Lib.hid hq0
      replace hD3 := Lib.hid hD3
      replace hO3 := Lib.hid hO3
      replace hC := Lib.hid hC
      generalize cellsW (xi, xd) = M at *
      replace hM := hM.out
      go_wp2_with (refine wpList_load_mid rfl _ _ rfl g (k * 129) rfl M _ hr.out hdw.out hrw.out hMi.out ?_)
      clear r1 hZ hZ0 hM hMi hr
      generalize wr.alloc (.cells M.toArray 78) = W3 at *
      generalize wr.heap.size = q at *
      replace hq0 := hq0.out
      have c0 := hD3.out.c0
      have lt3 := hD3.out.lt
      have hL := cellsB_length xd
      rw [hxs.out] at hL
      replace hL := Lib.hid hL
      have hlr1 := Lib.hid ((World.rangeAt_drew _ _ _ _).2 hlr.out)
      have hth := Lib.hid (hD3.out.drew.s0.there xi (by rw [hD3.out.l0]; exact hxi))
      have hone := Lib.hid (cellsB_one xd)
      have hD4 := Lib.hid (hD3.out.drew.sec0 xi hxi xd hxs.out)
      have hO4 := Lib.hid (Only.setCells (F := footD p a b (.slice (some ⟨g, 0, none⟩) later.length cap)) (g := a) (fun _ => .inr (.inl rfl)) (cellsB xd) (xi * 128) _ hO3.out.drew)
      generalize cellsB xd = L at *
      refine wp_region_still_tail 9 (by kernel_rfl) (by kernel_rfl) ?_
      simp only [List.take_succ_cons, List.take_zero, List.drop_succ_cons, List.drop_zero]
      change wpStill _ _ W3.drew _ _ _
      iterate 7 still_step
      refine still_load rfl _ _ rfl q 1 rfl L _ hlr1.out und_sec rfl (by rw [info_sec, hL.out]) ?_
      simp only [Act.put, List.setIfInBounds_toArray, List.set_cons_zero, List.set_cons_succ]
      still_step
      refine wpStill_nil ?_
      change wpList _ _ _ _ _ W3.drew
      refine wpList_store_mid rfl _ _ _ rfl a (xi * 128) L.toArray rfl rfl (by rw [List.size_toArray, hL.out]; exact hth.out) (by rw [info_sec, List.size_toArray, hL.out]) (all_oneCell_toArray hone.out) ?_
      simp only [Act.put]
      have hnew : Syncing (footD p a b (.slice (some ⟨g, 0, none⟩) later.length cap)) W (W3.drew.setCells a (xi * 128) L) p a b (.slice (some ⟨g, 0, none⟩) later.length cap) n now later armed' ops' fin (k + 1) (sf.set xi xd) := ⟨hgo.out, hD4.out, hO4.out⟩
      replace hnew := Lib.hid hnew
      generalize W3.drew.setCells a (xi * 128) L = W4 at *
      clear hD4 hO4 hth hlr1 hlr hD3 hO3 hq0 c0
      go_wp2
      exact ⟨⟨k + 1, _, by omega, by go_num, hnew.out⟩, by simp [RowKit.intOf]; omega⟩
    · obtain rfl : k = later.length := by omega
      have hgo := hC.goal
      rw [List.drop_length, lasting] at hgo
      have hD5 := hC.disk.row2 (W' := wr) (v' := .slice none 0 0) (l := []) (Only.refl _ _) (World.ownsRow_nil _ _ _ _) (fun k hk => by simp [Value.ownBlock] at hk)
      have hfin := Lib.hid (show SyncedPost W p a b n (.slice ao later.length cap) now fin armed' ops' (wr.setCell ⟨p, 2, none⟩ (.slice none 0 0)) from ⟨by rw [← hgo]; exact hD5, hC.only.setCell (fun _ => .inl rfl) _⟩)
      have c2 := hC.disk.c2
      have f2 := hC.disk.fz 2
      have hlt := hC.disk.lt
      clear hD5 hC hgo
      go_wp2
      go_ret
      exact ⟨rfl, hfin.out⟩
end
end Go.Proofs.Ytgolddcmhjdmdaa
