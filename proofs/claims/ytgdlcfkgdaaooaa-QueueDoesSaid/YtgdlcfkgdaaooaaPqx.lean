/- Stage 13: QueueDoes' walk. No condition but the landed package's. -/
import Derived.Test.YtgdlcfkgdaaooaaPqu
import Derived.Test.YtgdlcfkgdaaooaaPqt
import Derived.Test.YtgdlcfkgdaaooaaPqw
import Derived.Deep.LoopGhost
import Derived.Deep.CutBlock
namespace Go.Proofs.Ytgdlcfkgdaaooaa
open Go.RowKit Wm

/-- What a law with a queue and a list of its own holds. -/
abbrev QL (O : Kind (List Qit)) (p : Nat) (m : List Qit) (v : Value) (R : Asr) : Asr := (star (objA O p m) (star (rowA 39 4 v m.length (rowK Qit.cells m)) R))
theorem qcallK : CellsK Qcall.cells 6 := ⟨fun _ => rfl, fun x v hv => by
  unfold Qcall.cells at hv
  simp at hv
  rcases hv with rfl | rfl | rfl | rfl | rfl | rfl <;> rfl, by decide⟩
theorem row_form {w wr : World} {e : TypeId} {K n : Nat} {v : Value} {xs : List Value} {R : Asr} (h : Held w wr (star (rowA e K v n xs) R)) : ∃ ao c, v = .slice ao n c := by
  rcases own_spot h.rowAt.1 with ⟨rfl, rfl⟩ | ⟨g, c, rfl, -⟩
  · exact ⟨_, _, rfl⟩
  · exact ⟨_, _, rfl⟩
section
variable {O : Kind (List Qit)}
set_option maxRecDepth 100000 in
set_option maxHeartbeats 4000000 in
theorem queueDoes_any (K : LandedQu O) (Z : LandedQuNil) (ao : Option Addr) (cap : Nat) (l : List Qcall) (hl : ∀ c ∈ l, c.Wf) (hlen : l.length ≤ 140737488351232) (w : World) (hA : QcallsAt w ao l) :
    Calls Try.prog 3 #[.slice ao l.length cap] w fun e w' => e = .returned (.bool true) ∧ Below w.heap.size w w' := by
  have hal := Lib.hid (queueAlive_any K)
  by_cases c1 : 200 < l.length
  · have h1 : decide (200 < ((l.length : Nat) : Int)) = true := decide_eq_true (by omega)
    go_enter Try.func3, Try.ntmps3
    go_wp2_with fail
    refine (hal.out _).mono ?_
    rintro e w1 ⟨rfl, hb1⟩
    go_wp2
    go_ret
    exact ⟨rfl, hb1⟩
  have h1 : decide (200 < ((l.length : Nat) : Int)) = false := decide_eq_false (by omega)
  have h200 : l.length ≤ 200 := by omega
  clear c1
  have hst := Lib.hid (fun wr (hb : Below w.heap.size w wr) => (show Held w (wr.alloc (.cells #[.slice none 0 0] 28)) (QL O wr.heap.size [] (.slice none 0 0) nilA) from
    ((((Held.start w).later isAsr_nil hb).nilrow isAsr_nil 39 4).obj (cs := [.slice none 0 0]) ((isAsr_row _ _ _ _ _).star isAsr_nil) (K.new wr))))
  go_enter Try.func3, Try.ntmps3
  go_wp2_with fail
  refine (hal.out _).mono ?_
  rintro e wa ⟨rfl, hb1⟩
  have hT0 := hst.out _ hb1
  clear hst hal hb1
  go_wp2_with fail
  go_loopw [4, 28] (fun vv iv wr => ∃ (k : Nat) (m : List Qit), k ≤ l.length ∧ iv = .int .i64 k ∧ m.length ≤ k ∧ Held w wr (QL O wa.heap.size m vv nilA)) (fun _ iv _ => (l.length - RowKit.intOf iv).toNat)
  case atStart => exact ⟨0, [], by omega, rfl, by simp, hT0⟩
  case round =>
    clear hT0
    obtain ⟨k, m, hk, rfl, hmk, hT⟩ := hrel
    by_cases hlt : k < l.length
    · obtain ⟨bb, off, rfl, hbl, hc⟩ := (hA.below hT.below (Nat.le_refl _)).spot k hlt
      have hx := hl _ (List.getElem_mem hlt)
      generalize hxe : l[k] = x at *
      have hrx : wr.rangeAt bb (off + k * 6) x.cells := fun j v hj => hc j v hj
      replace hrx := Lib.hid hrx
      have hix := Lib.hid (fun w => run_idx_K (P := Try.prog) (K := 6) (ty := 22) (e := 36) (by kernel_rfl) (by kernel_rfl) (by kernel_rfl) bb off l.length cap k hlt w)
      have hiL := Lib.hid (show (Try.prog.info? 36).map (·.size) = some x.cells.length by kernel_rfl)
      have hiS := Lib.hid (show (Try.prog.info? 36).map (·.size) = some x.cells.toArray.size by kernel_rfl)
      have hone := Lib.hid (all_oneCell_toArray (qcallK.one x))
      have hcz : ∀ z : Array Value, z.size = 6 → z.size = x.cells.toArray.size := fun z h => h
      replace hcz := Lib.hid hcz
      have hT2 := hT.box ((isAsr_obj K.toIsKind _ _).star ((isAsr_row _ _ _ _ _).star isAsr_nil)) x.cells 36
      obtain ⟨W2, hW2⟩ : ∃ W2, W2 = wr.alloc (.cells x.cells.toArray 36) := ⟨_, rfl⟩
      rw [← hW2] at hT2
      replace hT2 := hT2.push3
      have hbx : ∀ W, BoxAt W wr.heap.size x.cells → W.cell? ⟨wr.heap.size, 0, none⟩ = some (.int .i64 x.Kind) ∧ W.cell? ⟨wr.heap.size, 2, none⟩ = some (.int .i64 x.Item.Stamp) ∧ W.cell? ⟨wr.heap.size, 5, none⟩ = some (.int .i64 x.N) ∧ W.rangeAt wr.heap.size 1 x.Item.cells ∧ wr.heap.size < W.heap.size :=
        fun W h => ⟨h.spot 0 _ rfl, h.spot 2 _ rfl, h.spot 5 _ rfl, fun j v hj => (h.spot (j + 1) v (by
          have hj4 : j < 4 := (List.getElem?_eq_some_iff.1 hj).1
          have : j = 0 ∨ j = 1 ∨ j = 2 ∨ j = 3 := by omega
          rcases this with rfl | rfl | rfl | rfl <;> exact hj)) |> (fun z => by rw [Nat.add_comm 1 j]; exact z), h.lt⟩
      have hxN := hx.N
      have hxI := hx.Item
      have hb0 := hT2.pull3.boxAt.1
      generalize x.cells = X at *
      generalize hB : wr.heap.size = B at *
      replace hbx := Lib.hid hbx
      obtain ⟨k0, -, -, -, lB⟩ := hbx.out _ hb0
      obtain ⟨kind, item, nn⟩ := x
      dsimp only at k0 hbx hxN hxI
      have hW2' := Lib.hid hW2
      have hBh := Lib.hid hB
      replace hT2 := Lib.hid hT2
      clear hc hx hxe hT hW2 hB hb0
      have ilR := isAsr_row 39 4
      replace ilR := Lib.hid ilR
      go_upto_block 2 with (first
        | (refine wpList_index_run rfl 22 (.tmp 26) (.tmp 28) rfl (.slice (some ⟨bb, off, none⟩) l.length cap) (.int .i64 (k : Int)) _ rfl rfl (hix.out _) ?_)
        | (refine wpList_load_midg rfl 36 (.tmp 30) rfl bb (off + k * 6) rfl X _ hrx.out Try.underlying36 rfl hiL.out ?_)
        | (refine wpList_store_new rfl 36 (.tmp 6) (.tmp 31) rfl wr _ X.toArray rfl rfl rfl hiS.out (hcz.out _ rfl) hone.out ?_; rw [← hW2'.out, hBh.out]))
      clear k0
      go_cut [4] (fun vv wx => ∃ m2 : List Qit, m2.length ≤ k + 1 ∧ Held w wx (QL O wa.heap.size m2 vv (star (boxA B X) nilA)))
      case first =>
        have hbc := hT2.out.pull3.boxAt.1
        obtain ⟨k0, k2, k5, kr, kl⟩ := hbx.out _ hbc
        have hmon := hT2.out.once K
        have hrow := hT2.out.pull.rowAt.1
        clear hbc
        by_cases e0 : kind = 0
        · have b0 : (kind == 0) = true := beq_iff_eq.2 e0
          clear e0 kr
          have hfd := Lib.hid (Held.ask (isAsr_row _ _ _ _ _) ((isAsr_obj K.toIsKind _ _).star ((isAsr_box _ _).star isAsr_nil)) (S := fun e _ => e = .returned (.int .i64 (idxR m item.Stamp))) hT2.out.pull (fun F hF => refFind_any hF.1 (by omega) item.Stamp))
          by_cases hh : hasQ m item.Stamp = true
          · have hid : idxR m item.Stamp = ((posR m item.Stamp : Nat) : Int) := by unfold idxR; rw [if_pos (posR_lt.2 hh)]
            rw [hid] at hfd
            clear hid hh hT2 hrow
            go_wp2_with fail
            refine hfd.out.mono ?_
            rintro e w3 ⟨rfl, hT3⟩
            have hT3' := Lib.hid hT3.pull
            clear hT3 hfd k0 k2 k5
            go_wp2_with fail
            go_roundw
            case measure => simp [RowKit.intOf]; omega
            case rel => exact ⟨k + 1, m, by omega, rfl, by omega, ((hT3'.out.pull3).rest)⟩
          · have hid : idxR m item.Stamp = -1 := by unfold idxR; rw [if_neg (fun e => hh (posR_lt.1 e))]
            rw [hid] at hfd
            have hnew := hasQ_not (Bool.eq_false_iff.2 hh)
            clear hid hh hT2 hrow
            go_wp2_with fail
            refine hfd.out.mono ?_
            rintro e w3 ⟨rfl, hT3⟩
            have hT3' := hT3.pull
            obtain ⟨j0, j2, j5, jr, jl⟩ := hbx.out _ hT3'.pull3.boxAt.1
            have hpu := quPut_h K ((isAsr_row _ _ _ _ _).star ((isAsr_box _ _).star isAsr_nil)) item (by omega) hxI hnew hT3'
            unfold itemV at hpu
            have hiI := Lib.hid (show (Try.prog.info? 34).map (·.size) = some item.cells.length by kernel_rfl)
            replace hpu := Lib.hid hpu
            replace jr := Lib.hid jr
            clear hT3 hT3' hfd k0 k2 k5 kl j0 j2 j5
            go_upto_region 14 with (first | (refine wpList_load_midg rfl 34 (.tmp 43) rfl B 1 rfl item.cells _ jr.out Try.underlying34 rfl hiI.out ?_) | (refine hpu.out.mono ?_; rintro e w4 ⟨rfl, hT4⟩))
            have hT4' := hT4.pull
            obtain ⟨hr4, hr4b⟩ := hT4'.rowAt
            obtain ⟨g, c, w5, happ, ho5, hO5, hg5⟩ := app_oneK (P := Try.prog) (ty := 29) refK (by kernel_rfl) infoRef w4 u4 m item hr4 (by omega) (by omega) 39
            have e1 : (m ++ [item]).length = m.length + 1 := by simp
            have hv : Value.slice (some ⟨g, 0, none⟩) (m ++ [item]).length c = .slice (some ⟨g, 0, none⟩) (m.length + 1) c := by rw [e1]
            rw [hv] at ho5
            have hT5 := Lib.hid (Held.step (isAsr_row _ _ _ _ _) ((isAsr_obj K.toIsKind _ _).star ((isAsr_box _ _).star isAsr_nil)) hT4' (fun F hF => postA_row hF ho5 hO5 (fun k hk x => by
              have e2 : g = k := by injection x
              subst e2
              rcases hg5 with x | x
              · exact x
              · omega))).pull
            have j4r := Lib.hid (hbx.out _ hT4.pull3.boxAt.1).2.2.2.1
            have hI4 := Lib.hid (show item.cells.length = 4 from rfl)
            have huR := Lib.hid (show Try.prog.underlying 29 = some (.slice 39) by kernel_rfl)
            have hml : (m ++ [item]).length ≤ k + 1 := by omega
            replace happ := Lib.hid happ
            clear hT4 hT4' hr4 hr4b ho5 hO5 hg5 hv e1 hpu jr jl
            go_wp2_with (first
              | (refine wpList_load_midg rfl 34 (.tmp 47) rfl B 1 rfl item.cells _ j4r.out Try.underlying34 rfl hiI.out ?_)
              | (refine wpList_build_one rfl (.tmp 48) rfl huR.out infoRef (by decide) (by decide) item.cells rfl hI4.out ?_)
              | (at_builtin; refine Lib.wpList_append_run _ rfl _ _ _ _ rfl _ _ rfl rfl _ _ happ.out ?_))
            go_meet
            case rel => exact ⟨m ++ [item], hml, hT5.out⟩
        have n0 : (kind == 0) = false := beq_eq_false_iff_ne.2 e0
        clear e0
        by_cases e1 : kind = 1
        · have b1 : (kind == 1) = true := beq_iff_eq.2 e1
          clear e1 kr
          have hfd := Lib.hid (Held.ask (isAsr_row _ _ _ _ _) ((isAsr_obj K.toIsKind _ _).star ((isAsr_box _ _).star isAsr_nil)) (S := fun e _ => e = .returned (.int .i64 (idxR m nn))) hT2.out.pull (fun F hF => refFind_any hF.1 (by omega) nn))
          by_cases hh : hasQ m nn = true
          · have hlt2 := posR_lt.2 hh
            have hid : idxR m nn = ((posR m nn : Nat) : Int) := by unfold idxR; rw [if_pos hlt2]
            have hwd := without_drop hmon (posR m nn) hlt2
            rw [posR_stamp hlt2] at hwd
            rw [hid] at hfd
            clear hid hT2 hrow
            go_wp2_with fail
            refine hfd.out.mono ?_
            rintro e w3 ⟨rfl, hT3⟩
            have hT3' := hT3.pull
            obtain ⟨j0, j2, j5, jr, jl⟩ := hbx.out _ hT3'.pull3.boxAt.1
            have hdr := quDrop_h K ((isAsr_row _ _ _ _ _).star ((isAsr_box _ _).star isAsr_nil)) nn hxN.1 hxN.2 hT3'
            rw [hh] at hdr
            replace hdr := Lib.hid hdr
            clear hT3 hT3' hfd k0 k2 k5 kl j0 j2 jr hh
            have hposI : decide ((0 : Int) ≤ ((posR m nn : Nat) : Int)) = true := decide_eq_true (by omega)
            replace hlt2 := Lib.hid hlt2
            replace hwd := Lib.hid hwd
            go_wp2_with fail
            refine hdr.out.mono ?_
            rintro e w4 ⟨rfl, hT4⟩
            have hT4' := hT4.pull
            have hwo := Lib.hid (refWithout_any hT4'.rowAt.1 (by omega) (posR m nn) hlt2.out)
            replace hT4' := Lib.hid hT4'
            have hml := (dropQ_sub m nn).length_le
            clear hT4 hdr j5 jl
            go_wp2_with fail
            refine hwo.out.mono ?_
            rintro e w5 ⟨v5, rfl, ho5, hb5, hg5⟩
            have hT5 := Lib.hid (Held.step (isAsr_row _ _ _ _ _) ((isAsr_obj K.toIsKind _ _).star ((isAsr_box _ _).star isAsr_nil)) hT4'.out (fun F hF => postA_row hF ho5 (Only.of_below hb5) (fun k hk x => by have := hg5 k x; omega))).pull
            rw [hwd.out] at hT5
            clear ho5 hb5 hg5 hwo hT4' hwd
            go_wp2_with fail
            go_meet
            case rel => exact ⟨dropQ m nn, by omega, hT5.out⟩
          · have hh' := Bool.eq_false_iff.2 hh
            have hid : idxR m nn = -1 := by unfold idxR; rw [if_neg (fun e => hh (posR_lt.1 e))]
            have hdm := dropQ_not (hasQ_not hh')
            rw [hid] at hfd
            clear hid hh hT2 hrow
            go_wp2_with fail
            refine hfd.out.mono ?_
            rintro e w3 ⟨rfl, hT3⟩
            have hT3' := hT3.pull
            obtain ⟨j0, j2, j5, jr, jl⟩ := hbx.out _ hT3'.pull3.boxAt.1
            have hdr := quDrop_h K ((isAsr_row _ _ _ _ _).star ((isAsr_box _ _).star isAsr_nil)) nn hxN.1 hxN.2 hT3'
            rw [hh', hdm] at hdr
            replace hdr := Lib.hid hdr
            clear hT3 hT3' hfd k0 k2 k5 kl j0 j2 jr hh' hdm
            go_wp2_with fail
            refine hdr.out.mono ?_
            rintro e w4 ⟨rfl, hT4⟩
            replace hT4 := Lib.hid hT4
            clear hdr j5 jl
            go_wp2_with fail
            go_meet
            case rel => exact ⟨m, by omega, hT4.out⟩
        have n1 : (kind == 1) = false := beq_eq_false_iff_ne.2 e1
        clear e1
        by_cases e2 : kind = 2
        · have b2 : (kind == 2) = true := beq_iff_eq.2 e2
          clear e2 kr
          have hpo := quPop_h K ((isAsr_row _ _ _ _ _).star ((isAsr_box _ _).star isAsr_nil)) nn hxN.1 hxN.2 hT2.out
          cases hpr : popR m nn with
          | none =>
            have hpq : popQ m nn = m := by unfold popQ; rw [hpr]
            rw [hpr, hpq] at hpo
            have hwait : ∀ b (hb : b < m.length), bestQ m = some m[b] → nn < (m[b]).Due := fun b hb hbb => by
              unfold popR at hpr
              rw [hbb] at hpr
              by_cases e : (m[b]).Due ≤ nn
              · dsimp only at hpr; rw [if_pos e] at hpr; cases hpr
              · omega
            replace hpo := Lib.hid hpo
            replace hwait := Lib.hid hwait
            clear hpr hpq hT2 hrow
            unfold popV itemV at hpo
            dsimp only [Option.getD_none, Option.isSome_none] at hpo
            go_wp2_with fail
            refine hpo.out.mono ?_
            rintro e w3 ⟨rfl, hT3⟩
            have hT4 := hT3.box ((isAsr_obj K.toIsKind _ _).star ((isAsr_row _ _ _ _ _).star ((isAsr_box _ _).star isAsr_nil))) zeroQ.cells 34
            obtain ⟨W4, hW4⟩ : ∃ W4, W4 = w3.alloc (.cells zeroQ.cells.toArray 34) := ⟨_, rfl⟩
            rw [← hW4] at hT4
            have hfi := Lib.hid (Held.ask (isAsr_row _ _ _ _ _) ((isAsr_box _ _).star ((isAsr_obj K.toIsKind _ _).star ((isAsr_box _ _).star isAsr_nil))) (S := fun e _ => ∃ i, e = .returned (.int .i64 i) ∧ FirstAt m m.length i) hT4.pull3 (fun F hF => refFirst_any hF.1 (by omega)))
            have hi0 := Lib.hid (show (Try.prog.info? 34).map (·.size) = some zeroQ.cells.toArray.size by kernel_rfl)
            have hiL0 := Lib.hid (show (Try.prog.info? 34).map (·.size) = some zeroQ.cells.length by kernel_rfl)
            have hone0 := Lib.hid (all_oneCell_toArray (refK.one zeroQ))
            have hcz0 : ∀ z : Array Value, z.size = 4 → z.size = zeroQ.cells.toArray.size := fun z h => h
            replace hcz0 := Lib.hid hcz0
            have hW4' := Lib.hid hW4
            clear hpo hT3 hT4 hW4 k0 k2 k5 kl
            have hneq : ∀ w, (binOp .neq 34 (.agg zeroQ.cells.toArray) (.agg #[.int .i64 0, .int .i64 0, .int .u64 0, .int .u64 0])).run Try.prog w = .ok (.bool false) w := run_same_item zeroQ
            go_wp2_with (refine wpList_store_new rfl 34 (.tmp 8) (.tmp 76) rfl w3 _ zeroQ.cells.toArray rfl rfl rfl hi0.out (hcz0.out _ rfl) hone0.out ?_; rw [← hW4'.out])
            refine hfi.out.mono ?_
            rintro e w5 ⟨⟨i, rfl, hFi⟩, hT5⟩
            clear hfi
            have hend := Lib.hid (fun w9 (h : Held w w9 (star (rowA 39 4 u4 m.length (rowK Qit.cells m)) (star (boxA w3.heap.size zeroQ.cells) (star (objA O wa.heap.size m) (star (boxA B X) nilA))))) => (show w9.rangeAt w3.heap.size 0 zeroQ.cells ∧ Held w w9 (QL O wa.heap.size m u4 nilA) from ⟨h.pull.boxAt.1.range, h.pull.rest.pull3.rest.pull⟩))
            rcases hFi.best hmon with ⟨hbn, rfl⟩ | ⟨b, hb, rfl, hbb⟩
            · clear hFi hbn hwait
              have hT5d := Lib.hid (hT5.later ((isAsr_row _ _ _ _ _).star ((isAsr_box _ _).star ((isAsr_obj K.toIsKind _ _).star ((isAsr_box _ _).star isAsr_nil)))) (Below.refl _ _).drew)
              clear hT5
              go_upto_region 24 with (fail)
              refine wp_region_calm (fun w' => Held w w' (star (rowA 39 4 u4 m.length (rowK Qit.cells m)) (star (boxA w3.heap.size zeroQ.cells) (star (objA O wa.heap.size m) (star (boxA B X) nilA))))) (by kernel_rfl) (by kernel_rfl) hT5d.out ?_
              refine calm_pure (v := ?cv268) (by rfl) (fun w' => ?ch268) ?cr268
              case ch268 => (go_simp; first | done | with_reducible rfl)
              try simp only [Act.put, List.setIfInBounds_toArray, List.set_cons_zero, List.set_cons_succ]
              refine calm_pure (v := ?cv271) (by rfl) (fun w' => ?ch271) ?cr271
              case ch271 => (go_simp; first | done | with_reducible rfl)
              try simp only [Act.put, List.setIfInBounds_toArray, List.set_cons_zero, List.set_cons_succ]
              refine calm_pure (v := ?cv274) (by rfl) (fun w' => ?ch274) ?cr274
              case ch274 => (go_simp; first | done | with_reducible rfl)
              try simp only [Act.put, List.setIfInBounds_toArray, List.set_cons_zero, List.set_cons_succ]
              refine calm_skip (by rfl) ?_
              try simp only [Act.put, List.setIfInBounds_toArray, List.set_cons_zero, List.set_cons_succ]
              refine calm_skip (by rfl) ?_
              try simp only [Act.put, List.setIfInBounds_toArray, List.set_cons_zero, List.set_cons_succ]
              refine calm_skip (by rfl) ?_
              try simp only [Act.put, List.setIfInBounds_toArray, List.set_cons_zero, List.set_cons_succ]
              refine calm_skip (by rfl) ?_
              try simp only [Act.put, List.setIfInBounds_toArray, List.set_cons_zero, List.set_cons_succ]
              refine calm_skip (by rfl) ?_
              try simp only [Act.put, List.setIfInBounds_toArray, List.set_cons_zero, List.set_cons_succ]
              refine calm_skip (by rfl) ?_
              try simp only [Act.put, List.setIfInBounds_toArray, List.set_cons_zero, List.set_cons_succ]
              refine calm_skip (by rfl) ?_
              try simp only [Act.put, List.setIfInBounds_toArray, List.set_cons_zero, List.set_cons_succ]
              refine calm_skip (by rfl) ?_
              try simp only [Act.put, List.setIfInBounds_toArray, List.set_cons_zero, List.set_cons_succ]
              refine calm_pure (v := ?cv293) (by rfl) (fun w' => ?ch293) ?cr293
              case ch293 => (go_simp; first | done | with_reducible rfl)
              try simp only [Act.put, List.setIfInBounds_toArray, List.set_cons_zero, List.set_cons_succ]
              intro w9 hm9
              obtain ⟨hz9, hR9⟩ := hend.out w9 hm9
              replace hz9 := Lib.hid hz9
              replace hR9 := Lib.hid hR9
              clear hm9 hend hT5d
              go_wp2_with (refine wpList_load_midg rfl 34 (.tmp 8) rfl w3.heap.size 0 rfl zeroQ.cells _ hz9.out Try.underlying34 rfl hiL0.out ?_)
              go_roundw
              case measure => simp [RowKit.intOf]; omega
              case rel => exact ⟨k + 1, m, by omega, rfl, by omega, hR9.out⟩
            · have hdue := hwait.out b hb hbb
              have hT5d := hT5.later ((isAsr_row _ _ _ _ _).star ((isAsr_box _ _).star ((isAsr_obj K.toIsKind _ _).star ((isAsr_box _ _).star isAsr_nil)))) (Below.refl _ _).drew
              rcases own_spot hT5d.rowAt.1 with ⟨-, e⟩ | ⟨g, c, rfl, -⟩
              · omega
              have hrd := Lib.hid (fun w' (h : Held w w' (star (rowA 39 4 (.slice (some ⟨g, 0, none⟩) m.length c) m.length (rowK Qit.cells m)) (star (boxA w3.heap.size zeroQ.cells) (star (objA O wa.heap.size m) (star (boxA B X) nilA))))) => (show (w'.cell? ⟨g, b * 4, none⟩ = some (.int .i64 (m[b]).Due) ∧ g < w'.heap.size) ∧ (w'.cell? ⟨B, 5, none⟩ = some (.int .i64 nn) ∧ B < w'.heap.size) from
                ⟨⟨(rowK_range refK h.rowAt.1 b hb) 0 _ rfl, (h.rowAt.1.lt g rfl).2⟩, ⟨(hbx.out _ h.rest.pull3.boxAt.1).2.2.1, h.rest.pull3.boxAt.1.lt⟩⟩))
              have hixb := Lib.hid (fun w => run_idx_ref g m.length c b hb w)
              have hbl : decide (((b : Nat) : Int) < 0) = false := decide_eq_false (by omega)
              replace hT5d := Lib.hid hT5d
              generalize (m[b]).Due = bd at *
              have hgt : decide (nn < bd) = true := decide_eq_true (by omega)
              clear hT5 hFi hbb hwait hdue
              go_upto_region 24 with (fail)
              refine wp_region_calm (fun w' => Held w w' (star (rowA 39 4 (.slice (some ⟨g, 0, none⟩) m.length c) m.length (rowK Qit.cells m)) (star (boxA w3.heap.size zeroQ.cells) (star (objA O wa.heap.size m) (star (boxA B X) nilA))))) (by kernel_rfl) (by kernel_rfl) hT5d.out ?_
              refine calm_pure (v := ?cv319) (by rfl) (fun w' => ?ch319) ?cr319
              case ch319 => (go_simp; first | done | with_reducible rfl)
              try simp only [Act.put, List.setIfInBounds_toArray, List.set_cons_zero, List.set_cons_succ]
              refine calm_pure (v := ?cv322) (by rfl) (fun w' => ?ch322) ?cr322
              case ch322 => (go_simp; first | done | with_reducible rfl)
              try simp only [Act.put, List.setIfInBounds_toArray, List.set_cons_zero, List.set_cons_succ]
              refine calm_pure (v := ?cv325) (by rfl) (fun w' => ?ch325) ?cr325
              case ch325 => (go_simp; first | done | with_reducible rfl)
              try simp only [Act.put, List.setIfInBounds_toArray, List.set_cons_zero, List.set_cons_succ]
              refine calm_pure (v := ?cv328) (by rfl) (fun w' => ?ch328) ?cr328
              case ch328 => (go_simp; first | done | with_reducible rfl)
              try simp only [Act.put, List.setIfInBounds_toArray, List.set_cons_zero, List.set_cons_succ]
              refine calm_pure (v := ?cv331) (by rfl) (fun w' => ?ch331) ?cr331
              case ch331 => (go_simp; first | done | with_reducible rfl)
              try simp only [Act.put, List.setIfInBounds_toArray, List.set_cons_zero, List.set_cons_succ]
              refine calm_index 29 _ _ (.slice (some ⟨g, 0, none⟩) m.length c) (.int .i64 (b : Int)) _ (by rfl) rfl rfl rfl hixb.out ?_
              try simp only [Act.put, List.setIfInBounds_toArray, List.set_cons_zero, List.set_cons_succ]
              refine calm_pure (v := ?cv336) (by rfl) (fun w' => ?ch336) ?cr336
              case ch336 => (go_simp; first | done | with_reducible rfl)
              try simp only [Act.put, List.setIfInBounds_toArray, List.set_cons_zero, List.set_cons_succ]
              refine calm_read (v := (.int .i64 bd)) (by rfl) (fun w' h => ?ch339) ?cr339
              case ch339 => (obtain ⟨hcq, hcl⟩ := (hrd.out w' h).1; go_simp)
              try simp only [Act.put, List.setIfInBounds_toArray, List.set_cons_zero, List.set_cons_succ]
              refine calm_pure (v := ?cv342) (by rfl) (fun w' => ?ch342) ?cr342
              case ch342 => (go_simp; first | done | with_reducible rfl)
              try simp only [Act.put, List.setIfInBounds_toArray, List.set_cons_zero, List.set_cons_succ]
              refine calm_read (v := (.int .i64 nn)) (by rfl) (fun w' h => ?ch345) ?cr345
              case ch345 => (obtain ⟨hcq, hcl⟩ := (hrd.out w' h).2; go_simp)
              try simp only [Act.put, List.setIfInBounds_toArray, List.set_cons_zero, List.set_cons_succ]
              refine calm_pure (v := ?cv348) (by rfl) (fun w' => ?ch348) ?cr348
              case ch348 => (go_simp; first | done | with_reducible rfl)
              try simp only [Act.put, List.setIfInBounds_toArray, List.set_cons_zero, List.set_cons_succ]
              refine calm_pure (v := ?cv351) (by rfl) (fun w' => ?ch351) ?cr351
              case ch351 => (go_simp; first | done | with_reducible rfl)
              try simp only [Act.put, List.setIfInBounds_toArray, List.set_cons_zero, List.set_cons_succ]
              intro w9 hm9
              obtain ⟨hz9, hR9⟩ := hend.out w9 hm9
              replace hz9 := Lib.hid hz9
              replace hR9 := Lib.hid hR9
              clear hm9 hend hT5d hrd hixb
              go_wp2_with (refine wpList_load_midg rfl 34 (.tmp 8) rfl w3.heap.size 0 rfl zeroQ.cells _ hz9.out Try.underlying34 rfl hiL0.out ?_)
              go_roundw
              case measure => simp [RowKit.intOf]; omega
              case rel => exact ⟨k + 1, m, by omega, rfl, by omega, hR9.out⟩
          | some y =>
            have hbY : bestQ m = some y ∧ y.Due ≤ nn := by
              unfold popR at hpr
              cases hb : bestQ m with
              | none => rw [hb] at hpr; cases hpr
              | some z =>
                rw [hb] at hpr
                dsimp only at hpr
                split at hpr
                · rename_i e; cases hpr; exact ⟨rfl, e⟩
                · cases hpr
            have hpq : popQ m nn = dropQ m y.Stamp := by unfold popQ; rw [hpr]
            rw [hpr, hpq] at hpo
            replace hpo := Lib.hid hpo
            have hle : decide (nn < y.Due) = false := decide_eq_false (by omega)
            replace hbY := Lib.hid hbY.1
            clear hpr hpq hT2 hrow
            unfold popV itemV at hpo
            dsimp only [Option.getD_some, Option.isSome_some] at hpo
            go_wp2_with fail
            refine hpo.out.mono ?_
            rintro e w3 ⟨rfl, hT3⟩
            have hT4 := hT3.box ((isAsr_obj K.toIsKind _ _).star ((isAsr_row _ _ _ _ _).star ((isAsr_box _ _).star isAsr_nil))) y.cells 34
            obtain ⟨W4, hW4⟩ : ∃ W4, W4 = w3.alloc (.cells y.cells.toArray 34) := ⟨_, rfl⟩
            rw [← hW4] at hT4
            have hfi := Lib.hid (Held.ask (isAsr_row _ _ _ _ _) ((isAsr_box _ _).star ((isAsr_obj K.toIsKind _ _).star ((isAsr_box _ _).star isAsr_nil))) (S := fun e _ => ∃ i, e = .returned (.int .i64 i) ∧ FirstAt m m.length i) hT4.pull3 (fun F hF => refFirst_any hF.1 (by omega)))
            have hi0 := Lib.hid (show (Try.prog.info? 34).map (·.size) = some y.cells.toArray.size by kernel_rfl)
            have hiL0 := Lib.hid (show (Try.prog.info? 34).map (·.size) = some y.cells.length by kernel_rfl)
            have hone0 := Lib.hid (all_oneCell_toArray (refK.one y))
            have hcz0 : ∀ z : Array Value, z.size = 4 → z.size = y.cells.toArray.size := fun z h => h
            replace hcz0 := Lib.hid hcz0
            have hW4' := Lib.hid hW4
            clear hpo hT3 hT4 hW4 k0 k2 k5 kl
            have hneq := run_same_ref y
            have hyl := Lib.hid (show (Try.prog.info? 39).map (·.size) = some y.cells.length by kernel_rfl)
            go_wp2_with (refine wpList_store_new rfl 34 (.tmp 8) (.tmp 76) rfl w3 _ y.cells.toArray rfl rfl rfl hi0.out (hcz0.out _ rfl) hone0.out ?_; rw [← hW4'.out])
            refine hfi.out.mono ?_
            rintro e w5 ⟨⟨i, rfl, hFi⟩, hT5⟩
            clear hfi
            rcases hFi.best hmon with ⟨hbn, rfl⟩ | ⟨b, hb, rfl, hbb⟩
            · rw [hbY.out] at hbn; cases hbn
            · have hmy : m[b] = y := by rw [hbY.out] at hbb; injection hbb with hbb; exact hbb.symm
              have hwd := without_drop hmon b hb
              rw [hmy] at hwd
              have hT5d := hT5.later ((isAsr_row _ _ _ _ _).star ((isAsr_box _ _).star ((isAsr_obj K.toIsKind _ _).star ((isAsr_box _ _).star isAsr_nil)))) (Below.refl _ _).drew
              rcases own_spot hT5d.rowAt.1 with ⟨-, e⟩ | ⟨g, c, rfl, -⟩
              · omega
              have hrd := Lib.hid (fun w' (h : Held w w' (star (rowA 39 4 (.slice (some ⟨g, 0, none⟩) m.length c) m.length (rowK Qit.cells m)) (star (boxA w3.heap.size y.cells) (star (objA O wa.heap.size (dropQ m y.Stamp)) (star (boxA B X) nilA))))) => (show (w'.cell? ⟨g, b * 4, none⟩ = some (.int .i64 y.Due) ∧ g < w'.heap.size) ∧ (w'.cell? ⟨B, 5, none⟩ = some (.int .i64 nn) ∧ B < w'.heap.size) ∧ w'.rangeAt g (b * 4) y.cells ∧ w'.rangeAt w3.heap.size 0 y.cells from by
                have hrr := rowK_range refK h.rowAt.1 b hb
                rw [hmy] at hrr
                exact ⟨⟨hrr 0 _ rfl, (h.rowAt.1.lt g rfl).2⟩, ⟨(hbx.out _ h.rest.pull3.boxAt.1).2.2.1, h.rest.pull3.boxAt.1.lt⟩, hrr, h.pull.boxAt.1.range⟩))
              have hixb := Lib.hid (fun w => run_idx_ref g m.length c b hb w)
              have hbl : decide (((b : Nat) : Int) < 0) = false := decide_eq_false (by omega)
              have hml := (dropQ_sub m y.Stamp).length_le
              replace hT5d := Lib.hid hT5d
              replace hwd := Lib.hid hwd
              have hdl := Lib.hid (fun w1 (h : Held w w1 (star (rowA 39 4 (.slice (some ⟨g, 0, none⟩) m.length c) m.length (rowK Qit.cells m)) (star (boxA w3.heap.size y.cells) (star (objA O wa.heap.size (dropQ m y.Stamp)) (star (boxA B X) nilA))))) => (show Held w w1.drew (star (rowA 39 4 (.slice (some ⟨g, 0, none⟩) m.length c) m.length (rowK Qit.cells m)) (star (boxA w3.heap.size y.cells) (star (objA O wa.heap.size (dropQ m y.Stamp)) (star (boxA B X) nilA)))) from
                h.later ((isAsr_row _ _ _ _ _).star ((isAsr_box _ _).star ((isAsr_obj K.toIsKind _ _).star ((isAsr_box _ _).star isAsr_nil)))) (Below.refl _ _).drew))
              have hwo := Lib.hid (fun w1 (h : Held w w1 (star (rowA 39 4 (.slice (some ⟨g, 0, none⟩) m.length c) m.length (rowK Qit.cells m)) (star (boxA w3.heap.size y.cells) (star (objA O wa.heap.size (dropQ m y.Stamp)) (star (boxA B X) nilA))))) => refWithout_any h.rowAt.1 (by omega) b hb)
              have hfin := Lib.hid (fun w1 w2 v2 (h : Held w w1 (star (rowA 39 4 (.slice (some ⟨g, 0, none⟩) m.length c) m.length (rowK Qit.cells m)) (star (boxA w3.heap.size y.cells) (star (objA O wa.heap.size (dropQ m y.Stamp)) (star (boxA B X) nilA))))) (ho : RefRow w2 v2 (m.take b ++ m.drop (b + 1))) (hb2 : Below w1.heap.size w1 w2) (hg : ∀ k, v2.ownBlock = some k → w1.heap.size ≤ k) => (show Held w w2 (QL O wa.heap.size (dropQ m y.Stamp) v2 (star (boxA B X) nilA)) from by
                have h2 := Held.step (isAsr_row _ _ _ _ _) ((isAsr_box _ _).star ((isAsr_obj K.toIsKind _ _).star ((isAsr_box _ _).star isAsr_nil))) h (fun F hF => postA_row hF ho (Only.of_below hb2) (fun k hk x => by have := hg k x; omega))
                rw [hwd.out] at h2
                exact h2.pull.rest.pull))
              clear hT5 hFi hbb hmy hbY hwd
              generalize y.Due = yd at *
              generalize hYc : y.cells = Y at *
              clear hYc
              go_upto_region 24 with (fail)
              refine wp_region_calm (fun w' => Held w w' (star (rowA 39 4 (.slice (some ⟨g, 0, none⟩) m.length c) m.length (rowK Qit.cells m)) (star (boxA w3.heap.size Y) (star (objA O wa.heap.size (dropQ m y.Stamp)) (star (boxA B X) nilA))))) (by kernel_rfl) (by kernel_rfl) hT5d.out ?_
              refine calm_pure (v := ?cv432) (by rfl) (fun w' => ?ch432) ?cr432
              case ch432 => (go_simp; first | done | with_reducible rfl)
              try simp only [Act.put, List.setIfInBounds_toArray, List.set_cons_zero, List.set_cons_succ]
              refine calm_pure (v := ?cv435) (by rfl) (fun w' => ?ch435) ?cr435
              case ch435 => (go_simp; first | done | with_reducible rfl)
              try simp only [Act.put, List.setIfInBounds_toArray, List.set_cons_zero, List.set_cons_succ]
              refine calm_pure (v := ?cv438) (by rfl) (fun w' => ?ch438) ?cr438
              case ch438 => (go_simp; first | done | with_reducible rfl)
              try simp only [Act.put, List.setIfInBounds_toArray, List.set_cons_zero, List.set_cons_succ]
              refine calm_pure (v := ?cv441) (by rfl) (fun w' => ?ch441) ?cr441
              case ch441 => (go_simp; first | done | with_reducible rfl)
              try simp only [Act.put, List.setIfInBounds_toArray, List.set_cons_zero, List.set_cons_succ]
              refine calm_pure (v := ?cv444) (by rfl) (fun w' => ?ch444) ?cr444
              case ch444 => (go_simp; first | done | with_reducible rfl)
              try simp only [Act.put, List.setIfInBounds_toArray, List.set_cons_zero, List.set_cons_succ]
              refine calm_index 29 _ _ (.slice (some ⟨g, 0, none⟩) m.length c) (.int .i64 (b : Int)) _ (by rfl) rfl rfl rfl hixb.out ?_
              try simp only [Act.put, List.setIfInBounds_toArray, List.set_cons_zero, List.set_cons_succ]
              refine calm_pure (v := ?cv449) (by rfl) (fun w' => ?ch449) ?cr449
              case ch449 => (go_simp; first | done | with_reducible rfl)
              try simp only [Act.put, List.setIfInBounds_toArray, List.set_cons_zero, List.set_cons_succ]
              refine calm_read (v := (.int .i64 yd)) (by rfl) (fun w' h => ?ch452) ?cr452
              case ch452 => (obtain ⟨hcq, hcl⟩ := (hrd.out w' h).1; go_simp)
              try simp only [Act.put, List.setIfInBounds_toArray, List.set_cons_zero, List.set_cons_succ]
              refine calm_pure (v := ?cv455) (by rfl) (fun w' => ?ch455) ?cr455
              case ch455 => (go_simp; first | done | with_reducible rfl)
              try simp only [Act.put, List.setIfInBounds_toArray, List.set_cons_zero, List.set_cons_succ]
              refine calm_read (v := (.int .i64 nn)) (by rfl) (fun w' h => ?ch458) ?cr458
              case ch458 => (obtain ⟨hcq, hcl⟩ := (hrd.out w' h).2.1; go_simp)
              try simp only [Act.put, List.setIfInBounds_toArray, List.set_cons_zero, List.set_cons_succ]
              refine calm_pure (v := ?cv461) (by rfl) (fun w' => ?ch461) ?cr461
              case ch461 => (go_simp; first | done | with_reducible rfl)
              try simp only [Act.put, List.setIfInBounds_toArray, List.set_cons_zero, List.set_cons_succ]
              refine calm_pure (v := ?cv464) (by rfl) (fun w' => ?ch464) ?cr464
              case ch464 => (go_simp; first | done | with_reducible rfl)
              try simp only [Act.put, List.setIfInBounds_toArray, List.set_cons_zero, List.set_cons_succ]
              intro w9 hm9
              have hd9 := Lib.hid (hdl.out _ hm9)
              clear hm9 hdl hT5d
              go_upto_region 27 with (fail)
              refine wp_region_calm (fun w' => Held w w' (star (rowA 39 4 (.slice (some ⟨g, 0, none⟩) m.length c) m.length (rowK Qit.cells m)) (star (boxA w3.heap.size Y) (star (objA O wa.heap.size (dropQ m y.Stamp)) (star (boxA B X) nilA))))) (by kernel_rfl) (by kernel_rfl) hd9.out ?_
              refine calm_pure (v := ?cv472) (by rfl) (fun w' => ?ch472) ?cr472
              case ch472 => (go_simp; first | done | with_reducible rfl)
              try simp only [Act.put, List.setIfInBounds_toArray, List.set_cons_zero, List.set_cons_succ]
              refine calm_pure (v := ?cv475) (by rfl) (fun w' => ?ch475) ?cr475
              case ch475 => (go_simp; first | done | with_reducible rfl)
              try simp only [Act.put, List.setIfInBounds_toArray, List.set_cons_zero, List.set_cons_succ]
              refine calm_pure (v := ?cv478) (by rfl) (fun w' => ?ch478) ?cr478
              case ch478 => (go_simp; first | done | with_reducible rfl)
              try simp only [Act.put, List.setIfInBounds_toArray, List.set_cons_zero, List.set_cons_succ]
              refine calm_load 34 _ w3.heap.size 0 Y _ (by rfl) rfl rfl (fun w' h => (hrd.out w' h).2.2.2) Try.underlying34 rfl hiL0.out ?_
              try simp only [Act.put, List.setIfInBounds_toArray, List.set_cons_zero, List.set_cons_succ]
              refine calm_pure (v := ?cv483) (by rfl) (fun w' => ?ch483) ?cr483
              case ch483 => (go_simp; first | done | with_reducible rfl)
              try simp only [Act.put, List.setIfInBounds_toArray, List.set_cons_zero, List.set_cons_succ]
              refine calm_pure (v := ?cv486) (by rfl) (fun w' => ?ch486) ?cr486
              case ch486 => (go_simp; first | done | with_reducible rfl)
              try simp only [Act.put, List.setIfInBounds_toArray, List.set_cons_zero, List.set_cons_succ]
              refine calm_index 29 _ _ (.slice (some ⟨g, 0, none⟩) m.length c) (.int .i64 (b : Int)) _ (by rfl) rfl rfl rfl hixb.out ?_
              try simp only [Act.put, List.setIfInBounds_toArray, List.set_cons_zero, List.set_cons_succ]
              refine calm_load 39 _ g (b * 4) Y _ (by rfl) rfl rfl (fun w' h => (hrd.out w' h).2.2.1) Try.underlying39 rfl hyl.out ?_
              try simp only [Act.put, List.setIfInBounds_toArray, List.set_cons_zero, List.set_cons_succ]
              refine calm_pure (v := ?cv493) (by rfl) (fun w' => ?ch493) ?cr493
              case ch493 => (go_simp; first | done | with_reducible rfl)
              try simp only [Act.put, List.setIfInBounds_toArray, List.set_cons_zero, List.set_cons_succ]
              refine calm_pure (v := ?cv496) (by rfl) (fun w' => ?ch496) ?cr496
              case ch496 => (go_simp; first | done | with_reducible rfl)
              try simp only [Act.put, List.setIfInBounds_toArray, List.set_cons_zero, List.set_cons_succ]
              intro w10 hm10
              have hwo1 := Lib.hid (hwo.out _ hm10)
              have hfin1 := Lib.hid (fun w2 v2 ho hb2 hg => hfin.out w10 w2 v2 hm10 ho hb2 hg)
              clear hm10 hd9 hrd hixb hwo hfin
              go_wp2_with fail
              refine hwo1.out.mono ?_
              rintro e w11 ⟨v2, rfl, ho, hb2, hg⟩
              have hT11 := Lib.hid (hfin1.out _ _ ho hb2 hg)
              clear ho hb2 hg hfin1 hwo1
              go_wp2_with fail
              go_meet
              case rel => exact ⟨dropQ m y.Stamp, by omega, hT11.out⟩
        · have n2 : (kind == 2) = false := beq_eq_false_iff_ne.2 e2
          clear e2 hrow
          go_wp2_with fail
          go_meet
          case rel => exact ⟨m, by omega, hT2.out⟩
      case rest =>
        obtain ⟨m2, hm2, hT⟩ := hcut
        have hmon := hT.once K
        obtain ⟨ao2, c2, rfl⟩ := row_form hT.pull
        clear hT2
        have hfq := quFirst_h K ((isAsr_row _ _ _ _ _).star ((isAsr_box _ _).star isAsr_nil)) hT
        cases hbq : bestQ m2 with
        | none =>
          rw [hbq] at hfq
          replace hbq := Lib.hid hbq
          unfold popV itemV at hfq
          dsimp only [Option.getD_none, Option.isSome_none, Option.getD_some, Option.isSome_some] at hfq
          replace hfq := Lib.hid hfq
          clear hT
          go_wp2_with fail
          refine hfq.out.mono ?_
          rintro e w3 ⟨rfl, hT3⟩
          have hT4 := hT3.box ((isAsr_obj K.toIsKind _ _).star ((isAsr_row _ _ _ _ _).star ((isAsr_box _ _).star isAsr_nil))) zeroQ.cells 34
          obtain ⟨W4, hW4⟩ : ∃ W4, W4 = w3.alloc (.cells zeroQ.cells.toArray 34) := ⟨_, rfl⟩
          rw [← hW4] at hT4
          have hfi := Lib.hid (Held.ask (isAsr_row _ _ _ _ _) ((isAsr_box _ _).star ((isAsr_obj K.toIsKind _ _).star ((isAsr_box _ _).star isAsr_nil))) (S := fun e _ => ∃ i, e = .returned (.int .i64 i) ∧ FirstAt m2 m2.length i) hT4.pull3 (fun F hF => refFirst_any hF.1 (by omega)))
          have hi0 := Lib.hid (show (Try.prog.info? 34).map (·.size) = some zeroQ.cells.toArray.size by kernel_rfl)
          have hiL0 := Lib.hid (show (Try.prog.info? 34).map (·.size) = some zeroQ.cells.length by kernel_rfl)
          have hone0 := Lib.hid (all_oneCell_toArray (refK.one zeroQ))
          have hcz0 : ∀ z : Array Value, z.size = 4 → z.size = zeroQ.cells.toArray.size := fun z h => h
          replace hcz0 := Lib.hid hcz0
          have hW4' := Lib.hid hW4
          clear hfq hT3 hT4 hW4
          go_wp2_with (refine wpList_store_new rfl 34 (.tmp 11) (.tmp 114) rfl w3 _ zeroQ.cells.toArray rfl rfl rfl hi0.out (hcz0.out _ rfl) hone0.out ?_; rw [← hW4'.out])
          refine hfi.out.mono ?_
          rintro e w5 ⟨⟨i, rfl, hFi⟩, hT5⟩
          clear hfi
          have hend := Lib.hid (fun w9 (h : Held w w9 (star (rowA 39 4 (.slice ao2 m2.length c2) m2.length (rowK Qit.cells m2)) (star (boxA w3.heap.size zeroQ.cells) (star (objA O wa.heap.size m2) (star (boxA B X) nilA))))) => (show Held w w9 (QL O wa.heap.size m2 (.slice ao2 m2.length c2) nilA) from h.pull.rest.pull3.rest.pull))
          have hlen := Lib.hid (fun w9 (h : Held w w9 (star (rowA 39 4 (.slice ao2 m2.length c2) m2.length (rowK Qit.cells m2)) (star (boxA w3.heap.size zeroQ.cells) (star (objA O wa.heap.size m2) (star (boxA B X) nilA))))) => (quLen_h K ((isAsr_row _ _ _ _ _).star ((isAsr_box _ _).star ((isAsr_box _ _).star isAsr_nil))) h.pull3).mono (fun _ _ x => (⟨x.1, x.2.push3⟩ : _ ∧ Held w _ (star (rowA 39 4 (.slice ao2 m2.length c2) m2.length (rowK Qit.cells m2)) (star (boxA w3.heap.size zeroQ.cells) (star (objA O wa.heap.size m2) (star (boxA B X) nilA)))))))
          have hT5d := Lib.hid (hT5.later ((isAsr_row _ _ _ _ _).star ((isAsr_box _ _).star ((isAsr_obj K.toIsKind _ _).star ((isAsr_box _ _).star isAsr_nil)))) (Below.refl _ _).drew)
          clear hT5
          rcases hFi.best hmon with ⟨hbn, rfl⟩ | ⟨b, hb, rfl, hbb⟩
          · clear hFi hbn
            go_upto_region 32 with (fail)
            refine wp_region_calm (fun w' => Held w w' (star (rowA 39 4 (.slice ao2 m2.length c2) m2.length (rowK Qit.cells m2)) (star (boxA w3.heap.size zeroQ.cells) (star (objA O wa.heap.size m2) (star (boxA B X) nilA))))) (by kernel_rfl) (by kernel_rfl) hT5d.out ?_
            refine calm_pure (v := ?cv556) (by rfl) (fun w' => ?ch556) ?cr556
            case ch556 => (go_simp; first | done | with_reducible rfl)
            try simp only [Act.put, List.setIfInBounds_toArray, List.set_cons_zero, List.set_cons_succ]
            refine calm_call 15 #[.pointer (some ⟨wa.heap.size, 0, none⟩)] (by rfl) (fun w' => by go_simp) (fun w' h => hlen.out w' h) ?_
            try simp only [Act.put, List.setIfInBounds_toArray, List.set_cons_zero, List.set_cons_succ]
            refine calm_pure (v := ?cv561) (by rfl) (fun w' => ?ch561) ?cr561
            case ch561 => (go_simp; first | done | with_reducible rfl)
            try simp only [Act.put, List.setIfInBounds_toArray, List.set_cons_zero, List.set_cons_succ]
            refine calm_pure (v := ?cv564) (by rfl) (fun w' => ?ch564) ?cr564
            case ch564 => (go_simp; first | done | with_reducible rfl)
            try simp only [Act.put, List.setIfInBounds_toArray, List.set_cons_zero, List.set_cons_succ]
            refine calm_pure (v := ?cv567) (by rfl) (fun w' => ?ch567) ?cr567
            case ch567 => (go_simp; first | done | with_reducible rfl)
            try simp only [Act.put, List.setIfInBounds_toArray, List.set_cons_zero, List.set_cons_succ]
            refine calm_pure (v := ?cv570) (by rfl) (fun w' => ?ch570) ?cr570
            case ch570 => (go_simp; first | done | with_reducible rfl)
            try simp only [Act.put, List.setIfInBounds_toArray, List.set_cons_zero, List.set_cons_succ]
            refine calm_pure (v := ?cv573) (by rfl) (fun w' => ?ch573) ?cr573
            case ch573 => (go_simp; first | done | with_reducible rfl)
            try simp only [Act.put, List.setIfInBounds_toArray, List.set_cons_zero, List.set_cons_succ]
            refine calm_pure (v := ?cv576) (by rfl) (fun w' => ?ch576) ?cr576
            case ch576 => (go_simp; first | done | with_reducible rfl)
            try simp only [Act.put, List.setIfInBounds_toArray, List.set_cons_zero, List.set_cons_succ]
            refine calm_pure (v := ?cv579) (by rfl) (fun w' => ?ch579) ?cr579
            case ch579 => (go_simp; first | done | with_reducible rfl)
            try simp only [Act.put, List.setIfInBounds_toArray, List.set_cons_zero, List.set_cons_succ]
            refine calm_pure (v := ?cv582) (by rfl) (fun w' => ?ch582) ?cr582
            case ch582 => (go_simp; first | done | with_reducible rfl)
            try simp only [Act.put, List.setIfInBounds_toArray, List.set_cons_zero, List.set_cons_succ]
            refine calm_pure (v := ?cv585) (by rfl) (fun w' => ?ch585) ?cr585
            case ch585 => (go_simp; first | done | with_reducible rfl)
            try simp only [Act.put, List.setIfInBounds_toArray, List.set_cons_zero, List.set_cons_succ]
            refine calm_pure (v := ?cv588) (by rfl) (fun w' => ?ch588) ?cr588
            case ch588 => (go_simp; first | done | with_reducible rfl)
            try simp only [Act.put, List.setIfInBounds_toArray, List.set_cons_zero, List.set_cons_succ]
            refine calm_pure (v := ?cv591) (by rfl) (fun w' => ?ch591) ?cr591
            case ch591 => (go_simp; first | done | with_reducible rfl)
            try simp only [Act.put, List.setIfInBounds_toArray, List.set_cons_zero, List.set_cons_succ]
            refine calm_pure (v := ?cv594) (by rfl) (fun w' => ?ch594) ?cr594
            case ch594 => (go_simp; first | done | with_reducible rfl)
            try simp only [Act.put, List.setIfInBounds_toArray, List.set_cons_zero, List.set_cons_succ]
            refine calm_skip (by rfl) ?_
            try simp only [Act.put, List.setIfInBounds_toArray, List.set_cons_zero, List.set_cons_succ]
            refine calm_skip (by rfl) ?_
            try simp only [Act.put, List.setIfInBounds_toArray, List.set_cons_zero, List.set_cons_succ]
            refine calm_skip (by rfl) ?_
            try simp only [Act.put, List.setIfInBounds_toArray, List.set_cons_zero, List.set_cons_succ]
            refine calm_skip (by rfl) ?_
            try simp only [Act.put, List.setIfInBounds_toArray, List.set_cons_zero, List.set_cons_succ]
            refine calm_skip (by rfl) ?_
            try simp only [Act.put, List.setIfInBounds_toArray, List.set_cons_zero, List.set_cons_succ]
            refine calm_skip (by rfl) ?_
            try simp only [Act.put, List.setIfInBounds_toArray, List.set_cons_zero, List.set_cons_succ]
            refine calm_pure (v := ?cv609) (by rfl) (fun w' => ?ch609) ?cr609
            case ch609 => (go_simp; first | done | with_reducible rfl)
            try simp only [Act.put, List.setIfInBounds_toArray, List.set_cons_zero, List.set_cons_succ]
            refine calm_pure (v := ?cv612) (by rfl) (fun w' => ?ch612) ?cr612
            case ch612 => (go_simp; first | done | with_reducible rfl)
            try simp only [Act.put, List.setIfInBounds_toArray, List.set_cons_zero, List.set_cons_succ]
            intro w9 hm9
            have hR9 := Lib.hid (hend.out w9 hm9)
            clear hm9 hend hlen hT5d
            go_wp2
            go_roundw
            case measure => simp [RowKit.intOf]; omega
            case rel => exact ⟨k + 1, m2, by omega, rfl, by omega, hR9.out⟩
          · rw [hbq.out] at hbb; cases hbb
        | some y =>
          rw [hbq] at hfq
          replace hbq := Lib.hid hbq
          unfold popV itemV at hfq
          dsimp only [Option.getD_none, Option.isSome_none, Option.getD_some, Option.isSome_some] at hfq
          replace hfq := Lib.hid hfq
          clear hT
          go_wp2_with fail
          refine hfq.out.mono ?_
          rintro e w3 ⟨rfl, hT3⟩
          have hT4 := hT3.box ((isAsr_obj K.toIsKind _ _).star ((isAsr_row _ _ _ _ _).star ((isAsr_box _ _).star isAsr_nil))) y.cells 34
          obtain ⟨W4, hW4⟩ : ∃ W4, W4 = w3.alloc (.cells y.cells.toArray 34) := ⟨_, rfl⟩
          rw [← hW4] at hT4
          have hfi := Lib.hid (Held.ask (isAsr_row _ _ _ _ _) ((isAsr_box _ _).star ((isAsr_obj K.toIsKind _ _).star ((isAsr_box _ _).star isAsr_nil))) (S := fun e _ => ∃ i, e = .returned (.int .i64 i) ∧ FirstAt m2 m2.length i) hT4.pull3 (fun F hF => refFirst_any hF.1 (by omega)))
          have hi0 := Lib.hid (show (Try.prog.info? 34).map (·.size) = some y.cells.toArray.size by kernel_rfl)
          have hiL0 := Lib.hid (show (Try.prog.info? 34).map (·.size) = some y.cells.length by kernel_rfl)
          have hone0 := Lib.hid (all_oneCell_toArray (refK.one y))
          have hcz0 : ∀ z : Array Value, z.size = 4 → z.size = y.cells.toArray.size := fun z h => h
          replace hcz0 := Lib.hid hcz0
          have hW4' := Lib.hid hW4
          clear hfq hT3 hT4 hW4
          go_wp2_with (refine wpList_store_new rfl 34 (.tmp 11) (.tmp 114) rfl w3 _ y.cells.toArray rfl rfl rfl hi0.out (hcz0.out _ rfl) hone0.out ?_; rw [← hW4'.out])
          refine hfi.out.mono ?_
          rintro e w5 ⟨⟨i, rfl, hFi⟩, hT5⟩
          clear hfi
          have hend := Lib.hid (fun w9 (h : Held w w9 (star (rowA 39 4 (.slice ao2 m2.length c2) m2.length (rowK Qit.cells m2)) (star (boxA w3.heap.size y.cells) (star (objA O wa.heap.size m2) (star (boxA B X) nilA))))) => (show Held w w9 (QL O wa.heap.size m2 (.slice ao2 m2.length c2) nilA) from h.pull.rest.pull3.rest.pull))
          have hlen := Lib.hid (fun w9 (h : Held w w9 (star (rowA 39 4 (.slice ao2 m2.length c2) m2.length (rowK Qit.cells m2)) (star (boxA w3.heap.size y.cells) (star (objA O wa.heap.size m2) (star (boxA B X) nilA))))) => (quLen_h K ((isAsr_row _ _ _ _ _).star ((isAsr_box _ _).star ((isAsr_box _ _).star isAsr_nil))) h.pull3).mono (fun _ _ x => (⟨x.1, x.2.push3⟩ : _ ∧ Held w _ (star (rowA 39 4 (.slice ao2 m2.length c2) m2.length (rowK Qit.cells m2)) (star (boxA w3.heap.size y.cells) (star (objA O wa.heap.size m2) (star (boxA B X) nilA)))))))
          have hT5d := Lib.hid (hT5.later ((isAsr_row _ _ _ _ _).star ((isAsr_box _ _).star ((isAsr_obj K.toIsKind _ _).star ((isAsr_box _ _).star isAsr_nil)))) (Below.refl _ _).drew)
          clear hT5
          rcases hFi.best hmon with ⟨hbn, rfl⟩ | ⟨b, hb, rfl, hbb⟩
          · rw [hbq.out] at hbn; cases hbn
          · have hmy : m2[b] = y := by rw [hbq.out] at hbb; injection hbb with hbb; exact hbb.symm
            rcases own_spot hT5d.out.rowAt.1 with ⟨-, e⟩ | ⟨g, c, hsl, -⟩
            · omega
            obtain ⟨rfl, rfl⟩ : ao2 = some ⟨g, 0, none⟩ ∧ c2 = c := by injection hsl with e1 _ e3; exact ⟨e1, e3⟩
            have hrd := Lib.hid (fun w' (h : Held w w' (star (rowA 39 4 (.slice (some ⟨g, 0, none⟩) m2.length c2) m2.length (rowK Qit.cells m2)) (star (boxA w3.heap.size y.cells) (star (objA O wa.heap.size m2) (star (boxA B X) nilA))))) => (show w'.rangeAt g (b * 4) y.cells ∧ w'.rangeAt w3.heap.size 0 y.cells from by
              have hrr := rowK_range refK h.rowAt.1 b hb
              rw [hmy] at hrr
              exact ⟨hrr, h.pull.boxAt.1.range⟩))
            have hixb := Lib.hid (fun w => run_idx_ref g m2.length c2 b hb w)
            have hneq := run_same_ref y
            have hyl := Lib.hid (show (Try.prog.info? 39).map (·.size) = some y.cells.length by kernel_rfl)
            clear hFi hbb hmy hsl
            generalize y.cells = Y at *
            go_upto_region 32 with (fail)
            refine wp_region_calm (fun w' => Held w w' (star (rowA 39 4 (.slice (some ⟨g, 0, none⟩) m2.length c2) m2.length (rowK Qit.cells m2)) (star (boxA w3.heap.size Y) (star (objA O wa.heap.size m2) (star (boxA B X) nilA))))) (by kernel_rfl) (by kernel_rfl) hT5d.out ?_
            refine calm_pure (v := ?cv669) (by rfl) (fun w' => ?ch669) ?cr669
            case ch669 => (go_simp; first | done | with_reducible rfl)
            try simp only [Act.put, List.setIfInBounds_toArray, List.set_cons_zero, List.set_cons_succ]
            refine calm_call 15 #[.pointer (some ⟨wa.heap.size, 0, none⟩)] (by rfl) (fun w' => by go_simp) (fun w' h => hlen.out w' h) ?_
            try simp only [Act.put, List.setIfInBounds_toArray, List.set_cons_zero, List.set_cons_succ]
            refine calm_pure (v := ?cv674) (by rfl) (fun w' => ?ch674) ?cr674
            case ch674 => (go_simp; first | done | with_reducible rfl)
            try simp only [Act.put, List.setIfInBounds_toArray, List.set_cons_zero, List.set_cons_succ]
            refine calm_pure (v := ?cv677) (by rfl) (fun w' => ?ch677) ?cr677
            case ch677 => (go_simp; first | done | with_reducible rfl)
            try simp only [Act.put, List.setIfInBounds_toArray, List.set_cons_zero, List.set_cons_succ]
            refine calm_pure (v := ?cv680) (by rfl) (fun w' => ?ch680) ?cr680
            case ch680 => (go_simp; first | done | with_reducible rfl)
            try simp only [Act.put, List.setIfInBounds_toArray, List.set_cons_zero, List.set_cons_succ]
            refine calm_pure (v := ?cv683) (by rfl) (fun w' => ?ch683) ?cr683
            case ch683 => (go_simp; first | done | with_reducible rfl)
            try simp only [Act.put, List.setIfInBounds_toArray, List.set_cons_zero, List.set_cons_succ]
            refine calm_pure (v := ?cv686) (by rfl) (fun w' => ?ch686) ?cr686
            case ch686 => (go_simp; first | done | with_reducible rfl)
            try simp only [Act.put, List.setIfInBounds_toArray, List.set_cons_zero, List.set_cons_succ]
            refine calm_pure (v := ?cv689) (by rfl) (fun w' => ?ch689) ?cr689
            case ch689 => (go_simp; first | done | with_reducible rfl)
            try simp only [Act.put, List.setIfInBounds_toArray, List.set_cons_zero, List.set_cons_succ]
            refine calm_pure (v := ?cv692) (by rfl) (fun w' => ?ch692) ?cr692
            case ch692 => (go_simp; first | done | with_reducible rfl)
            try simp only [Act.put, List.setIfInBounds_toArray, List.set_cons_zero, List.set_cons_succ]
            refine calm_pure (v := ?cv695) (by rfl) (fun w' => ?ch695) ?cr695
            case ch695 => (go_simp; first | done | with_reducible rfl)
            try simp only [Act.put, List.setIfInBounds_toArray, List.set_cons_zero, List.set_cons_succ]
            refine calm_pure (v := ?cv698) (by rfl) (fun w' => ?ch698) ?cr698
            case ch698 => (go_simp; first | done | with_reducible rfl)
            try simp only [Act.put, List.setIfInBounds_toArray, List.set_cons_zero, List.set_cons_succ]
            refine calm_pure (v := ?cv701) (by rfl) (fun w' => ?ch701) ?cr701
            case ch701 => (go_simp; first | done | with_reducible rfl)
            try simp only [Act.put, List.setIfInBounds_toArray, List.set_cons_zero, List.set_cons_succ]
            refine calm_pure (v := ?cv704) (by rfl) (fun w' => ?ch704) ?cr704
            case ch704 => (go_simp; first | done | with_reducible rfl)
            try simp only [Act.put, List.setIfInBounds_toArray, List.set_cons_zero, List.set_cons_succ]
            refine calm_pure (v := ?cv707) (by rfl) (fun w' => ?ch707) ?cr707
            case ch707 => (go_simp; first | done | with_reducible rfl)
            try simp only [Act.put, List.setIfInBounds_toArray, List.set_cons_zero, List.set_cons_succ]
            refine calm_load 34 _ w3.heap.size 0 Y _ (by rfl) rfl rfl (fun w' h => (hrd.out w' h).2) Try.underlying34 rfl hiL0.out ?_
            try simp only [Act.put, List.setIfInBounds_toArray, List.set_cons_zero, List.set_cons_succ]
            refine calm_pure (v := ?cv712) (by rfl) (fun w' => ?ch712) ?cr712
            case ch712 => (go_simp; first | done | with_reducible rfl)
            try simp only [Act.put, List.setIfInBounds_toArray, List.set_cons_zero, List.set_cons_succ]
            refine calm_pure (v := ?cv715) (by rfl) (fun w' => ?ch715) ?cr715
            case ch715 => (go_simp; first | done | with_reducible rfl)
            try simp only [Act.put, List.setIfInBounds_toArray, List.set_cons_zero, List.set_cons_succ]
            refine calm_index 29 _ _ (.slice (some ⟨g, 0, none⟩) m2.length c2) (.int .i64 (b : Int)) _ (by rfl) rfl rfl rfl hixb.out ?_
            try simp only [Act.put, List.setIfInBounds_toArray, List.set_cons_zero, List.set_cons_succ]
            refine calm_load 39 _ g (b * 4) Y _ (by rfl) rfl rfl (fun w' h => (hrd.out w' h).1) Try.underlying39 rfl hyl.out ?_
            try simp only [Act.put, List.setIfInBounds_toArray, List.set_cons_zero, List.set_cons_succ]
            refine calm_pure (v := ?cv722) (by rfl) (fun w' => ?ch722) ?cr722
            case ch722 => (go_simp; first | done | with_reducible rfl)
            try simp only [Act.put, List.setIfInBounds_toArray, List.set_cons_zero, List.set_cons_succ]
            refine calm_pure (v := ?cv725) (by rfl) (fun w' => ?ch725) ?cr725
            case ch725 => (go_simp; first | done | with_reducible rfl)
            try simp only [Act.put, List.setIfInBounds_toArray, List.set_cons_zero, List.set_cons_succ]
            refine calm_pure (v := ?cv728) (by rfl) (fun w' => ?ch728) ?cr728
            case ch728 => (go_simp; first | done | with_reducible rfl)
            try simp only [Act.put, List.setIfInBounds_toArray, List.set_cons_zero, List.set_cons_succ]
            intro w9 hm9
            have hR9 := Lib.hid (hend.out w9 hm9)
            clear hm9 hend hlen hT5d hrd hixb
            go_wp2
            go_roundw
            case measure => simp [RowKit.intOf]; omega
            case rel => exact ⟨k + 1, m2, by omega, rfl, by omega, hR9.out⟩
    · have hkl : k = l.length := by omega
      subst hkl
      have hbl := hT.below
      have n1 := Z.put zeroQ
      have n2 := Lib.hid (Z.pop 1)
      have n3 := Lib.hid Z.first
      have n4 := Lib.hid (Z.drop 1)
      have n5 := Lib.hid Z.len
      have ez : itemV zeroQ = .agg #[.int .i64 0, .int .i64 0, .int .u64 0, .int .u64 0] := itemV_lit 0 0
      have ep : popV none = .tuple #[.agg #[.int .i64 0, .int .i64 0, .int .u64 0, .int .u64 0], .bool false] := by
        unfold popV
        rw [Option.getD_none, ez]; rfl
      rw [ez] at n1
      rw [ep] at n2 n3
      replace n1 := Lib.hid n1
      clear ez ep hT
      go_wp2_with fail
      refine (n1.out _).mono ?_
      rintro e w2 ⟨rfl, hb2⟩
      replace hbl := hbl.trans (hb2.mono hbl.size)
      clear hb2 n1
      go_wp2_with fail
      refine (n2.out _).mono ?_
      rintro e w3 ⟨rfl, hb2⟩
      replace hbl := hbl.trans (hb2.mono hbl.size)
      clear hb2 n2
      replace hbl := hbl.alloc hbl.size (.cells #[.int .i64 0, .int .i64 0, .int .u64 0, .int .u64 0] 34)
      go_upto_region 38 with (fail)
      generalize w3.alloc (.cells #[.int .i64 0, .int .i64 0, .int .u64 0, .int .u64 0] 34) = w4 at *
      go_wp2_with fail
      refine (n3.out _).mono ?_
      rintro e w5 ⟨rfl, hb2⟩
      replace hbl := hbl.trans (hb2.mono hbl.size)
      clear hb2 n3
      replace hbl := hbl.alloc hbl.size (.cells #[.int .i64 0, .int .i64 0, .int .u64 0, .int .u64 0] 34)
      go_upto_region 39 with (fail)
      generalize w5.alloc (.cells #[.int .i64 0, .int .i64 0, .int .u64 0, .int .u64 0] 34) = w6 at *
      go_wp2_with fail
      refine (n4.out _).mono ?_
      rintro e w7 ⟨rfl, hb2⟩
      replace hbl := hbl.trans (hb2.mono hbl.size)
      clear hb2 n4
      go_wp2_with fail
      refine (n5.out _).mono ?_
      rintro e w8 ⟨rfl, hb2⟩
      replace hbl := hbl.trans (hb2.mono hbl.size)
      clear hb2 n5
      go_wp2
      go_ret
      exact ⟨rfl, hbl⟩
end
end Go.Proofs.Ytgdlcfkgdaaooaa
