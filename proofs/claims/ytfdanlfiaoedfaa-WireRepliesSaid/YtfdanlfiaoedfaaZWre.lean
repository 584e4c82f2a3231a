/- Stage 22: results as numbers; the document's Fits. No condition but sizes. -/
import Derived.Test.YtfdanlfiaoedfaaZWra
namespace Go.Proofs.Ytfdanlfiaoedfaa
open Go.RowKit Go.Sort Wm Cr

theorem infoIntW : InfoK Try.prog 3 1 8 := InfoK.mk' (by kernel_rfl)
theorem run_idx_int1 (g o n c i : Nat) (h : i < n) (w : World) : (Instr.indexAt 46 (.slice (some ⟨g, o, none⟩) n c) (.int .i64 (i : Int))).run Try.prog w = .ok (.pointer (some ⟨g, o + i, none⟩)) w := by
  have := run_idx_K (P := Try.prog) (K := 1) (ty := 46) (e := 3) (by kernel_rfl) (by kernel_rfl) (by kernel_rfl) g o n c i h w
  rwa [Nat.mul_one] at this
set_option maxRecDepth 100000 in
set_option maxHeartbeats 4000000 in
theorem codes_any (l : List Resu) (ao : Option Addr) (cap : Nat) (W : World) (h : RowAt Resu.cells 1 W ao l) (hl : l.length ≤ 1000) :
    Calls Try.prog 18 #[.slice ao l.length cap] W fun e W' => ∃ ao' c', e = .returned (.slice ao' l.length c') ∧ RowAt Resu.cells 1 W' ao' l ∧ Below W.heap.size W W' := by
  have h2 := Lib.hid ((Held.start W).nilrow isAsr_nil 3 1)
  go_enter Try.func18, Try.ntmps18
  go_wp2_with fail
  go_loopw [3, 8] (fun lv iv wr => ∃ i : Nat, i ≤ l.length ∧ iv = .int .i64 i ∧ Held W wr (star (rowA 3 1 lv (l.take i).length (rowK Resu.cells (l.take i))) nilA)) (fun _ iv _ => (l.length - RowKit.intOf iv).toNat)
  case atStart => exact ⟨0, by omega, rfl, h2.out⟩
  case round =>
    clear h2
    obtain ⟨i, hi, rfl, hT⟩ := hrel
    by_cases hlt : i < l.length
    · obtain ⟨g, off, rfl, hg, hrg⟩ := (h.later hT.below).at hlt
      have hix := Lib.hid (fun w => run_idx_resu1 g off l.length cap i hlt w)
      have hcell := resu_cell hrg
      clear hrg
      have hltI : ((i : Nat) : Int) < ((l.length : Nat) : Int) := by omega
      have huR := Lib.hid (show Try.prog.underlying 46 = some (.slice 3) by kernel_rfl)
      have hlen : (l.take i).length = i := by rw [List.length_take]; omega
      have hnx : l.take i ++ [l[i]] = l.take (i + 1) := List.take_append_getElem hlt
      obtain ⟨g2, c2, w5, happ, ho, hO, hg2⟩ := app_oneK (P := Try.prog) (ty := 46) resuW (by kernel_rfl) infoIntW wr _ (l.take i) l[i] hT.rowAt.1 (by omega) (by omega) 3
      have h7 := Held.step (isAsr_row _ _ _ _ _) isAsr_nil hT (fun F hF => postA_row hF ho hO (fun k hk e => grown_own2 hg2 hk e))
      have e1 : (l.take i ++ [l[i]]).length = i + 1 := by rw [List.length_append, hlen]; rfl
      have hrel := Lib.hid (show Held W w5 (star (rowA 3 1 (.slice (some ⟨g2, 0, none⟩) (i + 1) c2) (l.take (i + 1)).length (rowK Resu.cells (l.take (i + 1)))) nilA) by
        rw [← hnx]
        rw [e1] at h7 ⊢
        exact h7)
      rw [hlen] at happ
      replace happ : (Builtin.append_ #[46, 46] 46 #[_, .slice (some ⟨wr.heap.size, 0, none⟩) 1 1]).run Try.prog (wr.alloc (.cells #[.int .i64 l[i].N] 3)) = .ok (.slice (some ⟨g2, 0, none⟩) (i + 1) c2) w5 := happ
      replace happ := Lib.hid happ
      generalize l[i].N = xn at *
      clear hT ho hO hg2 h7 e1 hnx
      go_wp2_with (first
        | (refine wpList_index_run rfl 41 (.tmp 6) (.tmp 8) rfl (.slice (some ⟨g, off, none⟩) l.length cap) (.int .i64 (i : Int)) _ rfl rfl (hix.out _) ?_)
        | (at_builtin; refine Lib.wpList_append_run _ rfl _ _ _ _ rfl _ _ rfl rfl _ _ happ.out ?_))
      have hA : i + 1 ≤ l.length := by omega
      clear hlen hi happ huR
      go_roundw
      case measure => (show (((l.length : Nat) : Int) - (((i : Nat) : Int) + 1)).toNat < (((l.length : Nat) : Int) - ((i : Nat) : Int)).toNat; omega)
      case rel => exact ⟨i + 1, hA, by go_num, hrel.out⟩
    · obtain rfl : i = l.length := by omega
      rw [List.take_length] at hT
      obtain ⟨ao2, c2, rfl, hr⟩ := RowAt.own resuW hT.rowAt.1
      replace hT := Lib.hid hT.below
      replace hr := Lib.hid hr
      go_wp2
      go_ret
      exact ⟨ao2, c2, rfl, hr.out, hT.out⟩
set_option maxRecDepth 100000 in
set_option maxHeartbeats 8000000 in
theorem refFits_any (er : Int) (rs : List Resu) (acs : List Acct) (ts : List Tran) (oR oA oT : Option Addr) (cR cA cT : Nat) (W : World) (hR : RowAt Resu.cells 1 W oR rs) (hA : RowAt Acct.cells 14 W oA acs) (hT : RowAt Tran.cells 16 W oT ts) :
    Calls Try.prog 20 #[.int .i64 er, .slice oR rs.length cR, .slice oA acs.length cA, .slice oT ts.length cT] W fun e W' => e = .returned (.bool (fitsP ⟨er, rs, acs, ts⟩)) ∧ Below W.heap.size W W' := by
  have hno := Lib.hid (fun (h : ¬ (0 ≤ er ∧ er ≤ 255 ∧ rs.length ≤ 16 ∧ acs.length ≤ 16 ∧ ts.length ≤ 16)) => (show fitsP ⟨er, rs, acs, ts⟩ = false from by
    cases hf : fitsP ⟨er, rs, acs, ts⟩
    · rfl
    · have hF := (fitsP_iff _).1 hf
      exact absurd ⟨hF.err.1, hF.err.2, hF.r, hF.a, hF.t⟩ h))
  have hsp := Lib.hid (fun (h : 0 ≤ er ∧ er ≤ 255 ∧ rs.length ≤ 16 ∧ acs.length ≤ 16 ∧ ts.length ≤ 16) => (show fitsP ⟨er, rs, acs, ts⟩ = (rs.all codeR && (acs.all goodA && ts.all goodT)) from by
    unfold fitsP codeB
    rw [decide_eq_true (show 0 ≤ er ∧ er ≤ 255 from ⟨h.1, h.2.1⟩), decide_eq_true h.2.2.1, decide_eq_true h.2.2.2.1, decide_eq_true h.2.2.2.2]
    rfl))
  generalize fitsP ⟨er, rs, acs, ts⟩ = r at *
  have hb00 := Lib.hid (Below.refl W.heap.size W)
  by_cases c0 : er < 0
  · obtain rfl : r = false := hno.out (by omega)
    clear hno hsp
    go_enter Try.func20, Try.ntmps20
    go_wp2
    go_ret
    exact ⟨rfl, hb00.out⟩
  by_cases c1 : 255 < er
  · obtain rfl : r = false := hno.out (by omega)
    clear hno hsp
    go_enter Try.func20, Try.ntmps20
    go_wp2
    go_ret
    exact ⟨rfl, hb00.out⟩
  by_cases c2 : 16 < rs.length
  · obtain rfl : r = false := hno.out (by omega)
    clear hno hsp
    go_enter Try.func20, Try.ntmps20
    go_wp2
    go_ret
    exact ⟨rfl, hb00.out⟩
  by_cases c3 : 16 < acs.length
  · obtain rfl : r = false := hno.out (by omega)
    clear hno hsp
    go_enter Try.func20, Try.ntmps20
    go_wp2
    go_ret
    exact ⟨rfl, hb00.out⟩
  by_cases c4 : 16 < ts.length
  · obtain rfl : r = false := hno.out (by omega)
    clear hno hsp
    go_enter Try.func20, Try.ntmps20
    go_wp2
    go_ret
    exact ⟨rfl, hb00.out⟩
  replace hsp := Lib.hid (hsp.out (by omega))
  clear hno
  replace hR := Lib.hid hR
  have hrowacct := Lib.hid (fun (W' : World) (hb : Below W.heap.size W W') => hA.later hb)
  have hrowtran := Lib.hid (fun (W' : World) (hb : Below W.heap.size W W') => hT.later hb)
  clear hA hT
  go_enter Try.func20, Try.ntmps20
  go_wp2_with fail
  go_loopw [38] (fun iv wr => ∃ i : Nat, i ≤ rs.length ∧ iv = .int .i64 i ∧ (∀ j (hj : j < rs.length), j < i → codeR rs[j] = true) ∧ W = wr) (fun iv _ => (rs.length - RowKit.intOf iv).toNat)
  case atStart => exact ⟨0, by omega, rfl, fun j hj h => by omega, rfl⟩
  case round =>
    obtain ⟨i, hi, rfl, hne, rfl⟩ := hrel
    by_cases hlt : i < rs.length
    · obtain ⟨g, off, rfl, hg, hrg⟩ := hR.out.at hlt
      have hix := Lib.hid (fun w => run_idx_int1 g off rs.length cR i hlt w)
      have hcell := resu_cell hrg
      clear hrg
      have hltI : ((i : Nat) : Int) < ((rs.length : Nat) : Int) := by omega
      have hnx := Lib.hid (fun (hq : codeR rs[i] = true) (j : Nat) (hj : j < rs.length) (hji : j < i + 1) => (show codeR rs[j] = true from by
        by_cases e : j = i
        · subst e; exact hq
        · exact hne j hj (by omega)))
      have hbad := Lib.hid (fun (hq : codeR rs[i] = false) => all_bad (f := codeR) hlt hq)
      have hcr : codeR rs[i] = decide (0 ≤ rs[i].N ∧ rs[i].N ≤ 255) := rfl
      replace hcr := Lib.hid hcr
      generalize rs[i].N = x at *
      clear hne
      by_cases x0 : x < 0
      · have hrr := Lib.hid (hbad.out (hcr.out.trans (decide_eq_false (by omega))))
        clear hnx hbad hcr
        go_wp2_with (refine wpList_index_run rfl 46 (.tmp 36) (.tmp 38) rfl (.slice (some ⟨g, off, none⟩) rs.length cR) (.int .i64 (i : Int)) _ rfl rfl (hix.out _) ?_)
        go_ret
        exact ⟨by rw [hsp.out, hrr.out]; rfl, hb00.out⟩
      by_cases x1 : 255 < x
      · have hrr := Lib.hid (hbad.out (hcr.out.trans (decide_eq_false (by omega))))
        clear hnx hbad hcr
        go_wp2_with (refine wpList_index_run rfl 46 (.tmp 36) (.tmp 38) rfl (.slice (some ⟨g, off, none⟩) rs.length cR) (.int .i64 (i : Int)) _ rfl rfl (hix.out _) ?_)
        go_ret
        exact ⟨by rw [hsp.out, hrr.out]; rfl, hb00.out⟩
      have hnx1 := Lib.hid (hnx.out (hcr.out.trans (decide_eq_true (by omega))))
      clear hnx hbad hcr
      go_wp2_with (refine wpList_index_run rfl 46 (.tmp 36) (.tmp 38) rfl (.slice (some ⟨g, off, none⟩) rs.length cR) (.int .i64 (i : Int)) _ rfl rfl (hix.out _) ?_)
      exact ⟨⟨i + 1, by omega, by go_num, hnx1.out, trivial⟩, by simp [RowKit.intOf]; omega⟩
    · obtain rfl : i = rs.length := by omega
      have hrresu := Lib.hid (all_good (f := codeR) (l := rs) (fun j hj => hne j hj hj))
      have hb2 := Lib.hid hb00.out
      clear hne hR
      go_wp2_with fail
      go_loopw [51] (fun iv wr => ∃ i : Nat, i ≤ acs.length ∧ iv = .int .i64 i ∧ (∀ j (hj : j < acs.length), j < i → goodA acs[j] = true) ∧ Below W.heap.size W wr) (fun iv _ => (acs.length - RowKit.intOf iv).toNat)
      case atStart => exact ⟨0, by omega, rfl, fun j hj h => by omega, hb2.out⟩
      case round =>
        clear hb2
        obtain ⟨i, hi, rfl, hne, hb⟩ := hrel
        by_cases hlt : i < acs.length
        · obtain ⟨g, off, rfl, hg, hrg⟩ := (hrowacct.out wr hb).at hlt
          have hix := Lib.hid (fun w => run_idx_acctW g off acs.length cA i hlt w)
          have hltI : ((i : Nat) : Int) < ((acs.length : Nat) : Int) := by omega
          have hi4 := Lib.hid (show (Try.prog.info? 58).map (·.size) = some (Acct.cells acs[i]).length by kernel_rfl)
          have hi5 := Lib.hid (show (Try.prog.info? 58).map (·.size) = some (Acct.cells acs[i]).toArray.size by kernel_rfl)
          have hone := Lib.hid (all_oneCell_toArray (acctW.one acs[i]))
          have hcz : ∀ z : Array Value, z.size = 14 → z.size = (Acct.cells acs[i]).toArray.size := fun z h => h
          replace hcz := Lib.hid hcz
          have hnx := Lib.hid (fun (hq : goodA acs[i] = true) (j : Nat) (hj : j < acs.length) (hji : j < i + 1) => (show goodA acs[j] = true from by
            by_cases e : j = i
            · subst e; exact hq
            · exact hne j hj (by omega)))
          have hbad := Lib.hid (fun (hq : goodA acs[i] = false) => all_bad (f := goodA) hlt hq)
          clear hne
          obtain ⟨W2, hW2⟩ : ∃ W2, W2 = wr.alloc (.cells (Acct.cells acs[i]).toArray 58) := ⟨_, rfl⟩
          have hb2 : Below wr.heap.size wr W2 := by rw [hW2]; exact (Below.refl _ _).alloc (Nat.le_refl _) _
          have hx := Lib.hid (show W2.rangeAt wr.heap.size 0 (Acct.cells acs[i]) by rw [hW2]; exact (BoxAt.new wr (Acct.cells acs[i]) _).range)
          have hc := refgood_acct acs[i] W2
          have hbe := Lib.hid (hb.trans (hb2.mono hb.size))
          replace hrg := Lib.hid hrg
          unfold acctV at hc
          replace hc := Lib.hid hc
          replace hW2 := Lib.hid hW2
          generalize Acct.cells acs[i] = X at *
          clear hb hb2
          cases hq : goodA acs[i] with
          | false =>
            have hrr := Lib.hid (hbad.out hq)
            clear hnx hbad
            rw [hq] at hc
            clear hq
            go_wp2_with (first
                | (refine wpList_index_run rfl 22 (.tmp 49) (.tmp 51) rfl (.slice (some ⟨g, off, none⟩) acs.length cA) (.int .i64 (i : Int)) _ rfl rfl (hix.out _) ?_)
                | (refine wpList_load_midg rfl 58 (.tmp 53) rfl g (off + i * 14) rfl X _ hrg.out Try.underlying58 rfl hi4.out ?_)
                | (refine wpList_store_new rfl 58 (.tmp 12) (.tmp 54) rfl wr _ X.toArray rfl rfl rfl hi5.out (hcz.out _ rfl) hone.out ?_; rw [← hW2.out])
                | (refine wpList_load_midg rfl 58 (.tmp 12) rfl wr.heap.size 0 rfl X _ hx.out Try.underlying58 rfl hi4.out ?_))
            refine (hc.out).mono ?_
            rintro e w3 ⟨rfl, hb3⟩
            have hfin := Lib.hid (hbe.out.trans (hb3.mono hbe.out.size))
            clear hb3 hc hx hrg
            go_wp2
            go_ret
            exact ⟨by rw [hsp.out, hrr.out]; simp, hfin.out⟩
          | true =>
            have hnx1 := Lib.hid (hnx.out hq)
            clear hnx hbad
            rw [hq] at hc
            clear hq
            go_wp2_with (first
                | (refine wpList_index_run rfl 22 (.tmp 49) (.tmp 51) rfl (.slice (some ⟨g, off, none⟩) acs.length cA) (.int .i64 (i : Int)) _ rfl rfl (hix.out _) ?_)
                | (refine wpList_load_midg rfl 58 (.tmp 53) rfl g (off + i * 14) rfl X _ hrg.out Try.underlying58 rfl hi4.out ?_)
                | (refine wpList_store_new rfl 58 (.tmp 12) (.tmp 54) rfl wr _ X.toArray rfl rfl rfl hi5.out (hcz.out _ rfl) hone.out ?_; rw [← hW2.out])
                | (refine wpList_load_midg rfl 58 (.tmp 12) rfl wr.heap.size 0 rfl X _ hx.out Try.underlying58 rfl hi4.out ?_))
            refine (hc.out).mono ?_
            rintro e w3 ⟨rfl, hb3⟩
            have hfin := Lib.hid (hbe.out.trans (hb3.mono hbe.out.size))
            clear hb3 hc hx hrg
            go_wp2_with fail
            go_roundw
            case measure => simp [RowKit.intOf]; omega
            case rel => exact ⟨i + 1, by omega, by go_num, hnx1.out, hfin.out⟩
        · obtain rfl : i = acs.length := by omega
          have hracct := Lib.hid (all_good (f := goodA) (l := acs) (fun j hj => hne j hj hj))
          clear hne hrowacct
          have hb3 := Lib.hid hb
          clear hb
          go_wp2_with fail
          go_loopw [61] (fun iv wr => ∃ i : Nat, i ≤ ts.length ∧ iv = .int .i64 i ∧ (∀ j (hj : j < ts.length), j < i → goodT ts[j] = true) ∧ Below W.heap.size W wr) (fun iv _ => (ts.length - RowKit.intOf iv).toNat)
          case atStart => exact ⟨0, by omega, rfl, fun j hj h => by omega, hb3.out⟩
          case round =>
            clear hb3
            obtain ⟨i, hi, rfl, hne, hb⟩ := hrel
            by_cases hlt : i < ts.length
            · obtain ⟨g, off, rfl, hg, hrg⟩ := (hrowtran.out wr hb).at hlt
              have hix := Lib.hid (fun w => run_idx_tranW g off ts.length cT i hlt w)
              have hltI : ((i : Nat) : Int) < ((ts.length : Nat) : Int) := by omega
              have hi4 := Lib.hid (show (Try.prog.info? 61).map (·.size) = some (Tran.cells ts[i]).length by kernel_rfl)
              have hi5 := Lib.hid (show (Try.prog.info? 61).map (·.size) = some (Tran.cells ts[i]).toArray.size by kernel_rfl)
              have hone := Lib.hid (all_oneCell_toArray (tranW.one ts[i]))
              have hcz : ∀ z : Array Value, z.size = 16 → z.size = (Tran.cells ts[i]).toArray.size := fun z h => h
              replace hcz := Lib.hid hcz
              have hnx := Lib.hid (fun (hq : goodT ts[i] = true) (j : Nat) (hj : j < ts.length) (hji : j < i + 1) => (show goodT ts[j] = true from by
                by_cases e : j = i
                · subst e; exact hq
                · exact hne j hj (by omega)))
              have hbad := Lib.hid (fun (hq : goodT ts[i] = false) => all_bad (f := goodT) hlt hq)
              clear hne
              obtain ⟨W2, hW2⟩ : ∃ W2, W2 = wr.alloc (.cells (Tran.cells ts[i]).toArray 61) := ⟨_, rfl⟩
              have hb2 : Below wr.heap.size wr W2 := by rw [hW2]; exact (Below.refl _ _).alloc (Nat.le_refl _) _
              have hx := Lib.hid (show W2.rangeAt wr.heap.size 0 (Tran.cells ts[i]) by rw [hW2]; exact (BoxAt.new wr (Tran.cells ts[i]) _).range)
              have hc := refgood_tran ts[i] W2
              have hbe := Lib.hid (hb.trans (hb2.mono hb.size))
              replace hrg := Lib.hid hrg
              unfold tranV at hc
              replace hc := Lib.hid hc
              replace hW2 := Lib.hid hW2
              generalize Tran.cells ts[i] = X at *
              clear hb hb2
              cases hq : goodT ts[i] with
              | false =>
                have hrr := Lib.hid (hbad.out hq)
                clear hnx hbad
                rw [hq] at hc
                clear hq
                go_wp2_with (first
                    | (refine wpList_index_run rfl 23 (.tmp 59) (.tmp 61) rfl (.slice (some ⟨g, off, none⟩) ts.length cT) (.int .i64 (i : Int)) _ rfl rfl (hix.out _) ?_)
                    | (refine wpList_load_midg rfl 61 (.tmp 63) rfl g (off + i * 16) rfl X _ hrg.out Try.underlying61 rfl hi4.out ?_)
                    | (refine wpList_store_new rfl 61 (.tmp 14) (.tmp 64) rfl wr _ X.toArray rfl rfl rfl hi5.out (hcz.out _ rfl) hone.out ?_; rw [← hW2.out])
                    | (refine wpList_load_midg rfl 61 (.tmp 14) rfl wr.heap.size 0 rfl X _ hx.out Try.underlying61 rfl hi4.out ?_))
                refine (hc.out).mono ?_
                rintro e w3 ⟨rfl, hb3⟩
                have hfin := Lib.hid (hbe.out.trans (hb3.mono hbe.out.size))
                clear hb3 hc hx hrg
                go_wp2
                go_ret
                exact ⟨by rw [hsp.out, hrr.out]; simp, hfin.out⟩
              | true =>
                have hnx1 := Lib.hid (hnx.out hq)
                clear hnx hbad
                rw [hq] at hc
                clear hq
                go_wp2_with (first
                    | (refine wpList_index_run rfl 23 (.tmp 59) (.tmp 61) rfl (.slice (some ⟨g, off, none⟩) ts.length cT) (.int .i64 (i : Int)) _ rfl rfl (hix.out _) ?_)
                    | (refine wpList_load_midg rfl 61 (.tmp 63) rfl g (off + i * 16) rfl X _ hrg.out Try.underlying61 rfl hi4.out ?_)
                    | (refine wpList_store_new rfl 61 (.tmp 14) (.tmp 64) rfl wr _ X.toArray rfl rfl rfl hi5.out (hcz.out _ rfl) hone.out ?_; rw [← hW2.out])
                    | (refine wpList_load_midg rfl 61 (.tmp 14) rfl wr.heap.size 0 rfl X _ hx.out Try.underlying61 rfl hi4.out ?_))
                refine (hc.out).mono ?_
                rintro e w3 ⟨rfl, hb3⟩
                have hfin := Lib.hid (hbe.out.trans (hb3.mono hbe.out.size))
                clear hb3 hc hx hrg
                go_wp2_with fail
                go_roundw
                case measure => simp [RowKit.intOf]; omega
                case rel => exact ⟨i + 1, by omega, by go_num, hnx1.out, hfin.out⟩
            · obtain rfl : i = ts.length := by omega
              have hrtran := Lib.hid (all_good (f := goodT) (l := ts) (fun j hj => hne j hj hj))
              clear hne hrowtran
              replace hb := Lib.hid hb
              go_wp2
              go_ret
              exact ⟨by rw [hsp.out, hrresu.out, hracct.out, hrtran.out]; rfl, hb.out⟩
end Go.Proofs.Ytfdanlfiaoedfaa
