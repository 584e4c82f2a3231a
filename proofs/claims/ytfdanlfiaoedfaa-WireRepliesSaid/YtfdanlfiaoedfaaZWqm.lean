/- Stage 22, landed: what takes lists. No condition but sizes. -/
import Derived.Test.YtfdanlfiaoedfaaZTv
import Derived.Test.YtfdanlfiaoedfaaZWql
namespace Go.Proofs.Ytfdanlfiaoedfaa
open Go.RowKit Go.Sort Wm Cr

theorem grown_own2 {v : Value} {g n c k s : Nat} (hg : v.ownBlock = some g ∨ s ≤ g) (hk : k < s) (e : (Value.slice (some ⟨g, 0, none⟩) n c).ownBlock = some k) : v.ownBlock = some k := by
  have e2 : g = k := by injection e
  subst e2
  rcases hg with h | h
  · exact h
  · omega
theorem isAsr_rd (p : Nat) (st : Option ByteArray) : IsAsr (objA RdIs p st) := ⟨fun F W h => rdIs_near F W p st h, fun F G W W' h => rdIs_keep F G W W' p st h⟩
section
variable {w W : World} {R : Asr} {p : Nat} {st : Option ByteArray}
theorem rInt_h (L : IsAsr R) (h : Held w W (star (objA RdIs p st) R)) (size : Int) (k : Nat) (hk : sizeK size = k) :
    Calls Try.prog 44 #[.pointer (some ⟨p, 0, none⟩), .int .i64 size] W fun e w2 => e = .returned (.int .i64 (intT k st)) ∧ Held w w2 (star (objA RdIs p (intR k st)) R) := by
  subst hk
  exact h.turn (isAsr_rd _ _) L (fun F hF => landedRd.int F W p st size hF)
theorem rNum_h (L : IsAsr R) (h : Held w W (star (objA RdIs p st) R)) :
    Calls Try.prog 65 #[.pointer (some ⟨p, 0, none⟩)] W fun e w2 => e = .returned (numV (numT st)) ∧ Held w w2 (star (objA RdIs p (intR 16 st)) R) :=
  h.turn (isAsr_rd _ _) L (fun F hF => landedRd.num F W p st hF)
theorem rFlag_h (L : IsAsr R) (h : Held w W (star (objA RdIs p st) R)) :
    Calls Try.prog 80 #[.pointer (some ⟨p, 0, none⟩)] W fun e w2 => e = .returned (.bool (flagYes st)) ∧ Held w w2 (star (objA RdIs p (flagNext st)) R) :=
  h.turn (isAsr_rd _ _) L (fun F hF => landedRd.flag F W p st hF)
theorem rAcct_h (L : IsAsr R) (h : Held w W (star (objA RdIs p st) R)) :
    Calls Try.prog 48 #[.pointer (some ⟨p, 0, none⟩)] W fun e w2 => e = .returned (.agg (takeA st).cells.toArray) ∧ Held w w2 (star (objA RdIs p (restA st)) R) :=
  h.turn (isAsr_rd _ _) L (fun F hF => acGet_any landedRd F W p st hF)
theorem rTran_h (L : IsAsr R) (h : Held w W (star (objA RdIs p st) R)) :
    Calls Try.prog 50 #[.pointer (some ⟨p, 0, none⟩)] W fun e w2 => e = .returned (.agg (takeT st).cells.toArray) ∧ Held w w2 (star (objA RdIs p (restT st)) R) :=
  h.turn (isAsr_rd _ _) L (fun F hF => xfGet_any landedRd F W p st hF)
theorem rId_h (L : IsAsr R) (h : Held w W (star (objA RdIs p st) R)) :
    Calls Try.prog 65 #[.pointer (some ⟨p, 0, none⟩)] W fun e w2 => e = .returned (.agg (idT st).cells.toArray) ∧ Held w w2 (star (objA RdIs p (intR 16 st)) R) := rNum_h L h
set_option maxRecDepth 100000 in
set_option maxHeartbeats 4000000 in
theorem sevAcct_h (L : IsAsr R) (h : Held w W (star (objA RdIs p st) R)) :
    Calls Try.prog 47 #[.pointer (some ⟨p, 0, none⟩), .func (.func 48) #[] #[]] W fun e w2 => ∃ v, e = .returned v ∧
      Held w w2 (star (rowA 58 14 v (listV takeA restA st).length (rowK Acct.cells (listV takeA restA st))) (star (objA RdIs p (listR restA st)) R)) := by
  have k0 := Lib.hid (rInt_h L h 1 1 rfl)
  have eg : ∀ args w, (callFunc 48 args).run Try.prog w = .ok (.enter 48 args) w := enters_of Try.func48 (by kernel_rfl) rfl
  rw [(cntN_int st).1] at k0
  have hn := (cntN_int st).2
  unfold listV listR
  generalize cntN st = n at *
  generalize intR 1 st = st1 at *
  go_enter Try.func47, Try.ntmps47
  go_wp2_with fail
  refine k0.out.mono ?_
  rintro e w2 ⟨rfl, h2⟩
  replace h2 := Lib.hid (h2.nilrow ((isAsr_rd _ _).star L) 58 14)
  clear k0 h
  go_wp2_with fail
  go_loopw [5, 8] (fun lv iv wr => ∃ i : Nat, i ≤ n ∧ iv = .int .i64 i ∧ Held w wr (star (rowA 58 14 lv (sevV takeA restA i st1).length (rowK Acct.cells (sevV takeA restA i st1))) (star (objA RdIs p (sevR restA i st1)) R))) (fun _ iv _ => (n - RowKit.intOf iv).toNat)
  case atStart => exact ⟨0, by omega, rfl, h2.out⟩
  case round =>
    clear h2
    obtain ⟨i, hi, rfl, hT⟩ := hrel
    by_cases hlt : i < n
    · have hlen : (sevV takeA restA i st1).length = i := sevV_length i st1
      have hs1 := sevV_succ (v := takeA) (r := restA) i st1
      have hs2 := sevR_succ (r := restA) i st1
      have kc := rAcct_h ((isAsr_row _ _ _ _ _).star L) hT.pull
      generalize sevV takeA restA i st1 = m at *
      generalize sevR restA i st1 = si at *
      generalize takeA si = x at *
      have hltI : ((i : Nat) : Int) < ((n : Nat) : Int) := by omega
      have huR := Lib.hid (show Try.prog.underlying 22 = some (.slice 58) by kernel_rfl)
      have hz := Lib.hid (show x.cells.length = 14 from rfl)
      replace kc := Lib.hid kc
      clear hT
      go_wp2_with fail
      refine kc.out.mono ?_
      rintro e w3 ⟨rfl, hT3⟩
      have hT4 := hT3.pull
      have hrow := hT4.rowAt.1
      obtain ⟨g, c2, w5, happ, ho, hO, hg⟩ := app_oneK (P := Try.prog) (ty := 22) acctW (by kernel_rfl) infoAcctW w3 _ m x hrow (by omega) (by omega) 58
      have h7 := Held.step (isAsr_row _ _ _ _ _) ((isAsr_rd _ _).star L) hT4 (fun F hF => postA_row hF ho hO (fun k hk e => grown_own2 hg hk e))
      have e1 : (m ++ [x]).length = m.length + 1 := by simp
      have hrel := Lib.hid (show Held w w5 (star (rowA 58 14 (.slice (some ⟨g, 0, none⟩) (i + 1) c2) (sevV takeA restA (i + 1) st1).length (rowK Acct.cells (sevV takeA restA (i + 1) st1))) (star (objA RdIs p (sevR restA (i + 1) st1)) R)) by
        rw [hs1, hs2]
        have e2 : i + 1 = (m ++ [x]).length := by rw [e1, hlen]
        rw [e2]
        exact h7)
      rw [hlen] at happ
      replace happ := Lib.hid happ
      clear hT3 hT4 hrow ho hO hg h7 e1 kc hs1 hs2
      go_wp2_with (first
        | (refine wpList_build_one rfl (.tmp 13) rfl huR.out infoAcctW (by decide) (by decide) x.cells rfl hz.out ?_)
        | (at_builtin; refine Lib.wpList_append_run _ rfl _ _ _ _ rfl _ _ rfl rfl _ _ happ.out ?_))
      have hA : i + 1 ≤ n := by omega
      clear hlen hn hlt hi happ hz huR
      go_roundw
      case measure => (show (((n : Nat) : Int) - (((i : Nat) : Int) + 1)).toNat < (((n : Nat) : Int) - ((i : Nat) : Int)).toNat; omega)
      case rel => exact ⟨i + 1, hA, by go_num, hrel.out⟩
    · obtain rfl : i = n := by omega
      replace hT := Lib.hid hT
      go_wp2
      go_ret
      exact ⟨_, rfl, hT.out⟩
set_option maxRecDepth 100000 in
set_option maxHeartbeats 4000000 in
theorem sevTran_h (L : IsAsr R) (h : Held w W (star (objA RdIs p st) R)) :
    Calls Try.prog 49 #[.pointer (some ⟨p, 0, none⟩), .func (.func 50) #[] #[]] W fun e w2 => ∃ v, e = .returned v ∧
      Held w w2 (star (rowA 61 16 v (listV takeT restT st).length (rowK Tran.cells (listV takeT restT st))) (star (objA RdIs p (listR restT st)) R)) := by
  have k0 := Lib.hid (rInt_h L h 1 1 rfl)
  have eg : ∀ args w, (callFunc 50 args).run Try.prog w = .ok (.enter 50 args) w := enters_of Try.func50 (by kernel_rfl) rfl
  rw [(cntN_int st).1] at k0
  have hn := (cntN_int st).2
  unfold listV listR
  generalize cntN st = n at *
  generalize intR 1 st = st1 at *
  go_enter Try.func49, Try.ntmps49
  go_wp2_with fail
  refine k0.out.mono ?_
  rintro e w2 ⟨rfl, h2⟩
  replace h2 := Lib.hid (h2.nilrow ((isAsr_rd _ _).star L) 61 16)
  clear k0 h
  go_wp2_with fail
  go_loopw [5, 8] (fun lv iv wr => ∃ i : Nat, i ≤ n ∧ iv = .int .i64 i ∧ Held w wr (star (rowA 61 16 lv (sevV takeT restT i st1).length (rowK Tran.cells (sevV takeT restT i st1))) (star (objA RdIs p (sevR restT i st1)) R))) (fun _ iv _ => (n - RowKit.intOf iv).toNat)
  case atStart => exact ⟨0, by omega, rfl, h2.out⟩
  case round =>
    clear h2
    obtain ⟨i, hi, rfl, hT⟩ := hrel
    by_cases hlt : i < n
    · have hlen : (sevV takeT restT i st1).length = i := sevV_length i st1
      have hs1 := sevV_succ (v := takeT) (r := restT) i st1
      have hs2 := sevR_succ (r := restT) i st1
      have kc := rTran_h ((isAsr_row _ _ _ _ _).star L) hT.pull
      generalize sevV takeT restT i st1 = m at *
      generalize sevR restT i st1 = si at *
      generalize takeT si = x at *
      have hltI : ((i : Nat) : Int) < ((n : Nat) : Int) := by omega
      have huR := Lib.hid (show Try.prog.underlying 23 = some (.slice 61) by kernel_rfl)
      have hz := Lib.hid (show x.cells.length = 16 from rfl)
      replace kc := Lib.hid kc
      clear hT
      go_wp2_with fail
      refine kc.out.mono ?_
      rintro e w3 ⟨rfl, hT3⟩
      have hT4 := hT3.pull
      have hrow := hT4.rowAt.1
      obtain ⟨g, c2, w5, happ, ho, hO, hg⟩ := app_oneK (P := Try.prog) (ty := 23) tranW (by kernel_rfl) infoTranW w3 _ m x hrow (by omega) (by omega) 61
      have h7 := Held.step (isAsr_row _ _ _ _ _) ((isAsr_rd _ _).star L) hT4 (fun F hF => postA_row hF ho hO (fun k hk e => grown_own2 hg hk e))
      have e1 : (m ++ [x]).length = m.length + 1 := by simp
      have hrel := Lib.hid (show Held w w5 (star (rowA 61 16 (.slice (some ⟨g, 0, none⟩) (i + 1) c2) (sevV takeT restT (i + 1) st1).length (rowK Tran.cells (sevV takeT restT (i + 1) st1))) (star (objA RdIs p (sevR restT (i + 1) st1)) R)) by
        rw [hs1, hs2]
        have e2 : i + 1 = (m ++ [x]).length := by rw [e1, hlen]
        rw [e2]
        exact h7)
      rw [hlen] at happ
      replace happ := Lib.hid happ
      clear hT3 hT4 hrow ho hO hg h7 e1 kc hs1 hs2
      go_wp2_with (first
        | (refine wpList_build_one rfl (.tmp 13) rfl huR.out infoTranW (by decide) (by decide) x.cells rfl hz.out ?_)
        | (at_builtin; refine Lib.wpList_append_run _ rfl _ _ _ _ rfl _ _ rfl rfl _ _ happ.out ?_))
      have hA : i + 1 ≤ n := by omega
      clear hlen hn hlt hi happ hz huR
      go_roundw
      case measure => (show (((n : Nat) : Int) - (((i : Nat) : Int) + 1)).toNat < (((n : Nat) : Int) - ((i : Nat) : Int)).toNat; omega)
      case rel => exact ⟨i + 1, hA, by go_num, hrel.out⟩
    · obtain rfl : i = n := by omega
      replace hT := Lib.hid hT
      go_wp2
      go_ret
      exact ⟨_, rfl, hT.out⟩
set_option maxRecDepth 100000 in
set_option maxHeartbeats 4000000 in
theorem sevIdn_h (L : IsAsr R) (h : Held w W (star (objA RdIs p st) R)) :
    Calls Try.prog 64 #[.pointer (some ⟨p, 0, none⟩), .func (.func 65) #[] #[]] W fun e w2 => ∃ v, e = .returned v ∧
      Held w w2 (star (rowA 27 2 v (listV idT (intR 16) st).length (rowK Idn.cells (listV idT (intR 16) st))) (star (objA RdIs p (listR (intR 16) st)) R)) := by
  have k0 := Lib.hid (rInt_h L h 1 1 rfl)
  have eg : ∀ args w, (callFunc 65 args).run Try.prog w = .ok (.enter 65 args) w := enters_of Try.func65 (by kernel_rfl) rfl
  rw [(cntN_int st).1] at k0
  have hn := (cntN_int st).2
  unfold listV listR
  generalize cntN st = n at *
  generalize intR 1 st = st1 at *
  go_enter Try.func64, Try.ntmps64
  go_wp2_with fail
  refine k0.out.mono ?_
  rintro e w2 ⟨rfl, h2⟩
  replace h2 := Lib.hid (h2.nilrow ((isAsr_rd _ _).star L) 27 2)
  clear k0 h
  go_wp2_with fail
  go_loopw [5, 8] (fun lv iv wr => ∃ i : Nat, i ≤ n ∧ iv = .int .i64 i ∧ Held w wr (star (rowA 27 2 lv (sevV idT (intR 16) i st1).length (rowK Idn.cells (sevV idT (intR 16) i st1))) (star (objA RdIs p (sevR (intR 16) i st1)) R))) (fun _ iv _ => (n - RowKit.intOf iv).toNat)
  case atStart => exact ⟨0, by omega, rfl, h2.out⟩
  case round =>
    clear h2
    obtain ⟨i, hi, rfl, hT⟩ := hrel
    by_cases hlt : i < n
    · have hlen : (sevV idT (intR 16) i st1).length = i := sevV_length i st1
      have hs1 := sevV_succ (v := idT) (r := (intR 16)) i st1
      have hs2 := sevR_succ (r := (intR 16)) i st1
      have kc := rId_h ((isAsr_row _ _ _ _ _).star L) hT.pull
      generalize sevV idT (intR 16) i st1 = m at *
      generalize sevR (intR 16) i st1 = si at *
      generalize idT si = x at *
      have hltI : ((i : Nat) : Int) < ((n : Nat) : Int) := by omega
      have huR := Lib.hid (show Try.prog.underlying 24 = some (.slice 27) by kernel_rfl)
      have hz := Lib.hid (show x.cells.length = 2 from rfl)
      replace kc := Lib.hid kc
      clear hT
      go_wp2_with fail
      refine kc.out.mono ?_
      rintro e w3 ⟨rfl, hT3⟩
      have hT4 := hT3.pull
      have hrow := hT4.rowAt.1
      obtain ⟨g, c2, w5, happ, ho, hO, hg⟩ := app_oneK (P := Try.prog) (ty := 24) idnW (by kernel_rfl) infoIdnW w3 _ m x hrow (by omega) (by omega) 27
      have h7 := Held.step (isAsr_row _ _ _ _ _) ((isAsr_rd _ _).star L) hT4 (fun F hF => postA_row hF ho hO (fun k hk e => grown_own2 hg hk e))
      have e1 : (m ++ [x]).length = m.length + 1 := by simp
      have hrel := Lib.hid (show Held w w5 (star (rowA 27 2 (.slice (some ⟨g, 0, none⟩) (i + 1) c2) (sevV idT (intR 16) (i + 1) st1).length (rowK Idn.cells (sevV idT (intR 16) (i + 1) st1))) (star (objA RdIs p (sevR (intR 16) (i + 1) st1)) R)) by
        rw [hs1, hs2]
        have e2 : i + 1 = (m ++ [x]).length := by rw [e1, hlen]
        rw [e2]
        exact h7)
      rw [hlen] at happ
      replace happ := Lib.hid happ
      clear hT3 hT4 hrow ho hO hg h7 e1 kc hs1 hs2
      go_wp2_with (first
        | (refine wpList_build_one rfl (.tmp 13) rfl huR.out infoIdnW (by decide) (by decide) x.cells rfl hz.out ?_)
        | (at_builtin; refine Lib.wpList_append_run _ rfl _ _ _ _ rfl _ _ rfl rfl _ _ happ.out ?_))
      have hA : i + 1 ≤ n := by omega
      clear hlen hn hlt hi happ hz huR
      go_roundw
      case measure => (show (((n : Nat) : Int) - (((i : Nat) : Int) + 1)).toNat < (((n : Nat) : Int) - ((i : Nat) : Int)).toNat; omega)
      case rel => exact ⟨i + 1, hA, by go_num, hrel.out⟩
    · obtain rfl : i = n := by omega
      replace hT := Lib.hid hT
      go_wp2
      go_ret
      exact ⟨_, rfl, hT.out⟩
end
end Go.Proofs.Ytfdanlfiaoedfaa
