/- Stage 22, landed: results: which have bytes, put, taken. No condition but sizes. -/
import Derived.Test.YtfdanlfiaoedfaaZWqm
namespace Go.Proofs.Ytfdanlfiaoedfaa
open Go.RowKit Go.Sort Wm Cr

set_option maxRecDepth 100000 in
theorem isCodeR_any (n : Int) (W : World) : Calls Try.prog 71 #[.int .i64 n] W fun e W' => e = .returned (.bool (codeB n)) ∧ W = W' := by
  by_cases h : 0 ≤ n
  · have hb : decide (n ≤ 255) = codeB n := by unfold codeB; exact decide_eq_decide.2 (by omega)
    replace hb := Lib.hid hb
    go_enter Try.func71, Try.ntmps71
    go_wp2
    go_ret
    exact ⟨by rw [← hb.out]; rfl, rfl⟩
  · have hb := Lib.hid (show codeB n = false by unfold codeB; exact decide_eq_false (by omega))
    go_enter Try.func71, Try.ntmps71
    go_wp2
    go_ret
    exact ⟨by rw [hb.out]; rfl, rfl⟩
set_option maxRecDepth 100000 in
theorem isCodeE_any (n : Int) (W : World) : Calls Try.prog 68 #[.int .i64 n] W fun e W' => e = .returned (.bool (codeB n)) ∧ W = W' := by
  by_cases h : 0 ≤ n
  · have hb : decide (n ≤ 255) = codeB n := by unfold codeB; exact decide_eq_decide.2 (by omega)
    replace hb := Lib.hid hb
    go_enter Try.func68, Try.ntmps68
    go_wp2
    go_ret
    exact ⟨by rw [← hb.out]; rfl, rfl⟩
  · have hb := Lib.hid (show codeB n = false by unfold codeB; exact decide_eq_false (by omega))
    go_enter Try.func68, Try.ntmps68
    go_wp2
    go_ret
    exact ⟨by rw [hb.out]; rfl, rfl⟩
set_option maxRecDepth 100000 in
theorem isAnswer_any (n : Nat) (W : World) : Calls Try.prog 69 #[.int .i64 (n : Int)] W fun e W' => e = .returned (.bool (decide (n ≤ 16))) ∧ W = W' := by
  have hb : decide ((n : Int) ≤ 16) = decide (n ≤ 16) := decide_eq_decide.2 (by omega)
  replace hb := Lib.hid hb
  go_enter Try.func69, Try.ntmps69
  go_wp2
  go_ret
  exact ⟨by first | (rw [← hb.out]; rfl) | rfl | (rw [hb.out]; rfl), rfl⟩
theorem run_idx_resu1 (g o n c i : Nat) (h : i < n) (w : World) : (Instr.indexAt 41 (.slice (some ⟨g, o, none⟩) n c) (.int .i64 (i : Int))).run Try.prog w = .ok (.pointer (some ⟨g, o + i, none⟩)) w := by
  have := run_idx_resuW g o n c i h w
  rwa [Nat.mul_one] at this
theorem resu_cell {W : World} {g off i : Nat} {x : Resu} (h : W.rangeAt g (off + i * 1) (Resu.cells x)) : W.cell? ⟨g, off + i, none⟩ = some (.int .i64 x.N) := by
  have := h 0 _ rfl
  rwa [Nat.mul_one, Nat.add_zero] at this
set_option maxRecDepth 100000 in
set_option maxHeartbeats 2000000 in
theorem allResu_any (l : List Resu) (ao : Option Addr) (cap : Nat) (W : World) (h : RowAt Resu.cells 1 W ao l) (hl : l.length ≤ 140737488351232) :
    Calls Try.prog 70 #[.slice ao l.length cap, .func (.func 71) #[] #[]] W fun e W' => e = .returned (.bool (l.all codeR)) ∧ W = W' := by
  have hat := Lib.hid (fun (i : Nat) (hi : i < l.length) (hq : codeR l[i] = false) => all_bad (f := codeR) hi hq)
  have hno := Lib.hid (all_good (f := codeR) (l := l))
  generalize hr : l.all codeR = r at *
  clear hr
  replace h := Lib.hid h
  have eg : ∀ args w, (callFunc 71 args).run Try.prog w = .ok (.enter 71 args) w := enters_of Try.func71 (by kernel_rfl) rfl
  go_enter Try.func70, Try.ntmps70
  go_wp2_with fail
  go_loopw [9] (fun iv wr => ∃ i : Nat, i ≤ l.length ∧ iv = .int .i64 i ∧ (∀ j (hj : j < l.length), j < i → codeR l[j] = true) ∧ W = wr) (fun iv _ => (l.length - RowKit.intOf iv).toNat)
  case atStart => exact ⟨0, by omega, rfl, fun j hj h => by omega, rfl⟩
  case round =>
    obtain ⟨i, hi, rfl, hne, rfl⟩ := hrel
    by_cases hlt : i < l.length
    · obtain ⟨g, off, rfl, hg, hrg⟩ := h.out.at hlt
      have hix := Lib.hid (fun w => run_idx_resu1 g off l.length cap i hlt w)
      have hcell := resu_cell hrg
      clear hrg
      have hat1 := Lib.hid (hat.out i hlt)
      have hltI : ((i : Nat) : Int) < ((l.length : Nat) : Int) := by omega
      have hnx := Lib.hid (fun (hq : codeR l[i] = true) (j : Nat) (hj : j < l.length) (hji : j < i + 1) => (show codeR l[j] = true from by
        by_cases e : j = i
        · subst e; exact hq
        · exact hne j hj (by omega)))
      clear hne
      have hc := Lib.hid (isCodeR_any l[i].N W)
      have hcr : codeR l[i] = codeB l[i].N := rfl
      generalize l[i].N = x at *
      clear hat hno
      cases hq : codeB x with
      | false =>
        have hrr := Lib.hid (hat1.out (hcr.trans hq))
        clear hat1 hnx hcr
        rw [hq] at hc
        clear hq
        go_wp2_with (refine wpList_index_run rfl 41 (.tmp 7) (.tmp 9) rfl (.slice (some ⟨g, off, none⟩) l.length cap) (.int .i64 (i : Int)) _ rfl rfl (hix.out _) ?_)
        refine (hc.out).mono ?_
        rintro e w3 ⟨rfl, rfl⟩
        clear hc
        go_wp2
        go_ret
        exact ⟨by rw [hrr.out]; rfl, rfl⟩
      | true =>
        have hnx1 := Lib.hid (hnx.out (hcr.trans hq))
        clear hat1 hnx hcr
        rw [hq] at hc
        clear hq
        go_wp2_with (refine wpList_index_run rfl 41 (.tmp 7) (.tmp 9) rfl (.slice (some ⟨g, off, none⟩) l.length cap) (.int .i64 (i : Int)) _ rfl rfl (hix.out _) ?_)
        refine (hc.out).mono ?_
        rintro e w3 ⟨rfl, rfl⟩
        clear hc
        go_wp2_with fail
        exact ⟨⟨i + 1, by omega, by go_num, hnx1.out, trivial⟩, by simp [RowKit.intOf]; omega⟩
    · obtain rfl : i = l.length := by omega
      have hr1 := Lib.hid (hno.out (fun j hj => hne j hj hj))
      clear hat hno hne h
      go_wp2
      go_ret
      exact ⟨by rw [hr1.out]; rfl, rfl⟩
section
variable {w W : World} {R : Asr} {p : Nat} {bs : ByteArray}
set_option maxRecDepth 100000 in
theorem wResu_h (L : IsAsr R) (h : Held w W (star (objA WrIs p bs) R)) (x : Resu) (hs : bs.size ≤ 15000) (hx : x.Wf) :
    Calls Try.prog 73 #[.pointer (some ⟨p, 0, none⟩), .int .i64 x.N] W fun e w2 => e = .returned (.tuple #[]) ∧ Held w w2 (star (objA WrIs p (bs ++ resB x)) R) := by
  have k := Lib.hid (wInt_h L h 1 x.N (by omega) hx.N)
  have hb := Lib.hid (show resB x = intB 1 x.N from rfl)
  rw [hb.out]
  clear hb h
  generalize x.N = n at *
  generalize bs ++ intB 1 n = b2 at *
  go_enter Try.func73, Try.ntmps73
  go_wp2_with fail
  refine k.out.mono ?_
  rintro e w2 ⟨rfl, h2⟩
  replace h2 := Lib.hid h2
  clear k
  go_wp2
  go_end0
  exact ⟨rfl, h2.out⟩
theorem resB_size (x : Resu) : (resB x).size = 1 := by unfold resB; rw [intB_size]; rfl
set_option maxRecDepth 100000 in
set_option maxHeartbeats 4000000 in
theorem putAllResu_h (L : IsAsr R) (h : Held w W (star (objA WrIs p bs) R)) {ao : Option Addr} {cap : Nat} {l : List Resu} (hat : RowAt Resu.cells 1 w ao l) (hw : ∀ x ∈ l, x.Wf) (hn : l.length ≤ 100) (hs : bs.size ≤ 3000) :
    Calls Try.prog 72 #[.pointer (some ⟨p, 0, none⟩), .slice ao l.length cap, .func (.func 73) #[] #[]] W fun e w2 => e = .returned (.tuple #[]) ∧ Held w w2 (star (objA WrIs p (bs ++ listB resB l)) R) := by
  have k0 := Lib.hid (wInt_h L h 1 ((l.length : Nat) : Int) (by omega) (by omega))
  have eg : ∀ args w, (callFunc 73 args).run Try.prog w = .ok (.enter 73 args) w := enters_of Try.func73 (by kernel_rfl) rfl
  have hz : ∀ i, (bs ++ intB 1 ((l.length : Nat) : Int) ++ catB resB (l.take i)).size ≤ 15000 := fun i => by
    rw [ByteArray.size_append, ByteArray.size_append, intB_size, catB_size resB_size, List.length_take, show sizeK 1 = 1 from rfl]
    have : min i l.length ≤ 100 := by omega
    omega
  have hnext := Lib.hid (fun (i : Nat) (hlt : i < l.length) => (show (bs ++ intB 1 ((l.length : Nat) : Int) ++ catB resB (l.take i)) ++ resB l[i] = (bs ++ intB 1 ((l.length : Nat) : Int) ++ catB resB (l.take (i + 1))) by rw [catB_take l i hlt, ByteArray.append_assoc]))
  have hfirst : bs ++ intB 1 ((l.length : Nat) : Int) = (bs ++ intB 1 ((l.length : Nat) : Int) ++ catB resB (l.take 0)) := by rw [List.take_zero, catB_nil, ByteArray.append_empty]
  have hlast := Lib.hid (show (bs ++ intB 1 ((l.length : Nat) : Int) ++ catB resB (l.take l.length)) = bs ++ listB resB l by unfold listB; rw [List.take_length, ByteArray.append_assoc])
  rw [hfirst] at k0
  clear hfirst
  obtain ⟨D, hD⟩ : ∃ D : Nat → ByteArray, ∀ i, (bs ++ intB 1 ((l.length : Nat) : Int) ++ catB resB (l.take i)) = D i := ⟨_, fun _ => rfl⟩
  simp only [hD] at k0 hz hnext hlast
  clear hD
  replace hz := Lib.hid hz
  go_enter Try.func72, Try.ntmps72
  go_wp2_with fail
  refine (k0.out).mono ?_
  rintro e w2 ⟨rfl, h2⟩
  replace h2 := Lib.hid h2
  clear k0
  go_wp2_with fail
  go_loopw [16] (fun iv wr => ∃ i : Nat, i ≤ l.length ∧ iv = .int .i64 i ∧ Held w wr (star (objA WrIs p (D i)) R)) (fun iv _ => (l.length - RowKit.intOf iv).toNat)
  case atStart => exact ⟨0, by omega, rfl, h2.out⟩
  case round =>
    clear h2
    obtain ⟨i, hi, rfl, hT⟩ := hrel
    by_cases hlt : i < l.length
    · obtain ⟨g, off, rfl, hg2, hrg⟩ := (hat.later hT.below).at hlt
      have hix := Lib.hid (fun w => run_idx_resu1 g off l.length cap i hlt w)
      have hcell := resu_cell hrg
      clear hrg
      have hltI : ((i : Nat) : Int) < ((l.length : Nat) : Int) := by omega
      have hc := wResu_h L hT l[i] (hz.out i) (hw _ (List.getElem_mem hlt))
      rw [hnext.out i hlt] at hc
      replace hc := Lib.hid hc
      generalize l[i].N = x at *
      clear hT
      go_wp2_with (refine wpList_index_run rfl 41 (.tmp 14) (.tmp 16) rfl (.slice (some ⟨g, off, none⟩) l.length cap) (.int .i64 (i : Int)) _ rfl rfl (hix.out _) ?_)
      refine hc.out.mono ?_
      rintro e w3 ⟨rfl, hT3⟩
      replace hT3 := Lib.hid hT3
      clear hc
      go_wp2_with fail
      exact ⟨⟨i + 1, by omega, by go_num, hT3.out⟩, by simp [RowKit.intOf]; omega⟩
    · obtain rfl : i = l.length := by omega
      rw [hlast.out] at hT
      replace hT := Lib.hid hT
      go_wp2
      go_end0
      exact ⟨rfl, hT.out⟩
end
section
variable {w W : World} {R : Asr} {p : Nat} {st : Option ByteArray}
set_option maxRecDepth 100000 in
theorem rResu_h (L : IsAsr R) (h : Held w W (star (objA RdIs p st) R)) :
    Calls Try.prog 46 #[.pointer (some ⟨p, 0, none⟩)] W fun e w2 => e = .returned (.int .i64 (resT st).N) ∧ Held w w2 (star (objA RdIs p (intR 1 st)) R) := by
  have k := Lib.hid (rInt_h L h 1 1 rfl)
  have hb := Lib.hid (show (resT st).N = intT 1 st from rfl)
  rw [hb.out]
  clear hb h
  generalize intT 1 st = n at *
  go_enter Try.func46, Try.ntmps46
  go_wp2_with fail
  refine k.out.mono ?_
  rintro e w2 ⟨rfl, h2⟩
  replace h2 := Lib.hid h2
  clear k
  go_wp2
  go_ret
  exact ⟨rfl, h2.out⟩
set_option maxRecDepth 100000 in
set_option maxHeartbeats 4000000 in
theorem sevResu_h (L : IsAsr R) (h : Held w W (star (objA RdIs p st) R)) :
    Calls Try.prog 45 #[.pointer (some ⟨p, 0, none⟩), .func (.func 46) #[] #[]] W fun e w2 => ∃ v, e = .returned v ∧
      Held w w2 (star (rowA 81 1 v (listV resT (intR 1) st).length (rowK Resu.cells (listV resT (intR 1) st))) (star (objA RdIs p (listR (intR 1) st)) R)) := by
  have k0 := Lib.hid (rInt_h L h 1 1 rfl)
  have eg : ∀ args w, (callFunc 46 args).run Try.prog w = .ok (.enter 46 args) w := enters_of Try.func46 (by kernel_rfl) rfl
  rw [(cntN_int st).1] at k0
  have hn := (cntN_int st).2
  unfold listV listR
  generalize cntN st = n at *
  generalize intR 1 st = st1 at *
  go_enter Try.func45, Try.ntmps45
  go_wp2_with fail
  refine k0.out.mono ?_
  rintro e w2 ⟨rfl, h2⟩
  replace h2 := Lib.hid (h2.nilrow ((isAsr_rd _ _).star L) 81 1)
  clear k0 h
  go_wp2_with fail
  go_loopw [5, 8] (fun lv iv wr => ∃ i : Nat, i ≤ n ∧ iv = .int .i64 i ∧ Held w wr (star (rowA 81 1 lv (sevV resT (intR 1) i st1).length (rowK Resu.cells (sevV resT (intR 1) i st1))) (star (objA RdIs p (sevR (intR 1) i st1)) R))) (fun _ iv _ => (n - RowKit.intOf iv).toNat)
  case atStart => exact ⟨0, by omega, rfl, h2.out⟩
  case round =>
    clear h2
    obtain ⟨i, hi, rfl, hT⟩ := hrel
    by_cases hlt : i < n
    · have hlen : (sevV resT (intR 1) i st1).length = i := sevV_length i st1
      have hs1 := sevV_succ (v := resT) (r := (intR 1)) i st1
      have hs2 := sevR_succ (r := (intR 1)) i st1
      have kc := rResu_h ((isAsr_row _ _ _ _ _).star L) hT.pull
      generalize sevV resT (intR 1) i st1 = m at *
      generalize sevR (intR 1) i st1 = si at *
      generalize resT si = x at *
      have hltI : ((i : Nat) : Int) < ((n : Nat) : Int) := by omega
      have huR := Lib.hid (show Try.prog.underlying 41 = some (.slice 81) by kernel_rfl)
      replace kc := Lib.hid kc
      clear hT
      go_wp2_with fail
      refine kc.out.mono ?_
      rintro e w3 ⟨rfl, hT3⟩
      have hT4 := hT3.pull
      have hrow := hT4.rowAt.1
      obtain ⟨g, c2, w5, happ, ho, hO, hg⟩ := app_oneK (P := Try.prog) (ty := 41) resuW (by kernel_rfl) infoResuW w3 _ m x hrow (by omega) (by omega) 81
      have h7 := Held.step (isAsr_row _ _ _ _ _) ((isAsr_rd _ _).star L) hT4 (fun F hF => postA_row hF ho hO (fun k hk e => grown_own2 hg hk e))
      have e1 : (m ++ [x]).length = m.length + 1 := by simp
      have hrel := Lib.hid (show Held w w5 (star (rowA 81 1 (.slice (some ⟨g, 0, none⟩) (i + 1) c2) (sevV resT (intR 1) (i + 1) st1).length (rowK Resu.cells (sevV resT (intR 1) (i + 1) st1))) (star (objA RdIs p (sevR (intR 1) (i + 1) st1)) R)) by
        rw [hs1, hs2]
        have e2 : i + 1 = (m ++ [x]).length := by rw [e1, hlen]
        rw [e2]
        exact h7)
      rw [hlen] at happ
      replace happ : (Builtin.append_ #[41, 41] 41 #[_, .slice (some ⟨w3.heap.size, 0, none⟩) 1 1]).run Try.prog (w3.alloc (.cells #[.int .i64 x.N] 81)) = .ok (.slice (some ⟨g, 0, none⟩) (i + 1) c2) w5 := happ
      replace happ := Lib.hid happ
      generalize x.N = xn at *
      clear hT3 hT4 hrow ho hO hg h7 e1 kc hs1 hs2
      go_wp2_with (at_builtin; refine Lib.wpList_append_run _ rfl _ _ _ _ rfl _ _ rfl rfl _ _ happ.out ?_)
      have hA : i + 1 ≤ n := by omega
      clear hlen hn hlt hi happ huR
      go_roundw
      case measure => (show (((n : Nat) : Int) - (((i : Nat) : Int) + 1)).toNat < (((n : Nat) : Int) - ((i : Nat) : Int)).toNat; omega)
      case rel => exact ⟨i + 1, hA, by go_num, hrel.out⟩
    · obtain rfl : i = n := by omega
      replace hT := Lib.hid hT
      go_wp2
      go_ret
      exact ⟨_, rfl, hT.out⟩
end
end Go.Proofs.Ytfdanlfiaoedfaa
