/- Stage 14: UndoBack's walk. No condition. -/
import Derived.Test.YtkahohgbcnchiaaUnz
namespace Go.Proofs.Ytkahohgbcnchiaa
open Go.RowKit Wm

def SufG {α : Type} (a b : List α) : Prop := ∃ ext, b = ext ++ a
theorem SufG.refl {α : Type} (a : List α) : SufG a a := ⟨[], rfl⟩
theorem SufG.cons {α : Type} {a b : List α} (h : SufG a b) (x : α) : SufG a (x :: b) := by obtain ⟨e, h⟩ := h; exact ⟨x :: e, by rw [h]; rfl⟩
theorem SufG.drop {α : Type} {a b : List α} (h : SufG a b) {n : Nat} (hn : n ≤ b.length - a.length) : SufG a (b.drop n) := by
  obtain ⟨e, rfl⟩ := h
  refine ⟨e.drop n, ?_⟩
  rw [List.drop_append_of_le_length]
  rw [List.length_append] at hn
  omega
theorem sufG_drop {α : Type} {a b : List α} {x y : α} {p q : List α} (h : SufG a b) (ha : a = x :: p) (hb : b = y :: q) : b.drop (q.length - p.length) = a := by
  obtain ⟨ext, h⟩ := h
  have e : q.length - p.length = ext.length := by
    have h1 := congrArg List.length h
    rw [List.length_append] at h1
    have h2 := congrArg List.length ha
    have h3 := congrArg List.length hb
    rw [List.length_cons] at h2 h3
    omega
  rw [e, h, List.drop_left]
theorem histU_suf {a hist : List StU} (h : SufG a hist) {c : Ucall} (hk : c.Kind = 0 ∨ c.Kind = 1) : SufG a (histU hist c) := by
  cases hist with
  | nil => exact h
  | cons st past =>
    unfold histU
    dsimp only
    rcases hk with hk | hk
    · rw [if_pos hk]; exact h.cons _
    · rw [if_neg (by rw [hk]; decide), if_pos hk]
      split
      · exact h.cons _
      · exact h
section
variable {w W : World} {R : Asr} {g pl pk pd : Nat} {D P : List StU} {n : Nat}
/-- A call of a script, on both; the call's own copy is made ahead of it. -/
theorem udoes_boxed (L : IsAsr R) (h : Held w W (star (deskA g (N2 g pl pk) D) (star (docA pd P) R))) (hD : GoodU n D) (hP : GoodU n P) (hn : n ≤ 5000) (c : Ucall) :
    Calls Try.prog 10 #[.pointer (some ⟨g, 0, none⟩), .pointer (some ⟨pl, 0, none⟩), .pointer (some ⟨pk, 0, none⟩), .pointer (some ⟨pd, 0, none⟩), ucallV c] (W.alloc (.cells c.cells.toArray 33)) fun e w' => DoesU D P e ∧ Held w w' (star (boxA W.heap.size c.cells) (star (deskA g (N2 g pl pk) (histU D c)) (star (docA pd (histU P c)) R))) := by
  obtain ⟨st, past, rfl, l1, l2, l3⟩ := hD.cons
  obtain ⟨st2, past2, rfl, m1, m2, m3⟩ := hP.cons
  have hT := h.box ((isAsr_desk (isAsr_N2 g pl pk) g _).star ((isAsr_doc _ _).star L)) c.cells 33
  exact (udoes_any ((isAsr_box _ _).star L) hT.push3 c (by omega) (by omega) (by omega) (by omega) (by omega) (by omega)).mono (fun _ _ ⟨a, b⟩ => ⟨a, b.pull3⟩)
end
set_option maxRecDepth 100000 in
set_option maxHeartbeats 4000000 in
theorem undoBack_any (ao bo : Option Addr) (c1 c2 : Nat) (a b : List Ucall) (la : a.length ≤ 140737488351232) (lb : b.length ≤ 140737488351232) (w : World) (hA : UcallsAt w ao a) (hB : UcallsAt w bo b) :
    Calls Try.prog 4 #[.slice ao a.length c1, .slice bo b.length c2] w fun e w' => e = .returned (.bool true) ∧ Below w.heap.size w w' := by
  have hal := Lib.hid undoAlive_any
  by_cases q1 : 150 < a.length
  · have h1 : decide (150 < ((a.length : Nat) : Int)) = true := decide_eq_true (by omega)
    clear q1
    go_enter Try.func4, Try.ntmps4
    go_wp2_with fail
    refine (hal.out _).mono ?_
    rintro e w1 ⟨rfl, hb1⟩
    go_wp2
    go_ret
    exact ⟨rfl, hb1⟩
  have h1 : decide (150 < ((a.length : Nat) : Int)) = false := decide_eq_false (by omega)
  have h1' : decide (150 < a.length) = false := decide_eq_false (by omega)
  by_cases q2 : 150 < b.length
  · have h2 : decide (150 < ((b.length : Nat) : Int)) = true := decide_eq_true (by omega)
    clear q1 q2
    go_enter Try.func4, Try.ntmps4
    go_wp2_with fail
    refine (hal.out _).mono ?_
    rintro e w1 ⟨rfl, hb1⟩
    go_wp2
    go_ret
    exact ⟨rfl, hb1⟩
  have h2 : decide (150 < ((b.length : Nat) : Int)) = false := decide_eq_false (by omega)
  have hNa : a.length ≤ 150 := by omega
  have hNb : b.length ≤ 150 := by omega
  clear q1 q2
  go_enter Try.func4, Try.ntmps4
  go_wp2_with fail
  refine (hal.out _).mono ?_
  rintro e wa ⟨rfl, hb1⟩
  clear hal
  have h0 := ((Held.start w).later isAsr_nil hb1).newLog isAsr_nil
  replace h0 := Lib.hid h0
  clear hb1
  go_wp2_with fail
  replace h0 := h0.out
  generalize wa.alloc (.cells #[.slice none 0 0] 27) = wb at *
  generalize wa.heap.size = g at *
  refine (uOf_any (lgU g) wb).mono ?_
  rintro e wc ⟨rfl, rfl⟩
  have h3 := h0.newList ((isAsr_log _ _).star isAsr_nil) (lgU g)
  generalize wb.alloc (.cells #[.pointer (lgU g), .slice none 0 0] 55) = wc at *
  generalize wb.heap.size = pl at *
  replace h3 := Lib.hid h3
  clear h0
  go_wp2_with fail
  refine (uOf_any (lgU g) wc).mono ?_
  rintro e wd ⟨rfl, rfl⟩
  have h4 := h3.out.newList ((isAsr_list _ _ _).star ((isAsr_log _ _).star isAsr_nil)) (lgU g)
  have h5 : Held w _ (star (deskA g (N2 g pl wc.heap.size) [([], [])]) nilA) := ((h4.pull3.map (fun _ _ x => star_under (fun _ _ y => star_assoc (star_pull y)) x))).startDesk (N := N2 g pl wc.heap.size) (s := ([], []))
  generalize wc.alloc (.cells #[.pointer (lgU g), .slice none 0 0] 55) = wd at *
  generalize wc.heap.size = pk at *
  have kn := Lib.hid (docNew_h ((isAsr_desk (isAsr_N2 g pl pk) g _).star isAsr_nil) h5)
  clear h3 h4 h5
  go_wp2_with fail
  refine kn.out.mono ?_
  rintro e we ⟨pd, rfl, h6⟩
  replace h6 := Lib.hid h6.pull
  clear kn
  go_wp2_with fail
  go_loopw [35] (fun iv wr => ∃ (i : Nat) (D P : List StU), i ≤ a.length ∧ iv = .int .i64 i ∧ GoodU i D ∧ GoodU i P ∧ Held w wr (star (deskA g (N2 g pl pk) D) (star (docA pd P) nilA))) (fun iv _ => (a.length - RowKit.intOf iv).toNat)
  case atStart => exact ⟨0, _, _, by omega, rfl, GoodU.start, GoodU.start, h6.out⟩
  case round =>
    clear h6
    obtain ⟨i, D, P, hi, rfl, hD, hP, hT⟩ := hrel
    by_cases hlt : i < a.length
    · obtain ⟨bb, off, rfl, hbl, x0, x1, x2, x3⟩ := ucalls_cells (hA.below hT.below (Nat.le_refl _)) hlt
      have hltI : decide (i < a.length) = true := decide_eq_true hlt
      have hD2 := hD.next a[i]
      have hP2 := hP.next a[i]
      have kd := udoes_boxed isAsr_nil hT hD hP (by omega) a[i]
      generalize a[i] = x at *
      rw [ucallV_eq] at kd
      obtain ⟨kind, sec, ci, cx⟩ := x
      dsimp only at x0 x1 x2 x3 kd
      replace kd := Lib.hid kd
      clear hT hA hB hD hP
      go_wp2_with fail
      refine kd.out.mono ?_
      rintro e w3 ⟨⟨bb2, rfl, -⟩, hT3⟩
      replace hT3 := Lib.hid hT3.rest
      clear kd
      go_wp2_with fail
      go_roundw
      case measure => simp [RowKit.intOf]; omega
      case rel => exact ⟨i + 1, _, _, by omega, rfl, hD2, hP2, hT3.out⟩
    · have hil : i = a.length := by omega
      subst hil
      have hltI : decide (a.length < a.length) = false := decide_eq_false (by omega)
      clear hlt hA
      obtain ⟨st, past, hst, l1, l2, l3⟩ := hD.cons
      rw [hst] at hT
      have km := Lib.hid (desk_mark hT)
      obtain ⟨v1, hv1⟩ := hT.desk2List false
      have ka := Lib.hid (uAll_any hv1 (show (selU false st).length ≤ 100000 from Nat.le_trans l2 (by omega)))
      clear hv1
      replace hT := Lib.hid hT
      go_wp2_with fail
      refine km.out.mono ?_
      rintro e w2 ⟨rfl, rfl⟩
      clear km
      go_wp2_with fail
      refine ka.out.mono ?_
      rintro e w3 ⟨va, rfl, hna⟩
      have hT3 := hT.out.newRow ((isAsr_desk (isAsr_N2 g pl pk) g _).star ((isAsr_doc _ _).star isAsr_nil)) hna
      obtain ⟨ra, rfl, hra, -⟩ := Rw.made hna.1
      obtain ⟨v2, hv2⟩ := hT3.pull.desk2List true
      have kb := Lib.hid (uAll_any hv2 (show (selU true st).length ≤ 100000 from Nat.le_trans l3 (by omega)))
      clear hv2 ka hT hna
      rw [← hra] at hT3
      replace hT3 := Lib.hid hT3
      unfold Rw.val
      go_wp2_with fail
      refine kb.out.mono ?_
      rintro e w4 ⟨vb, rfl, hnb⟩
      have hT4 := hT3.out.newRow ((isAsr_row _ _ _ _ _).star ((isAsr_desk (isAsr_N2 g pl pk) g _).star ((isAsr_doc _ _).star isAsr_nil))) hnb
      obtain ⟨rb, rfl, hrb, -⟩ := Rw.made hnb.1
      rw [← hrb] at hT4
      have hT5 : Held w w4 (star (deskA g (N2 g pl pk) (st :: past)) (star (docA pd P) (star (rowI rb) (star (rowI ra) nilA)))) := (hT4.pull3.map (fun _ _ x => star_under (fun _ _ y => star_pull3 y) x))
      clear kb hT3 hT4 hnb
      rw [← hst] at hT5
      replace hT5 := Lib.hid hT5
      have hD0 := hD.mono (show a.length ≤ 150 + 0 by omega)
      have hP0 := hP.mono (show a.length ≤ 150 + 0 by omega)
      have LR : IsAsr (star (rowI rb) (star (rowI ra) nilA)) := (isAsr_rowI _).star ((isAsr_rowI _).star isAsr_nil)
      obtain ⟨R0, hR0⟩ : ∃ R, R = star (rowI rb) (star (rowI ra) nilA) := ⟨_, rfl⟩
      rw [← hR0] at hT5 LR
      replace hR0 := Lib.hid hR0
      replace hra := Lib.hid hra
      replace hrb := Lib.hid hrb
      replace hst := Lib.hid hst
      clear hD hP hi
      unfold Rw.val
      go_wp2_with fail
      go_loopw [54] (fun iv wr => ∃ (j : Nat) (D2 P2 : List StU), j ≤ b.length ∧ iv = .int .i64 j ∧ GoodU (150 + j) D2 ∧ GoodU (150 + j) P2 ∧ SufG D D2 ∧ Held w wr (star (deskA g (N2 g pl pk) D2) (star (docA pd P2) R0))) (fun iv _ => (b.length - RowKit.intOf iv).toNat)
      case atStart => exact ⟨0, D, P, by omega, rfl, hD0, hP0, SufG.refl _, hT5.out⟩
      case round =>
        clear hT5 hD0 hP0
        obtain ⟨j, D2, P2, hj, rfl, hD, hP, hsf, hT⟩ := hrel
        by_cases hlt : j < b.length
        · obtain ⟨bb, off, rfl, hbl, x0, x1, x2, x3⟩ := ucalls_cells (hB.below hT.below (Nat.le_refl _)) hlt
          have hltJ : decide (j < b.length) = true := decide_eq_true hlt
          generalize b[j] = x at *
          by_cases k01 : x.Kind = 0 ∨ x.Kind = 1
          · have hD2 := hD.next x
            have hP2 := hP.next x
            have hs2 := histU_suf hsf k01
            have kd := udoes_boxed LR hT hD hP (by omega) x
            rw [ucallV_eq] at kd
            obtain ⟨kind, sec, ci, cx⟩ := x
            dsimp only at x0 x1 x2 x3 kd k01
            replace kd := Lib.hid kd
            replace hs2 := Lib.hid hs2
            have hrel2 := Lib.hid (fun wx (h : Held w wx (star (deskA g (N2 g pl pk) (histU D2 ⟨kind, sec, ci, cx⟩)) (star (docA pd (histU P2 ⟨kind, sec, ci, cx⟩)) R0))) => show ∃ (j' : Nat) (D2 P2 : List StU), j' ≤ b.length ∧ Value.int .i64 ((j : Int) + 1) = .int .i64 j' ∧ GoodU (150 + j') D2 ∧ GoodU (150 + j') P2 ∧ SufG D D2 ∧ Held w wx (star (deskA g (N2 g pl pk) D2) (star (docA pd P2) R0)) from
              ⟨j + 1, _, _, by omega, rfl, hD2, hP2, hs2.out, h⟩)
            clear hT hB hD hP hsf hs2 hD2 hP2
            rcases k01 with k0 | k1
            · subst k0
              go_wp2_with fail
              refine kd.out.mono ?_
              rintro e w5 ⟨⟨bb2, rfl, -⟩, hT6⟩
              obtain ⟨y0, -, -, -, ly⟩ := ubox hT6.boxAt.1
              dsimp only at y0
              replace hT6 := Lib.hid hT6.rest
              clear kd
              go_wp2_with fail
              go_roundw
              case measure => simp [RowKit.intOf]; omega
              case rel => exact hrel2.out _ hT6.out
            · subst k1
              go_wp2_with fail
              refine kd.out.mono ?_
              rintro e w5 ⟨⟨bb2, rfl, -⟩, hT6⟩
              obtain ⟨y0, -, -, -, ly⟩ := ubox hT6.boxAt.1
              dsimp only at y0
              replace hT6 := Lib.hid hT6.rest
              clear kd
              go_wp2_with fail
              go_roundw
              case measure => simp [RowKit.intOf]; omega
              case rel => exact hrel2.out _ hT6.out
          · have n0 : (x.Kind == 0) = false := beq_eq_false_iff_ne.2 (fun e => k01 (.inl e))
            have n1 : (x.Kind == 1) = false := beq_eq_false_iff_ne.2 (fun e => k01 (.inr e))
            by_cases k2 : x.Kind = 2
            · obtain ⟨st2, past2, hst2, m1, m2, m3⟩ := hD.cons
              have hT6 := (hT.box ((isAsr_desk (isAsr_N2 g pl pk) g _).star ((isAsr_doc _ _).star LR)) x.cells 33).pull
              rw [hst2] at hT6
              have kb := desk_back (isAsr_N2 g pl pk) ((isAsr_box _ _).star ((isAsr_doc _ _).star LR)) (by omega) (max x.I ((past.length : Nat) : Int)) hT6
              have hlD : D.length = past.length + 1 := by rw [hst.out]; rfl
              have hs2 : SufG D ((st2 :: past2).drop (past2.length - (max x.I ((past.length : Nat) : Int)).toNat)) := by
                rw [hst2] at hsf
                refine hsf.drop ?_
                have : past.length ≤ (max x.I ((past.length : Nat) : Int)).toNat := by rw [Int.max_def]; split <;> omega
                rw [hlD, List.length_cons]
                omega
              have hD2 : GoodU (150 + (j + 1)) ((st2 :: past2).drop (past2.length - (max x.I ((past.length : Nat) : Int)).toNat)) := by
                rw [← hst2]
                refine ⟨fun e => ?_, ?_, fun s hs => ?_⟩
                · rw [List.drop_eq_nil_iff, hst2, List.length_cons] at e; omega
                · have := hD.len; rw [List.length_drop]; omega
                · have := hD.all s (List.mem_of_mem_drop hs); omega
              obtain ⟨kind, sec, ci, cx⟩ := x
              dsimp only at x0 x1 x2 x3 kb k2 hs2 hD2 n0 n1
              subst k2
              have hrel2 := Lib.hid (fun wx (h : Held w wx (star (deskA g (N2 g pl pk) ((st2 :: past2).drop (past2.length - (max ci ((past.length : Nat) : Int)).toNat))) (star (docA pd P2) R0))) => show ∃ (j' : Nat) (D2 P2 : List StU), j' ≤ b.length ∧ Value.int .i64 ((j : Int) + 1) = .int .i64 j' ∧ GoodU (150 + j') D2 ∧ GoodU (150 + j') P2 ∧ SufG D D2 ∧ Held w wx (star (deskA g (N2 g pl pk) D2) (star (docA pd P2) R0)) from
                ⟨j + 1, _, _, by omega, rfl, hD2, hP.mono (by omega), hs2, h⟩)
              replace kb := Lib.hid kb
              clear hT hT6 hB hD hP hsf hs2 hD2 hlD k01 hst2 m1 m2 m3
              go_wp2_with fail
              refine kb.out.mono ?_
              rintro e w5 ⟨rfl, hT7⟩
              replace hT7 := Lib.hid hT7.pull.rest
              clear kb
              go_wp2_with fail
              go_roundw
              case measure => simp [RowKit.intOf]; omega
              case rel => exact hrel2.out _ hT7.out
            · have n2 : (x.Kind == 2) = false := beq_eq_false_iff_ne.2 k2
              have hT6 := hT.box ((isAsr_desk (isAsr_N2 g pl pk) g _).star ((isAsr_doc _ _).star LR)) x.cells 33
              obtain ⟨kind, sec, ci, cx⟩ := x
              dsimp only at x0 x1 x2 x3 n0 n1 n2
              have hrel2 := Lib.hid (show ∃ (j' : Nat) (D2 P2 : List StU), j' ≤ b.length ∧ Value.int .i64 ((j : Int) + 1) = .int .i64 j' ∧ GoodU (150 + j') D2 ∧ GoodU (150 + j') P2 ∧ SufG D D2 ∧ Held w _ (star (deskA g (N2 g pl pk) D2) (star (docA pd P2) R0)) from
                ⟨j + 1, _, _, by omega, rfl, hD.mono (by omega), hP.mono (by omega), hsf, hT6.rest⟩)
              clear hT hT6 hB hD hP hsf k01 k2
              go_wp2_with fail
              go_roundw
              case measure => simp [RowKit.intOf]; omega
              case rel => exact hrel2.out
        · have hjl : j = b.length := by omega
          subst hjl
          have hltJ : decide (b.length < b.length) = false := decide_eq_false (by omega)
          clear hlt hB
          obtain ⟨st2, past2, hst2, m1, m2, m3⟩ := hD.cons
          have hdr := sufG_drop hsf hst.out hst2
          rw [hst2] at hT
          have kb := desk_back (isAsr_N2 g pl pk) ((isAsr_doc _ _).star LR) (by omega) ((past.length : Nat) : Int) hT
          rw [Int.toNat_natCast, ← hst2] at kb
          rw [hdr, hst.out] at kb
          replace kb := Lib.hid kb
          clear hT hdr hst2 hsf hD hP m1 m2 m3
          go_wp2_with fail
          refine kb.out.mono ?_
          rintro e w5 ⟨rfl, hT6⟩
          obtain ⟨v1, hv1⟩ := hT6.desk2List false
          have ka := Lib.hid (uAll_any hv1 (show (selU false st).length ≤ 100000 from Nat.le_trans l2 (by omega)))
          replace hT6 := Lib.hid hT6
          clear kb hv1
          go_wp2_with fail
          refine ka.out.mono ?_
          rintro e w6 ⟨va, rfl, hna⟩
          have hT7 := hT6.out.later ((isAsr_desk (isAsr_N2 g pl pk) g _).star ((isAsr_doc _ _).star LR)) hna.2.2
          obtain ⟨sa, rfl, hsa, hsar⟩ := Rw.made hna.1
          have hT7' := hT7
          rw [hR0.out] at hT7'
          have rar : ra.reads w6 := hT7'.pull4.rowAt.1
          have ks := Lib.hid (usame_any hsar rar (by rw [hsa, hra.out]) (by rw [hsa]; exact Nat.le_trans l2 (by omega)))
          replace hT7 := Lib.hid hT7
          clear ka hna hT6 hT7' hsar rar
          unfold Rw.val at ks
          unfold Rw.val
          go_wp2_with fail
          refine ks.out.mono ?_
          rintro e w7 ⟨rfl, hb7⟩
          have hT8 := hT7.out.later ((isAsr_desk (isAsr_N2 g pl pk) g _).star ((isAsr_doc _ _).star LR)) hb7
          obtain ⟨v2, hv2⟩ := hT8.desk2List true
          have kc := Lib.hid (uAll_any hv2 (show (selU true st).length ≤ 100000 from Nat.le_trans l3 (by omega)))
          replace hT8 := Lib.hid hT8
          clear ks hb7 hT7 hv2
          go_wp2_with fail
          refine kc.out.mono ?_
          rintro e w8 ⟨vb, rfl, hnb⟩
          have hT9 := hT8.out.later ((isAsr_desk (isAsr_N2 g pl pk) g _).star ((isAsr_doc _ _).star LR)) hnb.2.2
          obtain ⟨sb, rfl, hsb, hsbr⟩ := Rw.made hnb.1
          have hT9' := hT9
          rw [hR0.out] at hT9'
          have rbr : rb.reads w8 := hT9'.pull3.rowAt.1
          have ks := Lib.hid (usame_any hsbr rbr (by rw [hsb, hrb.out]) (by rw [hsb]; exact Nat.le_trans l3 (by omega)))
          replace hT9 := Lib.hid hT9
          clear kc hnb hT8 hT9' hsbr rbr
          unfold Rw.val at ks
          unfold Rw.val
          go_wp2_with fail
          refine ks.out.mono ?_
          rintro e w9 ⟨rfl, hb9⟩
          have hT10 := hT9.out.later ((isAsr_desk (isAsr_N2 g pl pk) g _).star ((isAsr_doc _ _).star LR)) hb9
          have km := Lib.hid (desk_mark hT10)
          have hfin := Lib.hid hT10.below
          clear ks hb9 hT9 hT10
          go_wp2_with fail
          refine km.out.mono ?_
          rintro e w10 ⟨rfl, rfl⟩
          clear km
          go_wp2
          go_ret
          exact ⟨rfl, hfin.out⟩
end Go.Proofs.Ytkahohgbcnchiaa
