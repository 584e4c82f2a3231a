/- Stage 14: UndoNested's walk. No condition. -/
import Derived.Test.YtkahohgbcnchiaaUny
namespace Go.Proofs.Ytkahohgbcnchiaa
open Go.RowKit Wm

/-- One of a box's cells, stored. -/
theorem Held.setBox {w W : World} {b j : Nat} {cs : List Value} {R : Asr} (L : IsAsr R) (h : Held w W (star (boxA b cs) R)) (hj : j < cs.length) (v : Value) : Held w (W.setCell ⟨b, j, none⟩ v) (star (boxA b (cs.set j v)) R) := by
  refine h.step (isAsr_box _ _) L (fun F hF => ?_)
  obtain ⟨h1, h2, -⟩ := id hF
  have hc := h1.spot j _ (List.getElem?_eq_getElem hj)
  refine postA_box hF ⟨fun i u hi => ?_, by simpa using h1.lt⟩ (fun i => by simpa using h2 i) ((Only.refl (fun k => k = b) W).setCell (p := ⟨b, j, none⟩) (fun _ => rfl) v)
  rw [cell_putR hc]
  by_cases e : i = j
  · subst e
    rw [if_pos rfl]
    rw [List.getElem?_set_self hj] at hi
    exact hi
  · rw [if_neg e]
    rw [List.getElem?_set_ne (fun x => e x.symm)] at hi
    exact h1.spot i u hi
abbrev rowI (r : Rw) : Asr := rowA 3 1 r.val r.xs.length (rowK csI r.xs)
theorem isAsr_rowI (r : Rw) : IsAsr (rowI r) := isAsr_row _ _ _ _ _
/-- What both ways have told so far. -/
def NestU (B : Nat) (X : List Int) (w wr : World) : Nat → Prop
  | 0 => Held w wr (star (boxA B [.slice none 0 0, .slice none 0 0]) nilA)
  | 1 => ∃ r0 : Rw, r0.xs = X ∧ Held w wr (star (boxA B [r0.val, .slice none 0 0]) (star (rowI r0) nilA))
  | _ => ∃ r0 r1 : Rw, r0.xs = X ∧ r1.xs = X ∧ Held w wr (star (boxA B [r0.val, r1.val]) (star (rowI r1) (star (rowI r0) nilA)))
theorem suf_drop {a b : List (List Int)} {x y : List Int} {p q : List (List Int)} (h : SufU a b) (ha : a = x :: p) (hb : b = y :: q) : b.drop (q.length - p.length) = a := by
  obtain ⟨ext, h⟩ := h
  have e : q.length - p.length = ext.length := by
    have h1 := congrArg List.length h
    rw [List.length_append] at h1
    have h2 := congrArg List.length ha
    have h3 := congrArg List.length hb
    rw [List.length_cons] at h2 h3
    omega
  rw [e, h, List.drop_left]
set_option maxRecDepth 100000 in
set_option maxHeartbeats 4000000 in
theorem undoNested_any (ao bo co : Option Addr) (c1 c2 c3 : Nat) (a b c : List Ucall) (la : a.length ≤ 140737488351232) (lb : b.length ≤ 140737488351232) (lc : c.length ≤ 140737488351232) (w : World) (hA : UcallsAt w ao a) (hB : UcallsAt w bo b) (hC : UcallsAt w co c) :
    Calls Try.prog 6 #[.slice ao a.length c1, .slice bo b.length c2, .slice co c.length c3] w fun e w' => e = .returned (.bool true) ∧ Below w.heap.size w w' := by
  have hal := Lib.hid undoAlive_any
  have hw1 : wrap64 ((a.length : Int) + (b.length : Int)) = (a.length : Int) + (b.length : Int) := by unfold wrap64; omega
  have hw2 : wrap64 ((a.length : Int) + (b.length : Int) + (c.length : Int)) = (a.length : Int) + (b.length : Int) + (c.length : Int) := by unfold wrap64; omega
  by_cases q1 : 450 < a.length + b.length + c.length
  · have h1 : decide (450 < (a.length : Int) + (b.length : Int) + (c.length : Int)) = true := decide_eq_true (by omega)
    clear q1
    go_enter Try.func6, Try.ntmps6
    go_wp2_with fail
    refine (hal.out _).mono ?_
    rintro e w1 ⟨rfl, hb1⟩
    go_wp2
    go_ret
    exact ⟨rfl, hb1⟩
  have h1 : decide (450 < (a.length : Int) + (b.length : Int) + (c.length : Int)) = false := decide_eq_false (by omega)
  have hN : a.length + b.length + c.length ≤ 450 := by omega
  clear q1
  go_enter Try.func6, Try.ntmps6
  go_wp2_with fail
  refine (hal.out _).mono ?_
  rintro e wa ⟨rfl, hb1⟩
  clear hal
  have h0 := ((Held.start w).later isAsr_nil hb1).box isAsr_nil [.slice none 0 0, .slice none 0 0] 51
  replace h0 := Lib.hid h0
  clear hb1
  -- the three scripts' histories
  obtain ⟨H1, hH1⟩ : ∃ H, H = editsU [[]] a := ⟨_, rfl⟩
  obtain ⟨H2, hH2⟩ : ∃ H, H = editsU H1 b := ⟨_, rfl⟩
  obtain ⟨H3, hH3⟩ : ∃ H, H = editsU H2 c := ⟨_, rfl⟩
  have g1 := GoodL.start.edits a
  rw [← hH1, Nat.zero_add] at g1
  have g2 := g1.edits b
  rw [← hH2] at g2
  have g3 := g2.edits c
  rw [← hH3] at g3
  have s2 : SufU H1 H2 := by rw [hH2]; exact editsU_suf _ _
  have s3 : SufU H2 H3 := by rw [hH3]; exact editsU_suf _ _
  have s13 : SufU H1 H3 := by obtain ⟨e1, h1⟩ := s2; obtain ⟨e2, h2⟩ := s3; exact ⟨e2 ++ e1, by rw [h2, h1, List.append_assoc]⟩
  have ed1 := Lib.hid (fun (R : Asr) (L : IsAsr R) W1 g pl (h : Held w W1 (star (deskA g (N1 g pl) [[]]) R)) => (show Calls Try.prog 21 #[.pointer (some ⟨pl, 0, none⟩), .slice ao a.length c1] W1 fun e w2 => e = .returned (.tuple #[]) ∧ Held w w2 (star (deskA g (N1 g pl) H1) R) from by rw [hH1]; exact uedit_any L h GoodL.start ao c1 a (by omega) hA))
  have ed2 := Lib.hid (fun (R : Asr) (L : IsAsr R) W1 g pl (h : Held w W1 (star (deskA g (N1 g pl) H1) R)) => (show Calls Try.prog 21 #[.pointer (some ⟨pl, 0, none⟩), .slice bo b.length c2] W1 fun e w2 => e = .returned (.tuple #[]) ∧ Held w w2 (star (deskA g (N1 g pl) H2) R) from by rw [hH2]; exact uedit_any L h g1 bo c2 b (by omega) hB))
  have ed3 := Lib.hid (fun (R : Asr) (L : IsAsr R) W1 g pl (h : Held w W1 (star (deskA g (N1 g pl) H2) R)) => (show Calls Try.prog 21 #[.pointer (some ⟨pl, 0, none⟩), .slice co c.length c3] W1 fun e w2 => e = .returned (.tuple #[]) ∧ Held w w2 (star (deskA g (N1 g pl) H3) R) from by rw [hH3]; exact uedit_any L h g2 co c3 c (by omega) hC))
  obtain ⟨x1, p1, e1, l1, m1⟩ := g1.cons
  obtain ⟨x2, p2, e2, l2, -⟩ := g2.cons
  obtain ⟨x3, p3, e3, l3, -⟩ := g3.cons
  have d32 := suf_drop s3 e2 e3
  have d21 := suf_drop s2 e1 e2
  have d31 := suf_drop s13 e1 e3
  rw [e1] at ed1 ed2 d21 d31
  rw [e2] at ed2 ed3 d32 d21
  rw [e3] at ed3 d32 d31
  have hp1 : p1.length ≤ 100000 := by omega
  have hp2 : p2.length ≤ 100000 := by omega
  have hp3 : p3.length ≤ 100000 := by omega
  have hx1 : x1.length ≤ 100000 := by omega
  replace d32 := Lib.hid d32
  replace d21 := Lib.hid d21
  replace d31 := Lib.hid d31
  clear hH1 hH2 hH3 g1 g2 g3 s2 s3 s13 e1 e2 e3 l1 l2 l3 m1 hA hB hC la lb lc hN
  go_wp2_with fail
  replace h0 := h0.out
  generalize wa.alloc (.cells [Value.slice none 0 0, Value.slice none 0 0].toArray 51) = wb at *
  generalize wa.heap.size = B at *
  replace h0 := Lib.hid h0
  clear hw1 hw2
  go_loopw [8] (fun wv wr => ∃ k : Nat, k ≤ 2 ∧ wv = .int .i64 k ∧ NestU B x1 w wr k) (fun wv _ => (2 - RowKit.intOf wv).toNat)
  case atStart => exact ⟨0, by omega, rfl, h0.out⟩
  case round =>
    clear h0
    obtain ⟨k, hk, rfl, hT⟩ := hrel
    have hcase : k = 0 ∨ k = 1 ∨ k = 2 := by omega
    rcases hcase with rfl | rfl | rfl
    · have hT : Held w wr (star (boxA B [.slice none 0 0, .slice none 0 0]) nilA) := hT
      have h1 := hT.newLog ((isAsr_box _ _).star isAsr_nil)
      replace h1 := Lib.hid h1
      clear hT
      go_wp2_with fail
      replace h1 := h1.out
      generalize wr.alloc (.cells #[.slice none 0 0] 27) = wb2 at *
      generalize wr.heap.size = g at *
      refine (uOf_any (lgU g) wb2).mono ?_
      rintro e wc ⟨rfl, rfl⟩
      have h2 := ((h1.newList ((isAsr_log _ _).star ((isAsr_box _ _).star isAsr_nil)) (lgU g)).pull).startDesk (N := N1 g wb2.heap.size)
      generalize wb2.alloc (.cells #[.pointer (lgU g), .slice none 0 0] 55) = wc at *
      generalize wb2.heap.size = pl at *
      obtain ⟨R0, hR0⟩ : ∃ R, R = (star (boxA B [.slice none 0 0, .slice none 0 0]) nilA) := ⟨_, rfl⟩
      have L0 : IsAsr R0 := by rw [hR0]; exact ((isAsr_box _ _).star isAsr_nil)
      rw [← hR0] at h2
      replace hR0 := Lib.hid hR0
      have k1 := Lib.hid (ed1.out R0 L0 _ _ _ h2)
      clear h1 h2
      go_wp2_with fail
      refine k1.out.mono ?_
      rintro e w3 ⟨rfl, h3⟩
      have km := Lib.hid (desk_mark h3)
      have k2 := Lib.hid (ed2.out R0 L0 _ _ _ h3)
      clear k1 h3
      go_wp2_with fail
      refine km.out.mono ?_
      rintro e w4 ⟨rfl, rfl⟩
      clear km
      go_wp2_with fail
      refine k2.out.mono ?_
      rintro e w5 ⟨rfl, h5⟩
      have km := Lib.hid (desk_mark h5)
      have k3 := Lib.hid (ed3.out R0 L0 _ _ _ h5)
      clear k2 h5
      go_wp2_with fail
      refine km.out.mono ?_
      rintro e w6 ⟨rfl, rfl⟩
      clear km
      go_wp2_with fail
      refine k3.out.mono ?_
      rintro e w6 ⟨rfl, h6⟩
      have kb := desk_back (isAsr_N1 g pl) L0 hp3 ((p2.length : Nat) : Int) h6
      rw [Int.toNat_natCast, d32.out] at kb
      replace kb := Lib.hid kb
      clear k3 h6
      go_wp2_with fail
      refine kb.out.mono ?_
      rintro e w7 ⟨rfl, h7⟩
      have kc := desk_back (isAsr_N1 g pl) L0 hp2 ((p1.length : Nat) : Int) h7
      rw [Int.toNat_natCast, d21.out] at kc
      replace kc := Lib.hid kc
      clear kb h7
      go_wp2_with fail
      refine kc.out.mono ?_
      rintro e w8 ⟨rfl, h8⟩
      obtain ⟨v8, hv8⟩ := h8.desk1List
      have ka := Lib.hid (uAll_any hv8 hx1)
      replace h8 := Lib.hid h8
      clear kc hv8
      go_wp2_with fail
      refine ka.out.mono ?_
      rintro e w9 ⟨v9, rfl, hn9⟩
      have h10 := h8.out.newRow ((isAsr_desk (isAsr_N1 g pl) g _).star L0) hn9
      obtain ⟨r1, rfl, y1, -⟩ := Rw.made hn9.1
      rw [← y1, hR0.out] at h10
      have hT11 := Held.setBox ((isAsr_rowI r1).star ((isAsr_desk (isAsr_N1 g pl) g _).star isAsr_nil)) (j := 0) h10.pull3 (by simp) r1.val
      have hbx := h10.pull3.boxAt
      have c0 := hbx.1.spot 0 _ rfl
      have f0 := hbx.2.1 0
      have lB := hbx.1.lt
      obtain ⟨v11, hv11⟩ : True ∧ True := ⟨trivial, trivial⟩
      have km := Lib.hid (desk_mark hT11.pull3)
      have hT12 := Lib.hid hT11.pull3.rest
      clear ka h8 hn9 h10 hbx hT11 v11 hv11
      unfold Rw.val at *
      go_upto_region 20 with (fail)
      generalize w9.setCell ⟨B, 0, none⟩ (.slice r1.ao r1.len r1.cap) = w10 at *
      clear c0 f0 lB
      go_wp2_with fail
      refine km.out.mono ?_
      rintro e w11 ⟨rfl, rfl⟩
      clear km
      go_wp2_with fail
      go_roundw
      case measure => simp [RowKit.intOf]
      case rel => exact ⟨1, by omega, rfl, r1, y1, hT12.out⟩
    · obtain ⟨r0, y0, hT⟩ := hT
      have h1 := hT.newLog ((isAsr_box _ _).star ((isAsr_rowI _).star isAsr_nil))
      replace h1 := Lib.hid h1
      clear hT
      go_wp2_with fail
      replace h1 := h1.out
      generalize wr.alloc (.cells #[.slice none 0 0] 27) = wb2 at *
      generalize wr.heap.size = g at *
      refine (uOf_any (lgU g) wb2).mono ?_
      rintro e wc ⟨rfl, rfl⟩
      have h2 := ((h1.newList ((isAsr_log _ _).star ((isAsr_box _ _).star ((isAsr_rowI _).star isAsr_nil))) (lgU g)).pull).startDesk (N := N1 g wb2.heap.size)
      generalize wb2.alloc (.cells #[.pointer (lgU g), .slice none 0 0] 55) = wc at *
      generalize wb2.heap.size = pl at *
      obtain ⟨R0, hR0⟩ : ∃ R, R = (star (boxA B [r0.val, .slice none 0 0]) (star (rowI r0) nilA)) := ⟨_, rfl⟩
      have L0 : IsAsr R0 := by rw [hR0]; exact ((isAsr_box _ _).star ((isAsr_rowI _).star isAsr_nil))
      rw [← hR0] at h2
      replace hR0 := Lib.hid hR0
      have k1 := Lib.hid (ed1.out R0 L0 _ _ _ h2)
      clear h1 h2
      go_wp2_with fail
      refine k1.out.mono ?_
      rintro e w3 ⟨rfl, h3⟩
      have km := Lib.hid (desk_mark h3)
      have k2 := Lib.hid (ed2.out R0 L0 _ _ _ h3)
      clear k1 h3
      go_wp2_with fail
      refine km.out.mono ?_
      rintro e w4 ⟨rfl, rfl⟩
      clear km
      go_wp2_with fail
      refine k2.out.mono ?_
      rintro e w5 ⟨rfl, h5⟩
      have km := Lib.hid (desk_mark h5)
      have k3 := Lib.hid (ed3.out R0 L0 _ _ _ h5)
      clear k2 h5
      go_wp2_with fail
      refine km.out.mono ?_
      rintro e w6 ⟨rfl, rfl⟩
      clear km
      go_wp2_with fail
      refine k3.out.mono ?_
      rintro e w6 ⟨rfl, h6⟩
      have kc := desk_back (isAsr_N1 g pl) L0 hp3 ((p1.length : Nat) : Int) h6
      rw [Int.toNat_natCast, d31.out] at kc
      replace kc := Lib.hid kc
      clear k3 h6
      go_wp2_with fail
      refine kc.out.mono ?_
      rintro e w8 ⟨rfl, h8⟩
      obtain ⟨v8, hv8⟩ := h8.desk1List
      have ka := Lib.hid (uAll_any hv8 hx1)
      replace h8 := Lib.hid h8
      clear kc hv8
      go_wp2_with fail
      refine ka.out.mono ?_
      rintro e w9 ⟨v9, rfl, hn9⟩
      have h10 := h8.out.newRow ((isAsr_desk (isAsr_N1 g pl) g _).star L0) hn9
      obtain ⟨r1, rfl, y1, -⟩ := Rw.made hn9.1
      rw [← y1, hR0.out] at h10
      have hT11 := Held.setBox ((isAsr_rowI r1).star ((isAsr_desk (isAsr_N1 g pl) g _).star ((isAsr_rowI r0).star isAsr_nil))) (j := 1) h10.pull3 (by simp) r1.val
      have hbx := h10.pull3.boxAt
      have c0 := hbx.1.spot 1 _ rfl
      have f0 := hbx.2.1 1
      have lB := hbx.1.lt
      obtain ⟨v11, hv11⟩ : True ∧ True := ⟨trivial, trivial⟩
      have km := Lib.hid (desk_mark hT11.pull3)
      have hT12 := Lib.hid hT11.pull3.rest
      clear ka h8 hn9 h10 hbx hT11 v11 hv11
      unfold Rw.val at *
      go_upto_region 20 with (fail)
      generalize w9.setCell ⟨B, 1, none⟩ (.slice r1.ao r1.len r1.cap) = w10 at *
      clear c0 f0 lB
      go_wp2_with fail
      refine km.out.mono ?_
      rintro e w11 ⟨rfl, rfl⟩
      clear km
      go_wp2_with fail
      go_roundw
      case measure => simp [RowKit.intOf]
      case rel => exact ⟨2, by omega, rfl, r0, r1, y0, y1, hT12.out⟩
    · obtain ⟨r0, r1, y0, y1, hT⟩ := hT
      obtain ⟨hbx, -, -⟩ := hT.boxAt
      have q0 := hbx.spot 0 _ rfl
      have q1 := hbx.spot 1 _ rfl
      have lB := hbx.lt
      have rr1 : r1.reads wr := hT.pull.rowAt.1
      have rr0 : r0.reads wr := hT.pull3.rowAt.1
      have ks := Lib.hid (usame_any rr0 rr1 (by rw [y0, y1]) (by rw [y0]; omega))
      have hb := Lib.hid hT.below
      clear hT hbx rr0 rr1
      unfold Rw.val at *
      go_wp2_with fail
      refine ks.out.mono ?_
      rintro e w8 ⟨rfl, hb8⟩
      have hfin := hb.out.trans (hb8.mono hb.out.size)
      clear ks hb8 hb
      go_wp2
      go_ret
      exact ⟨rfl, hfin⟩
end Go.Proofs.Ytkahohgbcnchiaa
