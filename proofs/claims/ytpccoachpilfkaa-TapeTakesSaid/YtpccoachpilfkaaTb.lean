/- TapePuts' walk, out of the landed contracts. -/
import Derived.Test.YtpccoachpilfkaaTa
namespace Go.Proofs.Ytpccoachpilfkaa
open Go.RowKit Wm

/-- What is known while items are read. -/
structure Reading (Rd : (Nat → Prop) → World → Nat → Option ByteArray → Prop) (w wr : World) (p : Nat) (st : Option ByteArray) : Prop where
  own : ∃ F : Nat → Prop, Rd F wr p st ∧ ∀ j, F j → w.heap.size ≤ j
  below : Below w.heap.size w wr
theorem Reading.next {Rd : (Nat → Prop) → World → Nat → Option ByteArray → Prop} {w wx w2 : World} {p : Nat} {F : Nat → Prop} {st : Option ByteArray} (hF : ∀ j, F j → w.heap.size ≤ j)
    (hb : Below w.heap.size w wx) (h : RdPost Rd F p st wx w2) : Reading Rd w w2 p st := by
  obtain ⟨F', h1, h2, h4⟩ := h
  refine ⟨⟨F', h1, fun j hj => ?_⟩, hb.trans (h2.to_below hb.size hF)⟩
  by_cases hlt : j < wx.heap.size
  · exact hF j (h4 j hlt hj)
  · have := hb.size; omega
theorem rd_int {Rd : (Nat → Prop) → World → Nat → Option ByteArray → Prop} (R : LandedRd Rd) (p : Nat) (size n : Int) (rest : ByteArray) (F : Nat → Prop) (W : World) (h : Rd F W p (some (intB size n ++ rest))) :
    Calls Try.prog 13 #[.pointer (some ⟨p, 0, none⟩), .int .i64 size] W fun e W' => e = .returned (.int .i64 (backZ (intB size n))) ∧ RdPost Rd F p (some rest) W W' := by
  have := R.int F W p _ size h
  rw [← intB_size size n, rd_part, rd_next] at this
  exact this
theorem rd_num {Rd : (Nat → Prop) → World → Nat → Option ByteArray → Prop} (R : LandedRd Rd) (p : Nat) (n : Nat) (hn : n < big) (rest : ByteArray) (F : Nat → Prop) (W : World) (h : Rd F W p (some (numB n ++ rest))) :
    Calls Try.prog 16 #[.pointer (some ⟨p, 0, none⟩)] W fun e W' => e = .returned (numV n) ∧ RdPost Rd F p (some rest) W W' := by
  have := R.num F W p _ h
  rw [show (16 : Int) = (((numB n).size : Nat) : Int) by rw [numB_size]; rfl, rd_part, rd_next, valL_numB hn] at this
  exact this
theorem yesB_size (b : Bool) : (yesB b).size = 1 := by cases b <;> rfl
theorem rd_flag {Rd : (Nat → Prop) → World → Nat → Option ByteArray → Prop} (R : LandedRd Rd) (p : Nat) (b : Bool) (rest : ByteArray) (F : Nat → Prop) (W : World) (h : Rd F W p (some (yesB b ++ rest))) :
    Calls Try.prog 17 #[.pointer (some ⟨p, 0, none⟩)] W fun e W' => e = .returned (.bool b) ∧ RdPost Rd F p (some rest) W W' := by
  have := R.flag F W p _ h
  unfold flagYes flagNext at this
  rw [show (1 : Int) = (((yesB b).size : Nat) : Int) by rw [yesB_size]; rfl, rd_part, rd_next] at this
  have e1 : decide (bytesN (yesB b) = [1]) = b := by cases b <;> decide +kernel
  have e2 : valL (bytesN (yesB b)) ≤ 1 := by cases b <;> decide +kernel
  rw [e1, if_pos e2] at this
  exact this
theorem rd_raw {Rd : (Nat → Prop) → World → Nat → Option ByteArray → Prop} (R : LandedRd Rd) (p : Nat) (s : ByteArray) (hs : s.size ≤ 140737488351232) (rest : ByteArray) (F : Nat → Prop) (W : World) (h : Rd F W p (some (s ++ rest))) :
    Calls Try.prog 18 #[.pointer (some ⟨p, 0, none⟩), .int .i64 ((s.size : Nat) : Int)] W fun e W' => e = .returned (.string s) ∧ RdPost Rd F p (some rest) W W' := by
  have := R.raw F W p _ ((s.size : Nat) : Int) h (by omega) (by omega)
  rw [rd_part, rd_next] at this
  exact this
set_option maxRecDepth 100000 in
set_option maxHeartbeats 4000000 in
theorem tapePuts_any {Wr : (Nat → Prop) → World → Nat → ByteArray → Prop} (K : LandedWr Wr) {Rd : (Nat → Prop) → World → Nat → Option ByteArray → Prop} (R : LandedRd Rd)
    (ao : Option Addr) (cap : Nat) (l : List Item) (hw : ∀ x ∈ l, x.Wf) (hlen : l.length ≤ 140737488351232) (w : World) (hS : ItemsAt w ao l) :
    Calls Try.prog 3 #[.slice ao l.length cap] w fun e w' => e = .returned (.bool true) ∧ Below w.heap.size w w' := by
  have hS0 := hS
  have hal := Lib.hid (tapeAlive_any K R)
  have hgr := Lib.hid (great_any ao cap l hw hlen)
  by_cases hg : greatB l = true
  · rw [hg] at hgr
    go_enter Try.func3, Try.ntmps3
    go_wp2_with fail
    refine (hal.out _).mono ?_
    rintro e w1 ⟨rfl, hb1⟩
    replace hS := hS.later hb1
    go_wp2_with fail
    refine (hgr.out _ hS).mono ?_
    rintro e w2 ⟨rfl, hb2⟩
    go_wp2
    go_ret
    exact ⟨rfl, hb1.trans (hb2.mono hb1.size)⟩
  · have hg2 : greatB l = false := Bool.eq_false_iff.mpr hg
    have hlen2 : l.length ≤ 60 := by
      unfold greatB at hg2
      simp at hg2
      omega
    have hsum : textSum l ≤ 4096 := by
      unfold greatB at hg2
      simp at hg2
      omega
    rw [hg2] at hgr
    clear hg
    replace hg2 := 0
    have hsz := itemsB_size l l.length (Nat.le_refl _)
    rw [List.take_length] at hsz
    have hput := Lib.hid (put_any K ao cap l hw hlen2 (by omega))
    have hstr := Lib.hid (fun F W p h => K.str F W p (itemsB l) h (by omega))
    have hln := Lib.hid (fun F W p h => K.len F W p (itemsB l) h (by omega))
    have hrd := Lib.hid (fun W => R.read (itemsB l) W (by omega))
    have hd0 := Lib.hid (show itemsB (l.drop 0) = itemsB l by rw [List.drop_zero])
    go_enter Try.func3, Try.ntmps3
    go_wp2_with fail
    refine (hal.out _).mono ?_
    rintro e w1 ⟨rfl, hb1⟩
    replace hS := hS.later hb1
    go_wp2_with fail
    refine (hgr.out _ hS).mono ?_
    rintro e w2 ⟨rfl, hb2⟩
    replace hb1 := hb1.trans (hb2.mono hb1.size)
    replace hS := hS.later hb2
    clear hb2
    go_wp2_with fail
    refine (hput.out _ hS).mono ?_
    rintro e w3 ⟨rfl, hP⟩
    obtain ⟨⟨F, hF, hFb⟩, hb2⟩ := hP
    rw [List.take_length] at hF
    replace hb1 := hb1.trans (hb2.mono hb1.size)
    replace hS := hS.later hb2
    clear hb2 hgr hal hput
    go_wp2_with fail
    refine (hstr.out _ _ _ hF).mono ?_
    rintro e w4 ⟨rfl, hb2⟩
    replace hb1 := hb1.trans (hb2.mono hb1.size)
    replace hS := hS.later hb2
    replace hF := K.later hF hb2
    clear hb2 hstr
    go_wp2_with fail
    refine (hln.out _ _ _ hF).mono ?_
    rintro e w5 ⟨rfl, hb2⟩
    replace hb1 := hb1.trans (hb2.mono hb1.size)
    replace hS := hS.later hb2
    clear hb2 hln hF hFb
    go_wp2_with fail
    refine (hrd.out _).mono ?_
    rintro e w6 ⟨p, F, rfl, hR, hFb, hb2⟩
    have hsz1 := hb1.size
    have hsz2 := hb2.size
    replace hb1 := hb1.trans (hb2.mono hb1.size)
    replace hS := hS.later hb2
    clear hb2 hrd
    have hg0 : Reading Rd w w6 p (some (itemsB (l.drop 0))) := ⟨⟨F, by rw [hd0.out]; exact hR, fun j hj => by have := hFb j hj; omega⟩, hb1⟩
    clear hR hFb hb1
    clear hS hsz1 hsz2 hd0
    go_wp2_with fail
    go_loopw [32] (fun i wr => ∃ k : Nat, k ≤ l.length ∧ i = .int .i64 k ∧ Reading Rd w wr p (some (itemsB (l.drop k)))) (fun i _ => (l.length - intOf i).toNat)
    case atStart => exact ⟨0, by omega, rfl, hg0⟩
    case round =>
      clear hg0
      obtain ⟨k, hk, rfl, hP⟩ := hrel
      by_cases hlt : k < l.length
      · obtain ⟨b, off, rfl, hbl, hc⟩ := (hS0.below hP.below (Nat.le_refl _)).spot k hlt
        have hx := hw _ (List.getElem_mem hlt)
        obtain ⟨⟨F, hF, hFb⟩, hb⟩ := hP
        rw [itemsB_drop l k hlt] at hF
        have hnext := Lib.hid (fun wx w2 a c => Reading.next (w := w) (wx := wx) (w2 := w2) (p := p) (F := F) (st := some (itemsB (l.drop (k + 1)))) (Rd := Rd) hFb a c)
        generalize hrest : itemsB (l.drop (k + 1)) = rest at *
        replace hrest := Lib.hid hrest
        generalize l[k] = x at *
        obtain ⟨kind, size, n, wide, yes, text⟩ := x
        have c0 := hc 0 _ rfl
        have c1 := hc 1 _ rfl
        have c2 := hc 2 _ rfl
        have c3 := hc 3 _ rfl
        have c4 := hc 4 _ rfl
        have c5 := hc 5 _ rfl
        have c6 := hc 6 _ rfl
        dsimp only [Nat.add_zero] at c0 c1 c2 c3 c4 c5 c6
        clear hc
        have hin := hx.n
        have hiw := hx.wide
        have hit := hx.text
        dsimp only at hin hiw hit
        clear hx
        have hX := BoxAt.new wr [.int .i64 kind, .int .i64 size, .int .i64 n, .int .u64 ((hiN wide : Nat) : Int), .int .u64 ((loN wide : Nat) : Int), .bool yes, .string text] 36
        have hbx := hb.alloc hb.size (.cells #[.int .i64 kind, .int .i64 size, .int .i64 n, .int .u64 ((hiN wide : Nat) : Int), .int .u64 ((loN wide : Nat) : Int), .bool yes, .string text] 36)
        have hFx := R.later hF ((Below.refl _ _).alloc (Nat.le_refl _) (.cells #[.int .i64 kind, .int .i64 size, .int .i64 n, .int .u64 ((hiN wide : Nat) : Int), .int .u64 ((loN wide : Nat) : Int), .bool yes, .string text] 36))
        have hFn : ¬ F wr.heap.size := fun e => by have := R.near _ _ _ _ hF _ e; omega
        clear hF
        by_cases h0 : kind = 0
        · subst h0
          rw [show itemB ⟨0, size, n, wide, yes, text⟩ = intB size n from rfl] at hFx
          have hI := Lib.hid (fun W h => rd_int R p size n rest F W h)
          have hri := Lib.hid (fun w => refint_any size n w)
          have hrb := Lib.hid (fun w => refback_any (intB size n) (by rw [intB_size]; have := sizeK_le size; omega) w)
          have d1 := hX.spot 1 _ rfl
          have d2 := hX.spot 2 _ rfl
          have hll := hX.lt
          go_wp2_with fail
          generalize wr.alloc (.cells #[.int .i64 0, .int .i64 size, .int .i64 n, .int .u64 ((hiN wide : Nat) : Int), .int .u64 ((loN wide : Nat) : Int), .bool yes, .string text] 36) = wx at *
          generalize hBB : wr.heap.size = B at *
          have hS3 : wx.cell? ⟨B, 1, none⟩ = some (.int .i64 size) ∧ wx.cell? ⟨B, 2, none⟩ = some (.int .i64 n) ∧ B < wx.heap.size := ⟨d1, d2, hll⟩
          go_region_held3 (fun w' => w'.cell? ⟨B, 1, none⟩ = some (.int .i64 size) ∧ w'.cell? ⟨B, 2, none⟩ = some (.int .i64 n) ∧ B < w'.heap.size)
            (first | exact hS3 | assumption | exact two_cells_call (by assumption) hbI | exact two_cells_only hFn (by assumption) hpR.only | exact two_cells_call (by assumption) ((Below.refl _ _).drew))
            (first
              | (go_at_call 13; with_reducible refine (hI.out _ (by first | exact hFx | exact R.later hFx ((Below.refl _ _).drew) | exact R.later hFx ((Below.refl _ _).drew.trans hbI))).mono ?_; rintro e wR ⟨rfl, hpR⟩)
              | (go_at_call 15; with_reducible refine (hri.out _).mono ?_; rintro e wI ⟨rfl, hbI⟩)
              | (go_at_call 14; with_reducible refine (hrb.out _).mono ?_; rintro e wB ⟨rfl, rfl⟩))
          go_wp2
          exact ⟨⟨k + 1, by omega, by go_num, by rw [hrest.out]; exact hnext.out _ _ hbx.drew (hpR.later R hbI)⟩, by simp [intOf]; omega⟩
        · by_cases h1 : kind = 1
          · subst h1
            rw [show itemB ⟨1, size, n, wide, yes, text⟩ = numB wide from rfl] at hFx
            have hI := Lib.hid (fun W h => rd_num R p wide hiw rest F W h)
            have d1 := hX.spot 3 _ rfl
            have d2 := hX.spot 4 _ rfl
            have hll := hX.lt
            go_wp2_with fail
            generalize wr.alloc (.cells #[.int .i64 1, .int .i64 size, .int .i64 n, .int .u64 ((hiN wide : Nat) : Int), .int .u64 ((loN wide : Nat) : Int), .bool yes, .string text] 36) = wx at *
            generalize hBB : wr.heap.size = B at *
            have hS3 : wx.cell? ⟨B, 3, none⟩ = some (.int .u64 ((hiN wide : Nat) : Int)) ∧ wx.cell? ⟨B, 4, none⟩ = some (.int .u64 ((loN wide : Nat) : Int)) ∧ B < wx.heap.size := ⟨d1, d2, hll⟩
            go_region_held3 (fun w' => w'.cell? ⟨B, 3, none⟩ = some (.int .u64 ((hiN wide : Nat) : Int)) ∧ w'.cell? ⟨B, 4, none⟩ = some (.int .u64 ((loN wide : Nat) : Int)) ∧ B < w'.heap.size)
              (first | exact hS3 | assumption | exact two_cells_only hFn (by assumption) hpR.only | exact two_cells_call (by assumption) ((Below.refl _ _).drew))
              (first
                | (go_at_call 16; with_reducible refine (hI.out _ (by first | exact hFx | exact R.later hFx ((Below.refl _ _).drew))).mono ?_; rintro e wR ⟨rfl, hpR⟩))
            go_wp2
            exact ⟨⟨k + 1, by omega, by go_num, by rw [hrest.out]; exact hnext.out _ _ hbx.drew hpR⟩, by simp [intOf]; omega⟩
          · by_cases h2 : kind = 2
            · subst h2
              rw [show itemB ⟨2, size, n, wide, yes, text⟩ = yesB yes from rfl] at hFx
              have hI := Lib.hid (fun W h => rd_flag R p yes rest F W h)
              have d1 := hX.spot 5 _ rfl
              have hll := hX.lt
              go_wp2_with fail
              generalize wr.alloc (.cells #[.int .i64 2, .int .i64 size, .int .i64 n, .int .u64 ((hiN wide : Nat) : Int), .int .u64 ((loN wide : Nat) : Int), .bool yes, .string text] 36) = wx at *
              generalize hBB : wr.heap.size = B at *
              have hS3 : wx.cell? ⟨B, 5, none⟩ = some (.bool yes) ∧ B < wx.heap.size := ⟨d1, hll⟩
              go_region_held3 (fun w' => w'.cell? ⟨B, 5, none⟩ = some (.bool yes) ∧ B < w'.heap.size)
                (first | exact hS3 | assumption | exact one_cell_only hFn (by assumption) hpR.only | exact one_cell_call (by assumption) ((Below.refl _ _).drew))
                (first
                  | (go_at_call 17; with_reducible refine (hI.out _ (by first | exact hFx | exact R.later hFx ((Below.refl _ _).drew))).mono ?_; rintro e wR ⟨rfl, hpR⟩))
              go_wp2
              exact ⟨⟨k + 1, by omega, by go_num, by rw [hrest.out]; exact hnext.out _ _ hbx.drew hpR⟩, by simp [intOf]; omega⟩
            · by_cases h3 : kind = 3
              · subst h3
                rw [show itemB ⟨3, size, n, wide, yes, text⟩ = text from rfl] at hFx
                have hI := Lib.hid (fun W h => rd_raw R p text hit rest F W h)
                have d1 := hX.spot 6 _ rfl
                have hll := hX.lt
                go_wp2_with fail
                generalize wr.alloc (.cells #[.int .i64 3, .int .i64 size, .int .i64 n, .int .u64 ((hiN wide : Nat) : Int), .int .u64 ((loN wide : Nat) : Int), .bool yes, .string text] 36) = wx at *
                generalize hBB : wr.heap.size = B at *
                have hS3 : wx.cell? ⟨B, 6, none⟩ = some (.string text) ∧ B < wx.heap.size := ⟨d1, hll⟩
                go_region_held3 (fun w' => w'.cell? ⟨B, 6, none⟩ = some (.string text) ∧ B < w'.heap.size)
                  (first | exact hS3 | assumption | exact one_cell_only hFn (by assumption) hpR.only | exact one_cell_call (by assumption) ((Below.refl _ _).drew))
                  (first
                    | (go_at_call 18; with_reducible refine (hI.out _ (by first | exact hFx | exact R.later hFx ((Below.refl _ _).drew))).mono ?_; rintro e wR ⟨rfl, hpR⟩))
                go_wp2
                exact ⟨⟨k + 1, by omega, by go_num, by rw [hrest.out]; exact hnext.out _ _ hbx.drew hpR⟩, by simp [intOf]; omega⟩
              · rw [show itemB ⟨kind, size, n, wide, yes, text⟩ = ByteArray.empty by unfold itemB; rw [if_neg h0, if_neg h1, if_neg h2, if_neg h3], ByteArray.empty_append] at hFx
                have e0 : (kind == 0) = false := by rw [beq_eq_false_iff_ne]; exact h0
                have e1 : (kind == 1) = false := by rw [beq_eq_false_iff_ne]; exact h1
                have e2 : (kind == 2) = false := by rw [beq_eq_false_iff_ne]; exact h2
                have e3 : (kind == 3) = false := by rw [beq_eq_false_iff_ne]; exact h3
                go_wp2
                exact ⟨⟨k + 1, by omega, by go_num, by rw [hrest.out]; exact hnext.out _ _ hbx ⟨F, hFx, Only.refl _ _, fun _ _ e => e⟩⟩, by simp [intOf]; omega⟩
      · obtain rfl : k = l.length := by omega
        rw [List.drop_length, show itemsB [] = ⟨#[]⟩ from rfl] at hP
        obtain ⟨⟨F, hF, hFb⟩, hb⟩ := hP
        have hE := Lib.hid (fun W h => R.fin F W p (some ⟨#[]⟩) h)
        have hT := Lib.hid (fun W h => R.torn F W p (some ⟨#[]⟩) h)
        have hL := Lib.hid (fun W h => R.left F W p (some ⟨#[]⟩) h)
        go_wp2_with fail
        refine (hE.out _ hF).mono ?_
        rintro e w7 ⟨rfl, hb2⟩
        replace hb := hb.trans (hb2.mono hb.size)
        replace hF := R.later hF hb2
        clear hb2
        go_wp2_with fail
        refine (hT.out _ hF).mono ?_
        rintro e w8 ⟨rfl, hb2⟩
        replace hb := hb.trans (hb2.mono hb.size)
        replace hF := R.later hF hb2
        clear hb2
        go_wp2_with fail
        refine (hL.out _ hF).mono ?_
        rintro e w9 ⟨rfl, hb2⟩
        replace hb := hb.trans (hb2.mono hb.size)
        go_wp2
        go_ret
        exact ⟨rfl, hb⟩
end Go.Proofs.Ytpccoachpilfkaa
