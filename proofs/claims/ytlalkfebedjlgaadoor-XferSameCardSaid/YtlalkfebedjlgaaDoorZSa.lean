/- The document's own Show: digit by digit, doubled. -/
import Derived.Test.YtlalkfebedjlgaaDoorZBb
import Derived.Test.YtlalkfebedjlgaaDoorZSm
import Derived.Deep.AppendSrc
import Derived.Room.AppendZeros
namespace Go.Proofs.YtlalkfebedjlgaaDoor
open Go.RowKit Go.Sort Wm

def mixE (X Y L q p : Nat) : Nat := if L ≤ p + q then digE Y (L - 1 - p) else digE X (L - 1 - p)
/-- What lies in memory: the number's box, and a row of digits. -/
structure Dg (w wr : World) (a blk L X Y q : Nat) : Prop where
  b0 : wr.cell? ⟨w.heap.size, 0, none⟩ = some (.int .u64 ((hiN a : Nat) : Int))
  b1 : wr.cell? ⟨w.heap.size, 1, none⟩ = some (.int .u64 ((loN a : Nat) : Int))
  row : ∀ p, p < L → wr.cell? ⟨blk, p, none⟩ = some (.int .i64 ((mixE X Y L q p : Nat) : Int))
  fz : ∀ p, wr.frozen? ⟨blk, p, none⟩ = false
  far : w.heap.size < blk
  lt : blk < wr.heap.size
  below : Below w.heap.size w wr
theorem Dg.later {w wr w2 : World} {a blk L X Y q : Nat} (h : Dg w wr a blk L X Y q) (hb : Below wr.heap.size wr w2) : Dg w w2 a blk L X Y q :=
  have hl := h.lt
  have hf := h.far
  ⟨by rw [hb.cell (by show w.heap.size < _; omega)]; exact h.b0, by rw [hb.cell (by show w.heap.size < _; omega)]; exact h.b1, fun p hp => by rw [hb.cell (by show blk < _; omega)]; exact h.row p hp, fun p => by rw [hb.frozen (by show blk < _; omega)]; exact h.fz p, h.far, Nat.lt_of_lt_of_le h.lt hb.size, h.below.trans (hb.mono (by omega))⟩
theorem Dg.put {w wr : World} {a blk L X Y q p : Nat} (h : Dg w wr a blk L X Y q) (hp : p + q + 1 = L) (d : Int) (hd : d = ((digE Y q : Nat) : Int)) :
    Dg w (wr.setCell ⟨blk, p, none⟩ (.int .i64 d)) a blk L X Y (q + 1) := by
  have hf := h.far
  have far : ∀ c j, (c ≠ blk ∨ j ≠ p) → (wr.setCell ⟨blk, p, none⟩ (.int .i64 d)).cell? ⟨c, j, none⟩ = wr.cell? ⟨c, j, none⟩ := fun c j hc => by
    rw [World.cell?_setCell_other]
    intro e; injection e with e1 e2 _; omega
  refine ⟨by rw [far _ _ (by omega)]; exact h.b0, by rw [far _ _ (by omega)]; exact h.b1, fun j hj => ?_, fun j => by simpa using h.fz j, h.far, by simpa using h.lt, h.below.setCell (by show _ ≤ blk; omega) _⟩
  by_cases e : j = p
  · subst e
    rw [World.cell?_setCell_same _ _ _ (h.row j hj), hd]
    unfold mixE
    rw [if_pos (by omega), show L - 1 - j = q by omega]
  · rw [far _ _ (by omega), h.row j hj]
    unfold mixE
    by_cases k : L ≤ j + q
    · rw [if_pos k, if_pos (by omega)]
    · rw [if_neg k, if_neg (by omega)]
theorem Dg.start {w wr : World} {a blk L X Y : Nat} (h : Dg w wr a blk L X X 0) : Dg w wr a blk L X Y 0 :=
  ⟨h.b0, h.b1, fun p hp => by have := h.row p hp; unfold mixE at *; rw [if_neg (by omega)] at *; exact this, h.fz, h.far, h.lt, h.below⟩
theorem Dg.done {w wr : World} {a blk L X Y : Nat} (h : Dg w wr a blk L X Y L) : Dg w wr a blk L Y Y 0 :=
  ⟨h.b0, h.b1, fun p hp => by have := h.row p hp; unfold mixE at *; rw [if_pos (by omega)] at this; rw [if_neg (by omega)]; exact this, h.fz, h.far, h.lt, h.below⟩
theorem cap_small (L : Nat) (h : L ≤ 39) : Builtin.nextslicecap (1 + L) 1 * 8 ≤ 281474976710656 := by
  have : ∀ i : Fin 40, Builtin.nextslicecap (1 + i.val) 1 * 8 ≤ 281474976710656 := by decide +kernel
  exact this ⟨L, by omega⟩
theorem int_infoS : Tryd.prog.info? 3 = some Tryd.t3 := by kernel_rfl
theorem app1 {w wi : World} {a blk L cap X Y : Nat} (hD : Dg w wi a blk L X Y L) (hL0 : 0 < L) (hL : L ≤ 39) (ho : digE Y L = 1) :
    ∃ C W2, (∀ ty, (Builtin.append_ #[65, 65] ty #[.slice (some ⟨wi.heap.size, 0, none⟩) 1 1, .slice (some ⟨blk, 0, none⟩) L cap]).run Tryd.prog (wi.alloc (.cells #[.int .i64 1] 3)) = .ok (.slice (some ⟨wi.heap.size + 1, 0, none⟩) (1 + L) C) W2) ∧ Dg w W2 a (wi.heap.size + 1) (1 + L) Y Y 0 := by
  have hD1 := hD.later ((Below.refl _ _).alloc (Nat.le_refl _) (.cells #[.int .i64 1] 3))
  have hlt := hD.lt
  have hfar := hD.far
  generalize hn : (List.range L).map (fun p => Value.int .i64 ((digE Y (L - 1 - p) : Nat) : Int)) = news
  have hlen : news.length = L := by rw [← hn]; simp
  have hat : ∀ j, j < L → news[j]? = some (.int .i64 ((digE Y (L - 1 - j) : Nat) : Int)) := fun j hj => by rw [← hn]; simp [hj]
  have hsrc : Src Tryd.prog 1 65 (.slice (some ⟨blk, 0, none⟩) L cap) L news (wi.alloc (.cells #[.int .i64 1] 3)) :=
    Src.ofSlice _ Tryd.underlying65 _ _ _ _ (by rw [hlen, Nat.mul_one]) (fun j u hu => by
      have hj : j < L := by rw [← hlen]; exact (List.getElem?_eq_some_iff.1 hu).1
      rw [hat j hj] at hu
      obtain rfl := Option.some.inj hu
      have := hD1.row j hj
      rw [show mixE X Y L L j = digE Y (L - 1 - j) by unfold mixE; rw [if_pos (by omega)]] at this
      simp only [Addr.add]
      split
      · rename_i h0; subst h0; exact this
      · rw [Nat.zero_add]; exact this) (fun u hu => by
      rw [← hn] at hu
      obtain ⟨p, _, rfl⟩ := List.mem_map.1 hu
      rfl)
  have hrun := fun ty => run_append_grow_src (P := Tryd.prog) (wi.alloc (.cells #[.int .i64 1] 3)) 65 65 ty 3 Tryd.t3 (.int .i64 0) Tryd.underlying65 int_infoS (by kernel_rfl) (some ⟨wi.heap.size, 0, none⟩) 1 1 [.int .i64 1]
    (run_firstCells_some _ 1 1 ⟨wi.heap.size, 0, none⟩ 1 1 [.int .i64 1] rfl (fun j v hv => by
      have hj : j = 0 := by have := (List.getElem?_eq_some_iff.1 hv).1; simpa using this
      subst hj
      simp at hv
      subst hv
      simp [Addr.add, go_sem])) _ L news hsrc (by omega) (by omega) (cap_small L hL)
  rw [World.size_alloc] at hrun
  have k := (hD1.later ((Below.refl _ _).drew)).later ((Below.refl _ _).alloc (Nat.le_refl _) (.cells (([Value.int .i64 1] ++ news).toArray ++ Builtin.zeroCells (Value.int .i64 0).cells (grownCap (wi.alloc (.cells #[.int .i64 1] 3)) (1 + L) 1 3 - (1 + L))) 3))
  refine ⟨_, _, hrun, ⟨k.b0, k.b1, fun p hp => ?_, fun p => ?_, by omega, ?_, k.below⟩⟩
  · rw [World.cell?_alloc_at (hn := by rw [show ∀ W : World, W.drew.heap.size = W.heap.size from fun _ => rfl, World.size_alloc])]
    rw [Array.getElem?_append_left (by simp [hlen]; omega), List.getElem?_toArray]
    unfold mixE
    rw [if_neg (by omega)]
    cases p with
    | zero => rw [show 1 + L - 1 - 0 = L by omega, ho]; rfl
    | succ p =>
      rw [List.singleton_append, List.getElem?_cons_succ, hat p (by omega), show 1 + L - 1 - (p + 1) = L - 1 - p by omega]
  · exact World.frozen?_alloc_at (hn := by rw [show ∀ W : World, W.drew.heap.size = W.heap.size from fun _ => rfl, World.size_alloc]) ..
  · rw [World.size_alloc, show ∀ W : World, W.drew.heap.size = W.heap.size from fun _ => rfl, World.size_alloc]; omega
/-- The first j of L digits, as a text. -/
def textD (a L j : Nat) : ByteArray := ⟨((decN L a).take j).toArray⟩
theorem textD_zero (a L : Nat) : textD a L 0 = ⟨#[]⟩ := by unfold textD; rw [List.take_zero]
theorem textD_size (a L j : Nat) (h : j ≤ L) : (textD a L j).size = j := by
  show ((decN L a).take j).toArray.size = j
  simp [decN_length]; omega
theorem decN_at (a : Nat) : ∀ (L j : Nat), j < L → (decN L a)[j]? = some (digB (a / 10 ^ (L - 1 - j)))
  | 0, _, h => by omega
  | L + 1, 0, _ => by rw [decN]; simp
  | L + 1, j + 1, h => by
    rw [decN, List.getElem?_cons_succ, decN_at a L j (by omega)]
    rw [show L + 1 - 1 - (j + 1) = L - 1 - j by omega]
theorem textD_succ (a L j : Nat) (h : j < L) : textD a L j ++ byteT (digB (a / 10 ^ (L - 1 - j))) = textD a L (j + 1) := by
  apply ByteArray.ext
  rw [ByteArray.data_append]
  show ((decN L a).take j).toArray ++ #[digB (a / 10 ^ (L - 1 - j))] = ((decN L a).take (j + 1)).toArray
  rw [List.take_add_one, decN_at a L j h]
  simp
theorem textD_all (a L : Nat) (h : L = ndN a) : textD a L L = showN a := by
  unfold textD showN
  rw [List.take_of_length_le (by rw [decN_length]; exact Nat.le_refl _), h]
theorem bit_top (a m : Nat) : a / 2 ^ m = 2 * (a / 2 ^ (m + 1)) + bitN a m := div_step a m

set_option maxRecDepth 100000 in
set_option maxHeartbeats 2000000 in
theorem refshow_any (a : Nat) (ha : a < big) (w : World) :
    Calls Tryd.prog 35 #[numV a] w fun e w' => e = .returned (.string (showN a)) ∧ Below w.heap.size w w' := by
  go_enter Tryd.func35, Tryd.ntmps35
  go_wp2
  go_loopw [3, 4] (fun d i wr => ∃ m L blk cap : Nat, m ≤ 128 ∧ i = .int .i64 ((m : Int) - 1) ∧ d = .slice (some ⟨blk, 0, none⟩) L cap ∧ Hid (L = ndN (a / 2 ^ m)) ∧ L ≤ 39 ∧ 0 < L ∧ Dg w wr a blk L (a / 2 ^ m) (a / 2 ^ m) 0) (fun _ i _ => (RowKit.intOf i + 1).toNat)
  case atStart =>
    refine ⟨128, 1, w.heap.size + 1, 1, by omega, rfl, ?_, ?_, by omega, by omega, ?_⟩
    · rfl
    · show 1 = _
      rw [top_zero a ha]; rfl
    · rw [top_zero a ha]
      have hbl : ∀ A B : Obj, Below w.heap.size w ((w.alloc A).alloc B) := fun A B => ((Below.refl _ _).alloc (Nat.le_refl _) _).alloc (by simp) _
      refine ⟨by simp [go_sem], by simp [go_sem], fun p hp => ?_, fun p => by simp [go_sem], by omega, by simp, hbl _ _⟩
      obtain rfl : p = 0 := by omega
      simp [go_sem, mixE, digE]
  case round =>
    obtain ⟨m, L, blk, cap, hm, rfl, rfl, hL, hL39, hL0, hD⟩ := hrel
    by_cases hm0 : m = 0
    · subst hm0
      rw [Nat.pow_zero, Nat.div_one] at hL hD
      have hL63 : ((L : Nat) : Int) ≤ 39 := by omega
      go_wp2
      go_loopw [8, 48] (fun s i wi => ∃ j : Nat, j ≤ L ∧ i = .int .i64 j ∧ s = .string (textD a L j) ∧ Dg w wi a blk L a a 0) (fun _ i _ => (L - RowKit.intOf i).toNat)
      case atStart => exact ⟨0, by omega, rfl, by rw [textD_zero], hD⟩
      case round =>
        clear hD
        obtain ⟨j, hj, rfl, rfl, hD⟩ := hrel
        by_cases hjL : j < L
        · have hjL2 : ((j : Nat) : Int) < ((L : Nat) : Int) := by omega
          have tc := hD.row j hjL
          rw [show mixE a a L 0 j = digE a (L - 1 - j) by unfold mixE; rw [if_neg (by omega)]] at tc
          have d1 := digE_lt a (L - 1 - j)
          have hts := Lib.hid (textD_succ a L j hjL)
          have hsz := textD_size a L j hj
          have hcv := conv1 (digB (a / 10 ^ (L - 1 - j)))
          rw [digB_toNat, show a / 10 ^ (L - 1 - j) % 10 = digE a (L - 1 - j) from rfl, show ((48 + digE a (L - 1 - j) : Nat) : Int) = 48 + ((digE a (L - 1 - j) : Nat) : Int) by omega] at hcv
          have hbs := byteT_size (digB (a / 10 ^ (L - 1 - j)))
          generalize byteT (digB (a / 10 ^ (L - 1 - j))) = bt at *
          generalize digE a (L - 1 - j) = d at *
          generalize textD a L j = tx at *
          go_wp2
          exact ⟨⟨j + 1, by omega, by go_num, by rw [hts.out], hD.later ((Below.refl _ _).alloc (Nat.le_refl _) _)⟩, by simp [RowKit.intOf]; omega⟩
        · obtain rfl : j = L := by omega
          have hend := Lib.hid (textD_all a j hL.out)
          go_wp2
          go_ret
          have e : Ending.returned (.string (textD a j j)) = .returned (.string (showN a)) := by rw [hend.out]
          exact ⟨e, hD.below⟩
    · obtain ⟨p, rfl⟩ : ∃ p, m = p + 1 := ⟨m - 1, by omega⟩
      rw [show (((p + 1 : Nat) : Int) - 1) = (p : Int) by omega]
      have tb0 := hD.b0
      have tb1 := hD.b1
      have hbit := Lib.hid (fun w => bit_any a p (by omega) w)
      go_wp2_with fail
      refine (hbit.out _).mono ?_
      rintro e w2 ⟨rfl, hw2⟩
      replace hD := (hD.later hw2).start (Y := a / 2 ^ p)
      clear hw2 tb0 tb1 hbit
      have hXY := Lib.hid (bit_top a p)
      have hYb := Lib.hid (show a / 2 ^ p < big from Nat.lt_of_le_of_lt (Nat.div_le_self _ _) ha)
      have hbl := bitN_lt a p
      generalize bitN a p = bit at *
      generalize hX : a / 2 ^ (p + 1) = X at *
      generalize hY : a / 2 ^ p = Y at *
      replace hX := Lib.hid hX
      replace hY := Lib.hid hY
      have hL63 : ((L : Nat) : Int) ≤ 39 := by omega
      go_wp2
      go_loopw [5, 6] (fun c i wi => ∃ q r : Nat, r + q = L ∧ i = .int .i64 ((r : Int) - 1) ∧ c = .int .i64 ((caryN X bit q : Nat) : Int) ∧ Dg w wi a blk L X Y q) (fun _ i _ => (RowKit.intOf i + 1).toNat)
      case atStart => exact ⟨0, L, by omega, rfl, by rw [caryN_zero X bit hbl], hD⟩
      case round =>
        clear hD
        obtain ⟨q, r, hrq, rfl, rfl, hD⟩ := hrel
        by_cases hr0 : r = 0
        · obtain rfl : q = L := by omega
          subst hr0
          have hXq : X < 10 ^ q := by rw [hL.out]; exact (ndN_len X (by have := hYb.out; have := hXY.out; omega)).2.2.1
          have hc := cary_end X bit q hXq
          rw [← hXY.out] at hc
          rw [hc]
          have hq := Lib.hid hXq
          have hcc := Lib.hid hc
          clear hXq hc
          by_cases hz : Y / 10 ^ q = 0
          · rw [hz]
            have hnd : q = ndN Y := by
              have e := hL.out
              have := nd_same X bit (by rw [← hXY.out]; exact hYb.out) hbl (by rw [← e, ← hXY.out]; exact hz)
              rw [hXY.out, this]; exact e
            replace hz := Lib.hid hz
            replace hD := hD.done
            replace hnd := Lib.hid hnd
            go_wp2
            exact ⟨⟨p, q, blk, cap, by omega, rfl, rfl, by show q = _; rw [hY.out]; exact hnd.out, hL39, hL0, by rw [hY.out]; exact hD⟩, by simp [RowKit.intOf]⟩
          · have hm2 := nd_more X bit (by rw [← hXY.out]; exact hYb.out) hbl (by rw [← hL.out, ← hXY.out]; exact hz)
            rw [← hL.out, ← hXY.out] at hm2
            rw [hm2.2]
            have ho : digE Y q = 1 := by unfold digE; rw [hm2.2]
            obtain ⟨C, W2, hrun, hD2⟩ := app1 (cap := cap) hD hL0 hL39 ho
            replace hz := Lib.hid hz
            replace hm2 := Lib.hid hm2
            replace ho := Lib.hid ho
            have Hrun := Lib.hid hrun
            clear hrun
            go_wp2_with (at_builtin; refine Lib.wpList_append_run _ rfl _ _ _ _ rfl _ _ rfl rfl _ _ (Hrun.out _) ?_)
            have hnY := ndN_len Y hYb.out
            have hnd := hm2.out.1
            exact ⟨⟨p, 1 + q, wr.heap.size + 1, C, by omega, rfl, rfl, by show 1 + q = _; rw [hY.out]; omega, by omega, by omega, by rw [hY.out]; exact hD2⟩, by simp [RowKit.intOf]⟩
        · obtain ⟨t, rfl⟩ : ∃ t, r = t + 1 := ⟨r - 1, by omega⟩
          rw [show (((t + 1 : Nat) : Int) - 1) = (t : Int) by omega]
          have tc := hD.row t (by omega)
          rw [show mixE X Y L q t = digE X q by unfold mixE; rw [if_neg (by omega), show L - 1 - t = q by omega]] at tc
          have tf := hD.fz t
          have d1 := digE_lt X q
          have d2 := caryN_lt X bit q hbl
          obtain ⟨s1, s2⟩ := cary_step X bit q
          rw [← hXY.out] at s1
          replace s1 := Lib.hid s1
          replace s2 := Lib.hid s2
          have htL : t < L := by omega
          replace hrq := Lib.hid hrq
          go_wp2
          exact ⟨⟨q + 1, t, by have := hrq.out; omega, rfl, intV (by rw [← s2.out]; omega), hD.put (by have := hrq.out; omega) _ (by rw [← s1.out]; omega)⟩, by simp [RowKit.intOf]⟩
end Go.Proofs.YtlalkfebedjlgaaDoor
