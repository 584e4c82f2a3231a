/- Stage 13: QueueOrder's walk. No condition but the landed package's. -/
import Derived.Test.YtgdlcfkgdaaooaaPqu
import Derived.Test.YtgdlcfkgdaaooaaPqt
import Derived.Test.YtgdlcfkgdaaooaaPqq
import Derived.Test.YtgdlcfkgdaaooaaInte
import Derived.Test.YtgdlcfkgdaaooaaBoo
import Derived.Test.YtgdlcfkgdaaooaaFork
import Derived.Deep.LoopGhost
import Derived.Deep.CutBlock
namespace Go.Proofs.Ytgdlcfkgdaaooaa
open Go.RowKit Wm

/-- The numbers of an argument. -/
def dueQ (l : List Inte) : Nat → Int := fun j => (l[j]?.getD default).N
theorem dueQ_get {l : List Inte} {j : Nat} (h : j < l.length) : dueQ l j = (l[j]).N := by unfold dueQ; rw [List.getElem?_eq_getElem h]; rfl
theorem dueQ_wf {l : List Inte} (hl : ∀ c ∈ l, c.Wf) {j : Nat} (h : j < l.length) : -9223372036854775808 ≤ dueQ l j ∧ dueQ l j ≤ 9223372036854775807 := by
  rw [dueQ_get h]; exact (hl _ (List.getElem_mem h)).N
theorem ints_cell {W : World} {bb off : Nat} {l : List Inte} (h : IntesAt W (some ⟨bb, off, none⟩) l) {j : Nat} (hj : j < l.length) : W.cell? ⟨bb, off + j, none⟩ = some (.int .i64 (dueQ l j)) ∧ bb < W.heap.size := by
  obtain ⟨b, o, e, hlt, hc⟩ := h.spot j hj
  obtain ⟨rfl, rfl⟩ : bb = b ∧ off = o := by injection e with e; injection e with e1 e2; exact ⟨e1, e2⟩
  rw [dueQ_get hj]
  have := hc 0 _ rfl
  rw [Nat.mul_one, Nat.add_zero] at this
  exact ⟨this, hlt⟩
theorem turn_k (turn : Int) (n : Nat) (h0 : 0 < n) (hn : n ≤ 100) : ∃ k : Nat, k < n ∧ wrap64 ((IntKind.u64.wrap turn).tmod (n : Int)) = (k : Int) := by
  have h1 : 0 ≤ IntKind.u64.wrap turn := by rw [IntKind.wrap_u64]; omega
  rw [Int.tmod_eq_emod_of_nonneg h1]
  have h2 := Int.emod_nonneg (IntKind.u64.wrap turn) (show (n : Int) ≠ 0 by omega)
  have h3 := Int.emod_lt_of_pos (IntKind.u64.wrap turn) (show (0 : Int) < n by omega)
  generalize IntKind.u64.wrap turn % (n : Int) = z at *
  obtain ⟨k, rfl⟩ := Int.eq_ofNat_of_zero_le h2
  exact ⟨k, by omega, wrap64_small (by omega) (by omega)⟩
theorem run_idx_bool (g n c i : Nat) (h : i < n) (w : World) : (Instr.indexAt 50 (.slice (some ⟨g, 0, none⟩) n c) (.int .i64 (i : Int))).run Try.prog w = .ok (.pointer (some ⟨g, i, none⟩)) w := by
  have := run_idx_K (P := Try.prog) (K := 1) (ty := 50) (e := 4) (by kernel_rfl) (by kernel_rfl) (by kernel_rfl) g 0 n c i h w
  rwa [Nat.zero_add, Nat.mul_one] at this
theorem run_idx_int (g o n c i : Nat) (h : i < n) (w : World) : (Instr.indexAt 48 (.slice (some ⟨g, o, none⟩) n c) (.int .i64 (i : Int))).run Try.prog w = .ok (.pointer (some ⟨g, o + i, none⟩)) w := by
  have := run_idx_K (P := Try.prog) (K := 1) (ty := 48) (e := 3) (by kernel_rfl) (by kernel_rfl) (by kernel_rfl) g o n c i h w
  rwa [Nat.mul_one] at this
section
variable {O : Kind (List Qit)}
set_option maxRecDepth 100000 in
set_option maxHeartbeats 4000000 in
theorem queueOrder_any (K : LandedQu O) (ao : Option Addr) (cap : Nat) (l : List Inte) (hl : ∀ c ∈ l, c.Wf) (hlen : l.length ≤ 140737488351232) (turn : Int) (_ht1 : -9223372036854775808 ≤ turn) (_ht2 : turn ≤ 9223372036854775807) (w : World) (hA : IntesAt w ao l) :
    Calls Try.prog 4 #[.slice ao l.length cap, .int .i64 turn] w fun e w' => e = .returned (.bool true) ∧ Below w.heap.size w w' := by
  have hal := Lib.hid (queueAlive_any K)
  by_cases c1 : 100 < l.length
  · have h1 : decide (100 < ((l.length : Nat) : Int)) = true := decide_eq_true (by omega)
    go_enter Try.func4, Try.ntmps4
    go_wp2_with fail
    refine (hal.out _).mono ?_
    rintro e w1 ⟨rfl, hb1⟩
    go_wp2
    go_ret
    exact ⟨rfl, hb1⟩
  have h1 : decide (100 < ((l.length : Nat) : Int)) = false := decide_eq_false (by omega)
  by_cases c2 : l.length = 0
  · have hl0 : l = [] := List.eq_nil_of_length_eq_zero c2
    subst hl0
    clear h1 c1 c2
    go_enter Try.func4, Try.ntmps4
    go_wp2_with fail
    refine (hal.out _).mono ?_
    rintro e w1 ⟨rfl, hb1⟩
    go_wp2
    go_ret
    exact ⟨rfl, hb1⟩
  have h2 : (((l.length : Nat) : Int) == 0) = false := beq_eq_false_iff_ne.2 (by omega)
  have hN : l.length ≤ 100 := by omega
  have hN0 : 0 < l.length := by omega
  clear c1 c2
  go_enter Try.func4, Try.ntmps4
  go_wp2_with fail
  refine (hal.out _).mono ?_
  rintro e wa ⟨rfl, hb1⟩
  have hT0 := ((Held.start w).later isAsr_nil hb1).obj (cs := [.slice none 0 0]) isAsr_nil (K.new wa)
  have hT1 := (hT0.obj (cs := [.slice none 0 0]) ((isAsr_obj K.toIsKind _ _).star isAsr_nil) (K.new _)).pull
  rw [World.size_alloc] at hT1
  obtain ⟨kk, hkk, ekk⟩ := turn_k turn l.length hN0 hN
  go_upto_region 8 with (fail)
  generalize hgv : wrap64 ((IntKind.u64.wrap turn).tmod ((l.length : Nat) : Int)) = kv at *
  subst ekk
  clear hgv hT0 hb1 hal
  go_wp2_with fail
  go_loopw [40] (fun iv wr => ∃ i : Nat, i ≤ l.length ∧ iv = .int .i64 i ∧ Held w wr (star (objA O wa.heap.size (numQ (dueQ l) (List.range i))) (star (objA O (wa.heap.size + 1) (numQ (dueQ l) (turnL l.length kk i))) nilA))) (fun iv _ => (l.length - RowKit.intOf iv).toNat)
  case atStart => exact ⟨0, by omega, rfl, hT1⟩
  case round =>
    clear hT1
    obtain ⟨i, hi, rfl, hT⟩ := hrel
    by_cases hlt : i < l.length
    · obtain ⟨bb, off, rfl, hbl, -⟩ := (hA.below hT.below (Nat.le_refl _)).spot i hlt
      have hAt := Lib.hid (fun wx (hb : Below w.heap.size w wx) j (hj : j < l.length) => ints_cell (hA.below hb (Nat.le_refl _)) hj)
      obtain ⟨x0, -⟩ := hAt.out wr hT.below i hlt
      have hdw := Lib.hid (fun j (hj : j < l.length) => dueQ_wf hl hj)
      have hsn1 := numQ_snoc (dueQ l) (List.range i) i
      rw [← List.range_succ] at hsn1
      have hsn2 := numQ_snoc (dueQ l) (turnL l.length kk i) ((i + kk) % l.length)
      rw [turnL_snoc] at hsn2
      have hj := Nat.mod_lt (i + kk) hN0
      have hput := quPut_h K ((isAsr_obj K.toIsKind _ _).star isAsr_nil) ⟨dueQ l i, i, 0⟩ (by rw [numQ_length, List.length_range]; omega) (lit_wf (hdw.out i hlt).1 (hdw.out i hlt).2 (by omega) (by omega)) (numQ_new (by simp)) hT
      rw [itemV_lit, hsn1] at hput
      replace hput := Lib.hid hput
      have hltI : ((i : Nat) : Int) < ((l.length : Nat) : Int) := by omega
      have ej : (((i + kk) % l.length : Nat) : Int) = ((i : Int) + (kk : Int)) % (l.length : Int) := by rw [← Int.natCast_add]; rfl
      have hput2 := Lib.hid (fun wx (h : Held w wx (star (objA O wa.heap.size (numQ (dueQ l) (List.range (i + 1)))) (star (objA O (wa.heap.size + 1) (numQ (dueQ l) (turnL l.length kk i))) nilA))) => (show
          Calls Try.prog 9 #[.pointer (some ⟨wa.heap.size + 1, 0, none⟩), .agg #[.int .i64 (dueQ l ((i + kk) % l.length)), .int .i64 (((i : Int) + (kk : Int)) % (l.length : Int)), .int .u64 0, .int .u64 0]] wx fun e w2 => e = .returned (.tuple #[]) ∧ Held w w2 (star (objA O wa.heap.size (numQ (dueQ l) (List.range (i + 1)))) (star (objA O (wa.heap.size + 1) (numQ (dueQ l) (turnL l.length kk (i + 1)))) nilA)) from by
        have h2 := quPut_h K ((isAsr_obj K.toIsKind _ _).star isAsr_nil) ⟨dueQ l ((i + kk) % l.length), (((i + kk) % l.length : Nat) : Int), 0⟩ (by rw [numQ_length, turnL_length]; omega) (lit_wf (hdw.out _ hj).1 (hdw.out _ hj).2 (by omega) (by omega)) (numQ_new (turnL_new hlt)) h.pull
        rw [itemV_lit, hsn2, ej] at h2
        exact h2.mono (fun _ _ x => ⟨x.1, x.2.pull⟩)))
      replace ej := Lib.hid ej
      clear hsn1 hsn2 hT
      go_wp2_with fail
      refine hput.out.mono ?_
      rintro e w2 ⟨rfl, hT2⟩
      obtain ⟨x1, bl2⟩ := hAt.out w2 hT2.below _ hj
      have hp2 := Lib.hid (hput2.out w2 hT2)
      have hixj := Lib.hid (fun w => run_idx_int bb off l.length cap ((i + kk) % l.length) hj w)
      rw [ej.out] at hixj
      clear hput hput2 hT2 hAt hdw x0
      generalize dueQ l ((i + kk) % l.length) = dj at *
      generalize (i + kk) % l.length = jn at *
      have hj1 : (0 : Int) ≤ ((i : Int) + (kk : Int)) % (l.length : Int) := by have := ej.out; omega
      have hj2 : ((i : Int) + (kk : Int)) % (l.length : Int) < (l.length : Int) := by have := ej.out; omega
      go_upto_region 13 with (fail)
      generalize ((i : Int) + (kk : Int)) % (l.length : Int) = jI at *
      go_wp2_with (refine wpList_index_run rfl 48 (.tmp 57) (.tmp 58) rfl (.slice (some ⟨bb, off, none⟩) l.length cap) (.int .i64 jI) _ rfl rfl (hixj.out _) ?_)
      refine hp2.out.mono ?_
      rintro e w4 ⟨rfl, hT4⟩
      replace hT4 := Lib.hid hT4
      clear hp2 x1 hixj
      go_wp2_with fail
      go_roundw
      case measure => simp [RowKit.intOf]; omega
      case rel => exact ⟨i + 1, by omega, rfl, hT4.out⟩
    · have hil : i = l.length := by omega
      subst hil
      have hsame := same_turn (dueQ l) hkk
      have hl1 : (numQ (dueQ l) (List.range l.length)).length + 0 = l.length := by rw [numQ_length, List.length_range]; rfl
      have hL0 := LeftQ.start (dueQ l) l.length zeroQ
      generalize numQ (dueQ l) (List.range l.length) = M1 at *
      generalize numQ (dueQ l) (turnL l.length kk l.length) = M2 at *
      -- the last one, and what was seen
      have hT2 := hT.box ((isAsr_obj K.toIsKind _ _).star ((isAsr_obj K.toIsKind _ _).star isAsr_nil)) zeroQ.cells 34
      have hzc : zeroQ.cells = [.int .i64 0, .int .i64 0, .int .u64 0, .int .u64 0] := by
        have h1 : hiN 0 = 0 := rfl
        have h2 : loN 0 = 0 := rfl
        simp [Qit.cells, zeroQ, h1, h2]
      obtain ⟨W2, hW2⟩ : ∃ W2, W2 = wr.alloc (.cells zeroQ.cells.toArray 34) := ⟨_, rfl⟩
      rw [← hW2] at hT2
      obtain ⟨B1, hB1⟩ : ∃ B, B = wr.heap.size := ⟨_, rfl⟩
      rw [← hB1] at hT2
      obtain ⟨W3, hmk, hrow3, hb3⟩ := make_bools W2 l.length (by omega)
      obtain ⟨gs, hgs⟩ : ∃ g, g = W2.heap.size := ⟨_, rfl⟩
      rw [← hgs] at hmk hrow3
      have hT3 : Held w W3 (star (rowA 4 1 (.slice (some ⟨gs, 0, none⟩) l.length l.length) l.length ((List.replicate l.length false).map Value.bool)) (star (boxA B1 zeroQ.cells) (star (objA O wa.heap.size M1) (star (objA O (wa.heap.size + 1) M2) nilA)))) :=
        hT2.more ((isAsr_box _ _).star ((isAsr_obj K.toIsKind _ _).star ((isAsr_obj K.toIsKind _ _).star isAsr_nil))) hb3 ⟨fun k => k = gs, ⟨hrow3, fun k => ⟨fun e => by rw [e]; rfl, fun e => by injection e with e; exact e.symm⟩⟩, fun k e => by have := hb3.size; omega⟩
      rw [hzc] at hW2
      replace hW2 := Lib.hid hW2
      replace hmk := Lib.hid hmk
      replace hB1 := Lib.hid hB1
      have hgB : gs ≠ B1 := by
        have h1 := hT3.pull.boxAt.1.lt
        have h2 : B1 < W2.heap.size := by rw [hW2]; simp only [World.size_alloc]; have := hB1.out; omega
        omega
      clear hT hT2 hrow3 hb3 hgs hzc
      go_upto_region 17 with (refine wpList_make_run _ rfl _ _ _ rfl _ _ rfl rfl _ _ (by first | exact hmk.out | (rw [← hW2.out]; exact hmk.out)) ?_)
      rw [← hB1.out]
      go_wp2_with fail
      go_loopw [13] (fun iv wx => ∃ (i : Nat) (m1 m2 : List Qit) (seen : List Bool) (last : Qit), i ≤ l.length ∧ iv = .int .i64 i ∧ SameQ m1 m2 ∧ LeftQ (dueQ l) l.length i m1 seen last ∧ Held w wx (star (rowA 4 1 (.slice (some ⟨gs, 0, none⟩) l.length l.length) l.length (seen.map Value.bool)) (star (boxA B1 last.cells) (star (objA O wa.heap.size m1) (star (objA O (wa.heap.size + 1) m2) nilA))))) (fun iv _ => (l.length - RowKit.intOf iv).toNat)
      case atStart => exact ⟨0, M1, M2, _, zeroQ, by omega, rfl, hsame, hL0, hT3⟩
      case round =>
        clear hT3 hL0 hsame hl1 hmk hW2
        obtain ⟨i, m1, m2, seen, last, hi, rfl, hsame, hL, hT⟩ := hrel
        by_cases hlt : i < l.length
        · have ho1 := hT.pull3.once K
          have ho2 := hT.pull4.once K
          have hml := hL.len
          cases hp1 : popR m1 9223372036854775807 with
          | none =>
            exfalso
            cases m1 with
            | nil => simp at hml; omega
            | cons a r =>
              obtain ⟨s, hs, rfl, -⟩ := hL.num a (by simp)
              have := popR_none hp1 _ (List.mem_cons_self ..)
              have h2 := (dueQ_wf hl hs).2
              have h3 : (9223372036854775807 : Int) < dueQ l s := this
              omega
          | some x =>
            obtain ⟨hx1, hx2, -⟩ := popR_some hp1
            obtain ⟨s, hs, rfl, hsn⟩ := hL.num x hx1
            obtain ⟨hpe, hsm⟩ := hsame.pop ho1 ho2 9223372036854775807
            have hp2 : popR m2 9223372036854775807 = some ⟨dueQ l s, s, 0⟩ := by rw [← hpe]; exact hp1
            have hq1 : popQ m1 9223372036854775807 = dropQ m1 (s : Int) := popQ_some hp1
            have hq2 : popQ m2 9223372036854775807 = dropQ m2 (s : Int) := popQ_some hp2
            have hLn := hL.next ho1 hx1 hx2 rfl
            change LeftQ _ _ _ (dropQ m1 (s : Int)) _ _ at hLn
            rw [hq1, hq2] at hsm
            have hah : 0 < i → qahead ⟨dueQ l s, s, 0⟩ last = false := fun h0 => hL.ahead h0 _ hx1
            have epop : popV (some ⟨dueQ l s, s, 0⟩) = .tuple #[.agg #[.int .i64 (dueQ l s), .int .i64 (s : Int), .int .u64 0, .int .u64 0], .bool true] := by
              unfold popV
              rw [Option.getD_some, itemV_lit]; rfl
            have k1 := quPop_h K ((isAsr_row _ _ _ _ _).star ((isAsr_box _ _).star ((isAsr_obj K.toIsKind _ _).star isAsr_nil))) 9223372036854775807 (by decide) (by decide) hT.pull3
            rw [hp1, hq1, epop] at k1
            have k2 := Lib.hid (fun wx (R : Asr) (hR : IsAsr R) (h : Held w wx (star (objA O (wa.heap.size + 1) m2) R)) => (show Calls _ _ _ _ _ from quPop_h K hR 9223372036854775807 (by decide) (by decide) h))
            rw [hp2, hq2, epop] at k2
            replace k1 := Lib.hid k1
            have hsx : seen.length = l.length := hL.sl
            clear hT hp1 hp2 hq1 hq2 hx1 hx2 hpe epop hL ho1 ho2
            have hltI : ((i : Nat) : Int) < ((l.length : Nat) : Int) := by omega
            replace hLn := Lib.hid hLn
            replace hsm := Lib.hid hsm
            replace hah := Lib.hid hah
            go_wp2_with fail
            refine k1.out.mono ?_
            rintro e w2 ⟨rfl, hT2⟩
            have hT3 := (hT2.box ((isAsr_obj K.toIsKind _ _).star ((isAsr_row _ _ _ _ _).star ((isAsr_box _ _).star ((isAsr_obj K.toIsKind _ _).star isAsr_nil)))) [.int .i64 (dueQ l s), .int .i64 (s : Int), .int .u64 0, .int .u64 0] 34).pull5
            have k3 := Lib.hid (k2.out _ _ ((isAsr_box _ _).star ((isAsr_obj K.toIsKind _ _).star ((isAsr_row _ _ _ _ _).star ((isAsr_box _ _).star isAsr_nil)))) hT3)
            clear hT2 hT3 k1 k2
            go_upto_region 21 with (fail)
            go_wp2_with fail
            refine k3.out.mono ?_
            rintro e w4 ⟨rfl, hT4⟩
            have hT5 := hT4.box ((isAsr_obj K.toIsKind _ _).star ((isAsr_box _ _).star ((isAsr_obj K.toIsKind _ _).star ((isAsr_row _ _ _ _ _).star ((isAsr_box _ _).star isAsr_nil))))) [.int .i64 (dueQ l s), .int .i64 (s : Int), .int .u64 0, .int .u64 0] 34
            have hT5d := Lib.hid (hT5.later ((isAsr_box _ _).star ((isAsr_obj K.toIsKind _ _).star ((isAsr_box _ _).star ((isAsr_obj K.toIsKind _ _).star ((isAsr_row _ _ _ _ _).star ((isAsr_box _ _).star isAsr_nil)))))) (Below.refl _ _).drew)
            clear hT4 hT5 k3
            go_upto_region 22 with (fail)
            generalize (w4.alloc (.cells #[.int .i64 (dueQ l s), .int .i64 (s : Int), .int .u64 0, .int .u64 0] 34)) = w5 at *
            generalize hds : dueQ l s = ds at *
            have hF := Lib.hid (fun w' (h : Held w w' (star (boxA w4.heap.size [.int .i64 ds, .int .i64 (s : Int), .int .u64 0, .int .u64 0]) (star (objA O (wa.heap.size + 1) (dropQ m2 (s : Int))) (star (boxA w2.heap.size [.int .i64 ds, .int .i64 (s : Int), .int .u64 0, .int .u64 0]) (star (objA O wa.heap.size (dropQ m1 (s : Int))) (star (rowA 4 1 (.slice (some ⟨gs, 0, none⟩) l.length l.length) l.length (seen.map Value.bool)) (star (boxA B1 last.cells) nilA))))))) => (show
                (w'.rangeAt w2.heap.size 0 [.int .i64 ds, .int .i64 (s : Int), .int .u64 0, .int .u64 0] ∧ w'.rangeAt w4.heap.size 0 [.int .i64 ds, .int .i64 (s : Int), .int .u64 0, .int .u64 0]) ∧ (w'.cell? ⟨w2.heap.size, 0, none⟩ = some (.int .i64 ds) ∧ w2.heap.size < w'.heap.size) ∧ (w'.cell? ⟨w2.heap.size, 1, none⟩ = some (.int .i64 (s : Int)) ∧ w2.heap.size < w'.heap.size) ∧
                (w'.cell? ⟨gs, s, none⟩ = some (.bool false) ∧ gs < w'.heap.size) ∧ w'.frozen? ⟨gs, s, none⟩ = false ∧ (w'.cell? ⟨B1, 0, none⟩ = some (.int .i64 last.Due) ∧ B1 < w'.heap.size) ∧ w'.cell? ⟨B1, 1, none⟩ = some (.int .i64 last.Stamp) from by
              have hb14 := h.pull3.boxAt.1
              have hb1 := h.pull6.boxAt.1
              obtain ⟨hr, -⟩ := h.pull5.rowAt
              rcases own_spot hr with ⟨e, -⟩ | ⟨g', c', e, hg', -, -, hc', hf'⟩
              · cases e
              · obtain rfl : gs = g' := by injection e with e1 _ _; injection e1 with e1; injection e1
                exact ⟨⟨hb14.range, h.boxAt.1.range⟩, ⟨hb14.spot 0 _ rfl, hb14.lt⟩, ⟨hb14.spot 1 _ rfl, hb14.lt⟩, ⟨hc' s _ (by rw [List.getElem?_map, hsn]; rfl), hg'⟩, hf' s, ⟨hb1.spot 0 _ rfl, hb1.lt⟩, hb1.spot 1 _ rfl⟩))
            have hix1 := Lib.hid (fun w => run_idx_bool gs l.length l.length s hs w)
            have hao : ∃ bb off, ao = some ⟨bb, off, none⟩ := by obtain ⟨bb, off, e, -⟩ := hA.spot s hs; exact ⟨bb, off, e⟩
            obtain ⟨bb, off, rfl⟩ := hao
            have hdu := Lib.hid (fun w' (hb : Below w.heap.size w w') => (show w'.cell? ⟨bb, off + s, none⟩ = some (.int .i64 ds) ∧ bb < w'.heap.size from by rw [← hds]; exact ints_cell (hA.below hb (Nat.le_refl _)) hs))
            have hix2 := Lib.hid (fun w => run_idx_int bb off l.length cap s hs w)
            have hneq : ∀ w, (binOp .neq 34 (.agg #[.int .i64 ds, .int .i64 (s : Int), .int .u64 0, .int .u64 0]) (.agg #[.int .i64 ds, .int .i64 (s : Int), .int .u64 0, .int .u64 0])).run Try.prog w = .ok (.bool false) w := fun w => by
              have := run_same_item ⟨ds, s, 0⟩ w
              have e := itemV_lit ds s
              unfold itemV at e
              rw [e] at this
              exact this
            have hi4 := Lib.hid (show (Try.prog.info? 34).map (·.size) = some ([.int .i64 ds, .int .i64 (s : Int), .int .u64 0, .int .u64 0] : List Value).length by kernel_rfl)
            refine wp_region_calm (fun w' => Held w w' (star (boxA w4.heap.size [.int .i64 ds, .int .i64 (s : Int), .int .u64 0, .int .u64 0]) (star (objA O (wa.heap.size + 1) (dropQ m2 (s : Int))) (star (boxA w2.heap.size [.int .i64 ds, .int .i64 (s : Int), .int .u64 0, .int .u64 0]) (star (objA O wa.heap.size (dropQ m1 (s : Int))) (star (rowA 4 1 (.slice (some ⟨gs, 0, none⟩) l.length l.length) l.length (seen.map Value.bool)) (star (boxA B1 last.cells) nilA))))))) (by kernel_rfl) (by kernel_rfl) hT5d.out ?_
            refine calm_pure (v := ?cv251) (by rfl) (fun w' => ?ch251) ?cr251
            case ch251 => (go_simp; first | done | with_reducible rfl)
            try simp only [Act.put, List.setIfInBounds_toArray, List.set_cons_zero, List.set_cons_succ]
            refine calm_pure (v := ?cv254) (by rfl) (fun w' => ?ch254) ?cr254
            case ch254 => (go_simp; first | done | with_reducible rfl)
            try simp only [Act.put, List.setIfInBounds_toArray, List.set_cons_zero, List.set_cons_succ]
            refine calm_pure (v := ?cv257) (by rfl) (fun w' => ?ch257) ?cr257
            case ch257 => (go_simp; first | done | with_reducible rfl)
            try simp only [Act.put, List.setIfInBounds_toArray, List.set_cons_zero, List.set_cons_succ]
            refine calm_pure (v := ?cv260) (by rfl) (fun w' => ?ch260) ?cr260
            case ch260 => (go_simp; first | done | with_reducible rfl)
            try simp only [Act.put, List.setIfInBounds_toArray, List.set_cons_zero, List.set_cons_succ]
            refine calm_pure (v := ?cv263) (by rfl) (fun w' => ?ch263) ?cr263
            case ch263 => (go_simp; first | done | with_reducible rfl)
            try simp only [Act.put, List.setIfInBounds_toArray, List.set_cons_zero, List.set_cons_succ]
            refine calm_pure (v := ?cv266) (by rfl) (fun w' => ?ch266) ?cr266
            case ch266 => (go_simp; first | done | with_reducible rfl)
            try simp only [Act.put, List.setIfInBounds_toArray, List.set_cons_zero, List.set_cons_succ]
            refine calm_pure (v := ?cv269) (by rfl) (fun w' => ?ch269) ?cr269
            case ch269 => (go_simp; first | done | with_reducible rfl)
            try simp only [Act.put, List.setIfInBounds_toArray, List.set_cons_zero, List.set_cons_succ]
            refine calm_load 34 _ w2.heap.size 0 [.int .i64 ds, .int .i64 (s : Int), .int .u64 0, .int .u64 0] _ (by rfl) rfl rfl (fun w' h => (hF.out w' h).1.1) Try.underlying34 rfl hi4.out ?_
            try simp only [Act.put, List.setIfInBounds_toArray, List.set_cons_zero, List.set_cons_succ]
            refine calm_load 34 _ w4.heap.size 0 [.int .i64 ds, .int .i64 (s : Int), .int .u64 0, .int .u64 0] _ (by rfl) rfl rfl (fun w' h => (hF.out w' h).1.2) Try.underlying34 rfl hi4.out ?_
            try simp only [Act.put, List.setIfInBounds_toArray, List.set_cons_zero, List.set_cons_succ]
            refine calm_pure (v := ?cv276) (by rfl) (fun w' => ?ch276) ?cr276
            case ch276 => (go_simp; first | done | with_reducible rfl)
            try simp only [Act.put, List.setIfInBounds_toArray, List.set_cons_zero, List.set_cons_succ]
            refine calm_pure (v := ?cv279) (by rfl) (fun w' => ?ch279) ?cr279
            case ch279 => (go_simp; first | done | with_reducible rfl)
            try simp only [Act.put, List.setIfInBounds_toArray, List.set_cons_zero, List.set_cons_succ]
            refine calm_pure (v := ?cv282) (by rfl) (fun w' => ?ch282) ?cr282
            case ch282 => (go_simp; first | done | with_reducible rfl)
            try simp only [Act.put, List.setIfInBounds_toArray, List.set_cons_zero, List.set_cons_succ]
            refine calm_pure (v := ?cv285) (by rfl) (fun w' => ?ch285) ?cr285
            case ch285 => (go_simp; first | done | with_reducible rfl)
            try simp only [Act.put, List.setIfInBounds_toArray, List.set_cons_zero, List.set_cons_succ]
            refine calm_pure (v := ?cv288) (by rfl) (fun w' => ?ch288) ?cr288
            case ch288 => (go_simp; first | done | with_reducible rfl)
            try simp only [Act.put, List.setIfInBounds_toArray, List.set_cons_zero, List.set_cons_succ]
            refine calm_read (v := (.int .i64 (s : Int))) (by rfl) (fun w' h => ?ch291) ?cr291
            case ch291 => (obtain ⟨hcq, hcl⟩ := (hF.out w' h).2.2.1; go_simp)
            try simp only [Act.put, List.setIfInBounds_toArray, List.set_cons_zero, List.set_cons_succ]
            refine calm_index 50 _ _ (.slice (some ⟨gs, 0, none⟩) l.length l.length) (.int .i64 (s : Int)) _ (by rfl) rfl rfl rfl hix1.out ?_
            try simp only [Act.put, List.setIfInBounds_toArray, List.set_cons_zero, List.set_cons_succ]
            refine calm_read (v := (.bool false)) (by rfl) (fun w' h => ?ch296) ?cr296
            case ch296 => (obtain ⟨hcq, hcl⟩ := (hF.out w' h).2.2.2.1; go_simp)
            try simp only [Act.put, List.setIfInBounds_toArray, List.set_cons_zero, List.set_cons_succ]
            refine calm_pure (v := ?cv299) (by rfl) (fun w' => ?ch299) ?cr299
            case ch299 => (go_simp; first | done | with_reducible rfl)
            try simp only [Act.put, List.setIfInBounds_toArray, List.set_cons_zero, List.set_cons_succ]
            refine calm_pure (v := ?cv302) (by rfl) (fun w' => ?ch302) ?cr302
            case ch302 => (go_simp; first | done | with_reducible rfl)
            try simp only [Act.put, List.setIfInBounds_toArray, List.set_cons_zero, List.set_cons_succ]
            refine calm_pure (v := ?cv305) (by rfl) (fun w' => ?ch305) ?cr305
            case ch305 => (go_simp; first | done | with_reducible rfl)
            try simp only [Act.put, List.setIfInBounds_toArray, List.set_cons_zero, List.set_cons_succ]
            refine calm_read (v := (.int .i64 ds)) (by rfl) (fun w' h => ?ch308) ?cr308
            case ch308 => (obtain ⟨hcq, hcl⟩ := (hF.out w' h).2.1; go_simp)
            try simp only [Act.put, List.setIfInBounds_toArray, List.set_cons_zero, List.set_cons_succ]
            refine calm_pure (v := ?cv311) (by rfl) (fun w' => ?ch311) ?cr311
            case ch311 => (go_simp; first | done | with_reducible rfl)
            try simp only [Act.put, List.setIfInBounds_toArray, List.set_cons_zero, List.set_cons_succ]
            refine calm_pure (v := ?cv314) (by rfl) (fun w' => ?ch314) ?cr314
            case ch314 => (go_simp; first | done | with_reducible rfl)
            try simp only [Act.put, List.setIfInBounds_toArray, List.set_cons_zero, List.set_cons_succ]
            refine calm_read (v := (.int .i64 (s : Int))) (by rfl) (fun w' h => ?ch317) ?cr317
            case ch317 => (obtain ⟨hcq, hcl⟩ := (hF.out w' h).2.2.1; go_simp)
            try simp only [Act.put, List.setIfInBounds_toArray, List.set_cons_zero, List.set_cons_succ]
            refine calm_index 48 _ _ (.slice (some ⟨bb, off, none⟩) l.length cap) (.int .i64 (s : Int)) _ (by rfl) rfl rfl rfl hix2.out ?_
            try simp only [Act.put, List.setIfInBounds_toArray, List.set_cons_zero, List.set_cons_succ]
            refine calm_read (v := (.int .i64 ds)) (by rfl) (fun w' h => ?ch322) ?cr322
            case ch322 => (obtain ⟨hcq, hcl⟩ := hdu.out w' h.below; go_simp)
            try simp only [Act.put, List.setIfInBounds_toArray, List.set_cons_zero, List.set_cons_succ]
            refine calm_pure (v := ?cv325) (by rfl) (fun w' => ?ch325) ?cr325
            case ch325 => (go_simp; first | done | with_reducible rfl)
            try simp only [Act.put, List.setIfInBounds_toArray, List.set_cons_zero, List.set_cons_succ]
            refine calm_pure (v := ?cv328) (by rfl) (fun w' => ?ch328) ?cr328
            case ch328 => (go_simp; first | done | with_reducible rfl)
            try simp only [Act.put, List.setIfInBounds_toArray, List.set_cons_zero, List.set_cons_succ]
            intro w9 hm9
            obtain ⟨⟨r14, -⟩, ⟨d0, l14⟩, ⟨d1, -⟩, ⟨q0, lgs⟩, qf, ⟨e0, lB1⟩, e1⟩ := hF.out w9 hm9
            replace r14 := Lib.hid r14
            clear hT5d hix1 hix2 hdu hneq
            go_upto_region 24 with (fail)
            go_cut [133] (fun t wx => t = .bool false ∧ w9 = wx)
            case first =>
              by_cases hi0 : i = 0
              · subst hi0
                go_wp2_with fail
                go_meet
                case rel => exact ⟨rfl, rfl⟩
              · have hq := hah.out (by omega)
                have hi1 : decide ((0 : Int) < (i : Int)) = true := decide_eq_true (by omega)
                unfold qahead at hq
                dsimp only at hq
                generalize last.Due = ld at *
                generalize last.Stamp = ls at *
                by_cases hde : ds = ld
                · rw [if_pos hde] at hq
                  have t1 : decide (ds < ld) = false := decide_eq_false (by omega)
                  have t2 : (ds == ld) = true := beq_iff_eq.2 hde
                  clear hde
                  go_wp2_with fail
                  go_meet
                  case rel => exact ⟨by first | rfl | (rw [hq]), rfl⟩
                · rw [if_neg hde] at hq
                  have t2 : (ds == ld) = false := beq_eq_false_iff_ne.2 hde
                  clear hde
                  go_wp2_with fail
                  go_meet
                  case rel => exact ⟨rfl, rfl⟩
            case rest =>
              obtain ⟨rfl, rfl⟩ := hcut
              have hrow9 := hm9.pull5.rowAt.1
              have hst9 := (hrow9.stored s (.bool true)).1
              rw [← List.map_set] at hst9
              have hO9 : Only (fun k => (Value.slice (some ⟨gs, 0, none⟩) l.length l.length).ownBlock = some k) w9 (w9.setCell ⟨gs, s, none⟩ (.bool true)) := (Only.refl (fun k => (Value.slice (some ⟨gs, 0, none⟩) l.length l.length).ownBlock = some k) w9).setCell (p := ⟨gs, s, none⟩) (fun _ => rfl) _
              have h10 := Held.step (isAsr_row _ _ _ _ _) ((isAsr_box _ _).star ((isAsr_obj K.toIsKind _ _).star ((isAsr_box _ _).star ((isAsr_obj K.toIsKind _ _).star ((isAsr_box _ _).star isAsr_nil))))) hm9.pull5 (fun F hF => postA_row hF hst9 hO9 (fun k _ x => x))
              clear hrow9 hst9 hO9 hm9 hF r14 d0
              have hsI : ((s : Nat) : Int) < ((l.length : Nat) : Int) := by omega
              go_upto_region 27 with (fail)
              generalize w9.setCell ⟨gs, s, none⟩ (.bool true) = W10 at *
              have hr14 := Lib.hid h10.pull4.boxAt.1.range
              obtain ⟨hb1, hf1, -⟩ := h10.pull6.boxAt
              have ec : (⟨ds, s, 0⟩ : Qit).cells = [.int .i64 ds, .int .i64 (s : Int), .int .u64 0, .int .u64 0] := by
                have h1 : hiN 0 = 0 := rfl
                have h2 : loN 0 = 0 := rfl
                simp [Qit.cells, h1, h2]
              obtain ⟨hb2, hf2, hO2⟩ := boxAt_setCells (vs := [.int .i64 ds, .int .i64 (s : Int), .int .u64 0, .int .u64 0]) hb1 hf1 rfl
              have h11 := Lib.hid (show Held w (W10.setCells B1 0 [.int .i64 ds, .int .i64 (s : Int), .int .u64 0, .int .u64 0]) (star (rowA 4 1 (.slice (some ⟨gs, 0, none⟩) l.length l.length) l.length ((seen.set s true).map Value.bool)) (star (boxA B1 (⟨ds, s, 0⟩ : Qit).cells) (star (objA O wa.heap.size (dropQ m1 (s : Int))) (star (objA O (wa.heap.size + 1) (dropQ m2 (s : Int))) nilA)))) from by rw [ec]; exact (Held.step (isAsr_box _ _) ((isAsr_row _ _ _ _ _).star ((isAsr_box _ _).star ((isAsr_obj K.toIsKind _ _).star ((isAsr_box _ _).star ((isAsr_obj K.toIsKind _ _).star isAsr_nil))))) h10.pull6 (fun F hF => postA_box hF hb2 hf2 hO2)).pull.pull3.rest.pull4.rest.pull4.push3)
              have hth := Lib.hid (show W10.there B1 0 ([.int .i64 ds, .int .i64 (s : Int), .int .u64 0, .int .u64 0] : List Value).toArray.size from fun j hj => by
                rw [Nat.zero_add]
                exact ⟨by rw [hb1.spot j _ (List.getElem?_eq_getElem (show j < last.cells.length from hj))]; rfl, hf1 j⟩)
              have hi5 := Lib.hid (show (Try.prog.info? 34).map (·.size) = some ([.int .i64 ds, .int .i64 (s : Int), .int .u64 0, .int .u64 0] : List Value).toArray.size by kernel_rfl)
              have hone := Lib.hid (show ([.int .i64 ds, .int .i64 (s : Int), .int .u64 0, .int .u64 0] : List Value).toArray.all (·.oneCell') = true by simp [Value.oneCell'])
              have hsmO := Lib.hid hsm.out
              have hLnO := Lib.hid hLn.out
              clear h10 hb1 hf1 ec hb2 hf2 hO2 hah hsm hLn hds
              go_wp2_with (first
                | (refine wpList_load_midg rfl 34 (.tmp 14) rfl w2.heap.size 0 rfl [.int .i64 ds, .int .i64 (s : Int), .int .u64 0, .int .u64 0] _ hr14.out Try.underlying34 rfl hi4.out ?_)
                | (refine wpList_store_mid rfl 34 (.tmp 11) (.tmp 138) rfl B1 0 ([.int .i64 ds, .int .i64 (s : Int), .int .u64 0, .int .u64 0] : List Value).toArray rfl rfl hth.out hi5.out hone.out ?_))
              go_roundw
              case measure => simp [RowKit.intOf]; omega
              case rel => exact ⟨i + 1, dropQ m1 (s : Int), dropQ m2 (s : Int), seen.set s true, ⟨ds, s, 0⟩, by omega, rfl, hsmO.out, hLnO.out, h11.out⟩
        · have hil : i = l.length := by omega
          have hm0 : m1.length = 0 := by have := hL.len; omega
          have hk := quLen_h K ((isAsr_row _ _ _ _ _).star ((isAsr_box _ _).star ((isAsr_obj K.toIsKind _ _).star isAsr_nil))) hT.pull3
          rw [hm0] at hk
          replace hk := Lib.hid hk
          clear hL hT hsame
          go_wp2_with fail
          refine hk.out.mono ?_
          rintro e w9 ⟨rfl, hT9⟩
          have hfin := Lib.hid hT9.below
          clear hT9 hk
          go_wp2
          go_ret
          exact ⟨rfl, hfin.out⟩
end
end Go.Proofs.Ytgdlcfkgdaaooaa
