/- Stage 13: QueueDrops' walk. No condition but the landed package's. -/
import Derived.Test.YtgdlcfkgdaaooaaPqz
import Derived.Test.YtgdlcfkgdaaooaaSet
namespace Go.Proofs.Ytgdlcfkgdaaooaa
open Go.RowKit Wm

/-- Numbers that are to be dropped. -/
def dropS (l : List Inte) (i : Nat) : Int → Bool := fun x => (l.take i).any fun c => decide (x = c.N)
theorem dropS_succ {l : List Inte} {i : Nat} (h : i < l.length) : dropS l (i + 1) = fun y => dropS l i y || decide (y = dueQ l i) := by
  funext y
  unfold dropS
  rw [← List.take_append_getElem h, List.any_append, dueQ_get h]
  simp
/-- Those that stay. -/
def stayL (S : Int → Bool) (i : Nat) : List Nat := (List.range i).filter fun j => !S (j : Int)
theorem stayL_succ (S : Int → Bool) (i : Nat) : stayL S (i + 1) = if S (i : Int) = true then stayL S i else stayL S i ++ [i] := by
  unfold stayL
  rw [List.range_succ, List.filter_append]
  by_cases h : S (i : Int) = true
  · rw [if_pos h, List.filter_cons, if_neg (by simp [h])]; simp
  · rw [if_neg h, List.filter_cons, if_pos (by simpa using h)]; simp
theorem stayL_not (S : Int → Bool) (i : Nat) : i ∉ stayL S i := fun h => by
  unfold stayL at h
  rw [List.mem_filter, List.mem_range] at h
  omega
theorem stayL_length (S : Int → Bool) (i : Nat) : (stayL S i).length ≤ i := by
  unfold stayL
  exact Nat.le_trans (List.length_filter_le _ _) (by rw [List.length_range]; exact Nat.le_refl _)
/-- What is left while one after the other is dropped. -/
def HalfQ (d : Nat → Int) (n : Nat) (S left : Int → Bool) (m : List Qit) : Prop := ∀ x, x ∈ m ↔ x ∈ numQ d (List.range n) ∧ (S x.Stamp = false ∨ left x.Stamp = true)
theorem HalfQ.start (d : Nat → Int) (n : Nat) (S : Int → Bool) : HalfQ d n S S (numQ d (List.range n)) := fun x => ⟨fun h => ⟨h, by cases S x.Stamp <;> simp⟩, fun h => h.1⟩
theorem HalfQ.drop {d : Nat → Int} {n : Nat} {S left : Int → Bool} {m : List Qit} (h : HalfQ d n S left m) {y : Int} (hy : S y = true) : HalfQ d n S (fun z => left z && !decide (z = y)) (dropQ m y) := fun x => by
  rw [mem_dropQ, h x]
  by_cases e : x.Stamp = y
  · constructor
    · rintro ⟨-, h2⟩; exact absurd e h2
    · rintro ⟨-, h2⟩; simp [e, hy] at h2
  · constructor
    · rintro ⟨⟨h1, h2⟩, -⟩; exact ⟨h1, by simpa [e] using h2⟩
    · rintro ⟨h1, h2⟩; exact ⟨⟨h1, by simpa [e] using h2⟩, e⟩
theorem HalfQ.has {d : Nat → Int} {n : Nat} {S left : Int → Bool} {m : List Qit} (h : HalfQ d n S left m) {y : Int} (hy : left y = true) : hasQ m y = (decide (0 ≤ y) && decide (y < (n : Int))) := by
  rw [Bool.eq_iff_iff, hasQ_iff, Bool.and_eq_true, decide_eq_true_iff, decide_eq_true_iff, List.mem_map]
  constructor
  · rintro ⟨x, hx, e⟩
    obtain ⟨j, hj, rfl⟩ := mem_numQ.1 ((h x).1 hx).1
    rw [List.mem_range] at hj
    have e : (j : Int) = y := e
    omega
  · rintro ⟨h1, h2⟩
    obtain ⟨j, rfl⟩ := Int.eq_ofNat_of_zero_le h1
    exact ⟨⟨d j, j, 0⟩, (h _).2 ⟨mem_numQ.2 ⟨j, List.mem_range.2 (by omega), rfl⟩, .inr hy⟩, rfl⟩
theorem HalfQ.done {d : Nat → Int} {n : Nat} {S left : Int → Bool} {m : List Qit} (h : HalfQ d n S left m) (hl : ∀ x ∈ m, left x.Stamp = false) : SameQ m (numQ d (stayL S n)) := fun x => by
  constructor
  · intro hx
    obtain ⟨h1, h2⟩ := (h x).1 hx
    rw [hl x hx] at h2
    obtain ⟨j, hj, rfl⟩ := mem_numQ.1 h1
    refine mem_numQ.2 ⟨j, ?_, rfl⟩
    unfold stayL
    rw [List.mem_filter]
    exact ⟨hj, by simpa using h2⟩
  · intro hx
    obtain ⟨j, hj, rfl⟩ := mem_numQ.1 hx
    unfold stayL at hj
    rw [List.mem_filter] at hj
    exact (h _).2 ⟨mem_numQ.2 ⟨j, hj.1, rfl⟩, .inl (by simpa using hj.2)⟩
section
variable {O : Kind (List Qit)}
set_option maxRecDepth 100000 in
set_option maxHeartbeats 4000000 in
theorem queueDrops_any (K : LandedQu O) (ao : Option Addr) (cap : Nat) (l : List Inte) (hl : ∀ c ∈ l, c.Wf) (hlen : l.length ≤ 140737488351232) (ao2 : Option Addr) (cap2 : Nat) (l2 : List Inte) (hl2 : ∀ c ∈ l2, c.Wf) (hlen2 : l2.length ≤ 140737488351232)
    (now : Int) (ht1 : -9223372036854775808 ≤ now) (ht2 : now ≤ 9223372036854775807) (w : World) (hA : IntesAt w ao l) (hA2 : IntesAt w ao2 l2) :
    Calls Try.prog 6 #[.slice ao l.length cap, .slice ao2 l2.length cap2, .int .i64 now] w fun e w' => e = .returned (.bool true) ∧ Below w.heap.size w w' := by
  have hal := Lib.hid (queueAlive_any K)
  by_cases hskip : 100 < l.length ∨ 100 < l2.length
  · go_enter Try.func6, Try.ntmps6
    go_wp2_with fail
    refine (hal.out _).mono ?_
    rintro e w1 ⟨rfl, hb1⟩
    by_cases c1 : 100 < l.length
    · have h1 : decide (100 < ((l.length : Nat) : Int)) = true := decide_eq_true (by omega)
      clear hskip
      go_wp2
      go_ret
      exact ⟨rfl, hb1⟩
    have h1 : decide (100 < ((l.length : Nat) : Int)) = false := decide_eq_false (by omega)
    have h2 : decide (100 < ((l2.length : Nat) : Int)) = true := decide_eq_true (by omega)
    clear hskip
    go_wp2
    go_ret
    exact ⟨rfl, hb1⟩
  have h1 : decide (100 < ((l.length : Nat) : Int)) = false := decide_eq_false (by omega)
  have h2 : decide (100 < ((l2.length : Nat) : Int)) = false := decide_eq_false (by omega)
  have hN : l.length ≤ 100 := by omega
  have hN2 : l2.length ≤ 100 := by omega
  clear hskip
  have hmm := @run_makeMap Try.prog
  go_enter Try.func6, Try.ntmps6
  go_wp2_with fail
  refine (hal.out _).mono ?_
  rintro e wa ⟨rfl, hb1⟩
  have hT0 := ((Held.start w).later isAsr_nil hb1).obj (cs := [.slice none 0 0]) isAsr_nil (K.new wa)
  have hT1 := (hT0.obj (cs := [.slice none 0 0]) ((isAsr_obj K.toIsKind _ _).star isAsr_nil) (K.new _)).pull
  rw [World.size_alloc] at hT1
  have hT2 := hT1.newset ((isAsr_obj K.toIsKind _ _).star ((isAsr_obj K.toIsKind _ _).star isAsr_nil))
  rw [World.size_alloc, World.size_alloc] at hT2
  have hd0 : dropS l2 0 = fun _ => false := by funext x; unfold dropS; simp
  rw [← hd0] at hT2
  clear hT0 hT1 hd0 hb1 hal
  go_wp2_with fail
  go_loopw [36] (fun iv wr => ∃ i : Nat, i ≤ l2.length ∧ iv = .int .i64 i ∧ Held w wr (star (setA (wa.heap.size + 1 + 1) i (dropS l2 i)) (star (objA O wa.heap.size []) (star (objA O (wa.heap.size + 1) []) nilA)))) (fun iv _ => (l2.length - RowKit.intOf iv).toNat)
  case atStart => exact ⟨0, by omega, rfl, hT2⟩
  case round =>
    clear hT2
    obtain ⟨i, hi, rfl, hT⟩ := hrel
    by_cases hlt : i < l2.length
    · obtain ⟨bb, off, rfl, hbl, -⟩ := (hA2.below hT.below (Nat.le_refl _)).spot i hlt
      obtain ⟨x0, -⟩ := ints_cell (hA2.below hT.below (Nat.le_refl _)) hlt
      have hdw := dueQ_wf hl2 hlt
      obtain ⟨w3, hrun, hT3⟩ := hT.setPut ((isAsr_obj K.toIsKind _ _).star ((isAsr_obj K.toIsKind _ _).star isAsr_nil)) (by omega) (wfI hdw.1 hdw.2)
      rw [← dropS_succ hlt] at hT3
      have hltI : ((i : Nat) : Int) < ((l2.length : Nat) : Int) := by omega
      replace hrun := Lib.hid hrun
      replace hT3 := Lib.hid hT3
      clear hT hdw
      go_wp2_with (refine wpList_mapUpdate_run rfl _ _ _ 52 rfl _ _ _ rfl rfl rfl hrun.out ?_)
      go_roundw
      case measure => simp [RowKit.intOf]; omega
      case rel => exact ⟨i + 1, by omega, rfl, hT3.out⟩
    · have hil : i = l2.length := by omega
      subst hil
      have hst0 : numQ (dueQ l) (stayL (dropS l2 l2.length) 0) = [] := rfl
      generalize dropS l2 l2.length = S at *
      go_wp2_with fail
      go_loopw [45] (fun iv wx => ∃ i : Nat, i ≤ l.length ∧ iv = .int .i64 i ∧ Held w wx (star (setA (wa.heap.size + 1 + 1) l2.length S) (star (objA O wa.heap.size (numQ (dueQ l) (List.range i))) (star (objA O (wa.heap.size + 1) (numQ (dueQ l) (stayL S i))) nilA)))) (fun iv _ => (l.length - RowKit.intOf iv).toNat)
      case atStart => exact ⟨0, by omega, rfl, hT⟩
      case round =>
        clear hT hst0
        obtain ⟨i, hi, rfl, hT⟩ := hrel
        by_cases hlt : i < l.length
        · obtain ⟨bb, off, rfl, hbl, -⟩ := (hA.below hT.below (Nat.le_refl _)).spot i hlt
          obtain ⟨x0, -⟩ := ints_cell (hA.below hT.below (Nat.le_refl _)) hlt
          have hdw := dueQ_wf hl hlt
          have hsn1 := numQ_snoc (dueQ l) (List.range i) i
          rw [← List.range_succ] at hsn1
          have hput := quPut_h K ((isAsr_set _ _ _).star ((isAsr_obj K.toIsKind _ _).star isAsr_nil)) ⟨dueQ l i, i, 0⟩ (by rw [numQ_length, List.length_range]; omega) (lit_wf hdw.1 hdw.2 (by omega) (by omega)) (numQ_new (by simp)) hT.pull
          rw [itemV_lit, hsn1] at hput
          replace hput := Lib.hid hput
          have hltI : ((i : Nat) : Int) < ((l.length : Nat) : Int) := by omega
          have hwi := wfI (x := (i : Int)) (by omega) (by omega)
          have hsl := stayL_length S i
          have hss := stayL_succ S i
          have hsn := stayL_not S i
          replace hwi := Lib.hid hwi
          replace hss := Lib.hid hss
          replace hsn := Lib.hid hsn
          replace hdw := Lib.hid hdw
          clear hsn1 hT
          go_wp2_with fail
          refine hput.out.mono ?_
          rintro e w2 ⟨rfl, hT2⟩
          have hT3 := hT2.pull
          have hask := hT3.setAsk hwi.out
          clear hput hT2
          cases hSi : S (i : Int) with
          | true =>
            rw [hSi] at hask
            have hs1 := hss.out
            rw [if_pos hSi] at hs1
            rw [← hs1] at hT3
            replace hT3 := Lib.hid hT3
            clear hs1 hss
            go_wp2_with fail
            go_roundw
            case measure => simp [RowKit.intOf]; omega
            case rel => exact ⟨i + 1, by omega, rfl, hT3.out⟩
          | false =>
            rw [hSi] at hask
            have hs1 := hss.out
            rw [if_neg (by rw [hSi]; decide)] at hs1
            have hsn1 := numQ_snoc (dueQ l) (stayL S i) i
            rw [← hs1] at hsn1
            have hput2 := quPut_h K ((isAsr_set _ _ _).star ((isAsr_obj K.toIsKind _ _).star isAsr_nil)) ⟨dueQ l i, i, 0⟩ (by rw [numQ_length]; omega) (lit_wf hdw.out.1 hdw.out.2 (by omega) (by omega)) (numQ_new hsn.out) hT3.pull3
            rw [itemV_lit, hsn1] at hput2
            replace hput2 := Lib.hid hput2
            clear hs1 hss hsn1 hT3 hsn
            go_wp2_with fail
            refine hput2.out.mono ?_
            rintro e w4 ⟨rfl, hT4⟩
            have hT5 := Lib.hid hT4.push3
            clear hT4 hput2 hask
            go_wp2_with fail
            go_roundw
            case measure => simp [RowKit.intOf]; omega
            case rel => exact ⟨i + 1, by omega, rfl, hT5.out⟩
        · have hil : i = l.length := by omega
          subst hil
          have hH0 := HalfQ.start (dueQ l) l.length S
          have hm1 : (numQ (dueQ l) (List.range l.length)).length ≤ 100 := by rw [numQ_length, List.length_range]; exact hN
          generalize numQ (dueQ l) (List.range l.length) = M at *
          have ho2 := hT.pull3.once K
          have hM2 := stayL_length S l.length
          obtain ⟨w3, cnt0, hrun, hT3⟩ := hT.setRange ((isAsr_obj K.toIsKind _ _).star ((isAsr_obj K.toIsKind _ _).star isAsr_nil))
          obtain ⟨r, hr⟩ : ∃ r, r = wr.heap.size := ⟨_, rfl⟩
          rw [← hr] at hrun hT3
          replace hrun := Lib.hid hrun
          clear hT hr
          go_wp2_with (refine wpList_range_run rfl _ 52 rfl _ _ rfl hrun.out ?_)
          go_frame
          go_loopw [14] (fun _ wx => ∃ (cnt : Nat) (left : Int → Bool) (m : List Qit), HalfQ (dueQ l) l.length S left m ∧ Held w wx (star (rangeA (wa.heap.size + 1 + 1) r l2.length cnt S left) (star (objA O wa.heap.size m) (star (objA O (wa.heap.size + 1) (numQ (dueQ l) (stayL S l.length))) nilA)))) (fun _ wx => wx.rangeLeft (wa.heap.size + 1 + 1) r)
          case atStart => exact ⟨cnt0, S, M, hH0, hT3⟩
          case round =>
            clear hT3 hH0 hrun
            obtain ⟨cnt, left, m, hH, hT⟩ := hrel
            have hrl := hT.rangeLeft
            have hLB : IsAsr (star (objA O wa.heap.size m) (star (objA O (wa.heap.size + 1) (numQ (dueQ l) (stayL S l.length))) nilA)) := (isAsr_obj K.toIsKind _ _).star ((isAsr_obj K.toIsKind _ _).star isAsr_nil)
            go_wp2_with (refine wpList_next_set rfl _ rfl rfl hLB hT ?_ ?_)
            · intro hc0 hl0
              have hS0 : SameQ m (numQ (dueQ l) (stayL S l.length)) := hH.done (fun x hx => by
                obtain ⟨j, hj, rfl⟩ := mem_numQ.1 ((hH x).1 hx).1
                rw [List.mem_range] at hj
                exact hl0 _ (wfI (by dsimp only; omega) (by dsimp only; omega)))
              have hT0 := hT.rest
              generalize numQ (dueQ l) (stayL S l.length) = M2 at *
              clear hH hT hLB hrl hl0 ho2
              go_wp2_with fail
              go_loopg [15, 16, 17, 18] m.length (fun k _ _ _ _ wx => ∃ m1 m2 : List Qit, m1.length = k ∧ SameQ m1 m2 ∧ Held w wx (star (objA O wa.heap.size m1) (star (objA O (wa.heap.size + 1) m2) nilA)))
              case atStart => exact ⟨m, M2, rfl, hS0, hT0⟩
              case round =>
                clear hS0 hT0
                obtain ⟨m1, m2, hmk, hsm, hT⟩ := hrel
                have ho1 := hT.once K
                have ho2 := hT.pull.once K
                obtain ⟨hpe, hsn⟩ := hsm.pop ho1 ho2 now
                have hln := hsm.length ho1 ho2
                have k1 := quPop_h K ((isAsr_obj K.toIsKind _ _).star isAsr_nil) now ht1 ht2 hT
                have k2 := Lib.hid (fun wx (R : Asr) (hR : IsAsr R) (h : Held w wx (star (objA O (wa.heap.size + 1) m2) R)) => (show Calls _ _ _ _ _ from quPop_h K hR now ht1 ht2 h))
                rw [← hpe] at k2
                cases hp : popR m1 now with
                | some x =>
                  obtain ⟨hx1, -, -⟩ := popR_some hp
                  have hq1 := popQ_some hp
                  have hq2 := popQ_some (hpe.symm.trans hp)
                  have hml := dropQ_length ho1 hx1
                  have epop : popV (some x) = .tuple #[.agg #[.int .i64 x.Due, .int .i64 x.Stamp, .int .u64 ((hiN x.Id : Nat) : Int), .int .u64 ((loN x.Id : Nat) : Int)], .bool true] := rfl
                  have hneq : ∀ w, (binOp .neq 34 (.agg #[.int .i64 x.Due, .int .i64 x.Stamp, .int .u64 ((hiN x.Id : Nat) : Int), .int .u64 ((loN x.Id : Nat) : Int)]) (.agg #[.int .i64 x.Due, .int .i64 x.Stamp, .int .u64 ((hiN x.Id : Nat) : Int), .int .u64 ((loN x.Id : Nat) : Int)])).run Try.prog w = .ok (.bool false) w := fun w => run_same_item x w
                  rw [hp, hq1, epop] at k1
                  rw [hp, hq2, epop] at k2
                  rw [hq1, hq2] at hsn
                  generalize dropQ m1 x.Stamp = n1 at *
                  generalize dropQ m2 x.Stamp = n2 at *
                  generalize x.Due = c0 at *
                  generalize x.Stamp = c1 at *
                  generalize hiN x.Id = c2 at *
                  generalize loN x.Id = c3 at *
                  replace k1 := Lib.hid k1
                  replace hsn := Lib.hid hsn
                  clear hT hp hpe hq1 hq2 hx1 ho1 ho2 hsm epop
                  go_wp2_with fail
                  refine k1.out.mono ?_
                  rintro e w2 ⟨rfl, hT2⟩
                  have hT3 := (hT2.box ((isAsr_obj K.toIsKind _ _).star ((isAsr_obj K.toIsKind _ _).star isAsr_nil)) [.int .i64 c0, .int .i64 c1, .int .u64 (c2 : Int), .int .u64 (c3 : Int)] 34).pull3
                  have k3 := Lib.hid (k2.out _ _ ((isAsr_box _ _).star ((isAsr_obj K.toIsKind _ _).star isAsr_nil)) hT3)
                  clear hT2 hT3 k1 k2
                  go_upto_region 25 with (fail)
                  go_wp2_with fail
                  refine k3.out.mono ?_
                  rintro e w4 ⟨rfl, hT4⟩
                  have hT5 := hT4.box ((isAsr_obj K.toIsKind _ _).star ((isAsr_box _ _).star ((isAsr_obj K.toIsKind _ _).star isAsr_nil))) [.int .i64 c0, .int .i64 c1, .int .u64 (c2 : Int), .int .u64 (c3 : Int)] 34
                  clear hT4 k3
                  go_upto_region 26 with (fail)
                  generalize (w4.alloc (.cells #[.int .i64 c0, .int .i64 c1, .int .u64 (c2 : Int), .int .u64 (c3 : Int)] 34)) = w5 at *
                  have hr1 := Lib.hid hT5.pull3.boxAt.1.range
                  have hr2 := Lib.hid hT5.boxAt.1.range
                  have hi4 := Lib.hid (show (Try.prog.info? 34).map (·.size) = some ([.int .i64 c0, .int .i64 c1, .int .u64 (c2 : Int), .int .u64 (c3 : Int)] : List Value).length by kernel_rfl)
                  have hT6 := Lib.hid hT5.rest.pull.rest.pull
                  clear hT5
                  go_wp2_with (first
                    | (refine wpList_load_midg rfl 34 (.tmp 15) rfl w2.heap.size 0 rfl [.int .i64 c0, .int .i64 c1, .int .u64 (c2 : Int), .int .u64 (c3 : Int)] _ hr1.out Try.underlying34 rfl hi4.out ?_)
                    | (refine wpList_load_midg rfl 34 (.tmp 17) rfl w4.heap.size 0 rfl [.int .i64 c0, .int .i64 c1, .int .u64 (c2 : Int), .int .u64 (c3 : Int)] _ hr2.out Try.underlying34 rfl hi4.out ?_))
                  go_roundg n1.length
                  case measure => omega
                  case rel => exact ⟨_, _, rfl, hsn.out, hT6.out⟩
                | none =>
                  have hq1 := popQ_none hp
                  have hq2 := popQ_none (hpe.symm.trans hp)
                  have epop : popV none = .tuple #[.agg #[.int .i64 0, .int .i64 0, .int .u64 0, .int .u64 0], .bool false] := by
                    unfold popV
                    rw [Option.getD_none, show zeroQ = ⟨0, 0, 0⟩ from rfl, itemV_lit]; rfl
                  have hneq : ∀ w, (binOp .neq 34 (.agg #[.int .i64 0, .int .i64 0, .int .u64 0, .int .u64 0]) (.agg #[.int .i64 0, .int .i64 0, .int .u64 0, .int .u64 0])).run Try.prog w = .ok (.bool false) w := fun w => by
                    have := run_same_item ⟨0, 0, 0⟩ w
                    have e := itemV_lit 0 0
                    unfold itemV at e
                    rw [e] at this
                    exact this
                  rw [hp, hq1, epop] at k1
                  rw [hp, hq2, epop] at k2
                  replace k1 := Lib.hid k1
                  clear hT hp hpe hq1 hq2 ho1 ho2 hsm hsn epop
                  go_wp2_with fail
                  refine k1.out.mono ?_
                  rintro e w2 ⟨rfl, hT2⟩
                  have hT3 := (hT2.box ((isAsr_obj K.toIsKind _ _).star ((isAsr_obj K.toIsKind _ _).star isAsr_nil)) [.int .i64 0, .int .i64 0, .int .u64 0, .int .u64 0] 34).pull3
                  have k3 := Lib.hid (k2.out _ _ ((isAsr_box _ _).star ((isAsr_obj K.toIsKind _ _).star isAsr_nil)) hT3)
                  clear hT2 hT3 k1 k2
                  go_upto_region 25 with (fail)
                  go_wp2_with fail
                  refine k3.out.mono ?_
                  rintro e w4 ⟨rfl, hT4⟩
                  have hT5 := hT4.box ((isAsr_obj K.toIsKind _ _).star ((isAsr_box _ _).star ((isAsr_obj K.toIsKind _ _).star isAsr_nil))) [.int .i64 0, .int .i64 0, .int .u64 0, .int .u64 0] 34
                  clear hT4 k3
                  go_upto_region 26 with (fail)
                  generalize (w4.alloc (.cells #[.int .i64 0, .int .i64 0, .int .u64 0, .int .u64 0] 34)) = w5 at *
                  have hr1 := Lib.hid hT5.pull3.boxAt.1.range
                  have hr2 := Lib.hid hT5.boxAt.1.range
                  have hi4 := Lib.hid (show (Try.prog.info? 34).map (·.size) = some ([.int .i64 0, .int .i64 0, .int .u64 0, .int .u64 0] : List Value).length by kernel_rfl)
                  have hT6 := hT5.rest.pull.rest.pull
                  have k4 := Lib.hid (quLen_h K ((isAsr_obj K.toIsKind _ _).star isAsr_nil) hT6)
                  have k5 := Lib.hid (fun wx (h : Held w wx (star (objA O (wa.heap.size + 1) m2) (star (objA O wa.heap.size m1) nilA))) => (show Calls _ _ _ _ _ from quLen_h K ((isAsr_obj K.toIsKind _ _).star isAsr_nil) h))
                  rw [← hln] at k5
                  clear hT5 hT6
                  go_upto_region 29 with (first
                    | (refine wpList_load_midg rfl 34 (.tmp 15) rfl w2.heap.size 0 rfl [.int .i64 0, .int .i64 0, .int .u64 0, .int .u64 0] _ hr1.out Try.underlying34 rfl hi4.out ?_)
                    | (refine wpList_load_midg rfl 34 (.tmp 17) rfl w4.heap.size 0 rfl [.int .i64 0, .int .i64 0, .int .u64 0, .int .u64 0] _ hr2.out Try.underlying34 rfl hi4.out ?_))
                  generalize m1.length = ml at *
                  go_wp2_with fail
                  refine k4.out.mono ?_
                  rintro e w6 ⟨rfl, hT7⟩
                  have k6 := Lib.hid (k5.out _ hT7.pull)
                  clear k4 k5 hT7
                  go_wp2_with fail
                  refine k6.out.mono ?_
                  rintro e w7 ⟨rfl, hT8⟩
                  have hfin := Lib.hid hT8.below
                  clear hT8 k6
                  go_wp2
                  go_ret
                  exact ⟨rfl, hfin.out⟩
            · intro x w5 cnt5 hwx hlx hSx hcnt hen hT5
              have hbx := bounds_i64 hwx
              have hdr := quDrop_h K ((isAsr_range _ _ _ _ _ _).star ((isAsr_obj K.toIsKind _ _).star isAsr_nil)) x hbx.1 hbx.2 hT5.pull
              rw [hH.has hlx] at hdr
              have hHn := Lib.hid (hH.drop hSx)
              clear hH hT hT5 hLB
              replace hdr := Lib.hid hdr
              replace hrl := Lib.hid hrl
              have hend := Lib.hid (fun wx (h : Held w wx (star (objA O wa.heap.size (dropQ m x)) (star (rangeA (wa.heap.size + 1 + 1) r l2.length cnt5 S (fun y => left y && !decide (y = x))) (star (objA O (wa.heap.size + 1) (numQ (dueQ l) (stayL S l.length))) nilA)))) => (show (∃ (cnt : Nat) (left : Int → Bool) (m : List Qit), HalfQ (dueQ l) l.length S left m ∧ Held w wx (star (rangeA (wa.heap.size + 1 + 1) r l2.length cnt S left) (star (objA O wa.heap.size m) (star (objA O (wa.heap.size + 1) (numQ (dueQ l) (stayL S l.length))) nilA)))) ∧ wx.rangeLeft (wa.heap.size + 1 + 1) r < wr.rangeLeft (wa.heap.size + 1 + 1) r from
                ⟨⟨cnt5, _, _, hHn.out, h.pull⟩, by rw [h.pull.rangeLeft, hrl.out]; exact hcnt⟩))
              by_cases hx0 : 0 ≤ x
              · have t1 : decide ((0 : Int) ≤ x) = true := decide_eq_true hx0
                by_cases hxn : x < (l.length : Int)
                · have t2 : decide (x < (l.length : Int)) = true := decide_eq_true hxn
                  rw [t1, t2] at hdr
                  go_wp2_with fail
                  refine hdr.out.mono ?_
                  rintro e w6 ⟨rfl, hT6⟩
                  replace hT6 := Lib.hid hT6
                  clear hdr hen
                  go_wp2_with fail
                  exact hend.out _ hT6.out
                · have t2 : decide (x < (l.length : Int)) = false := decide_eq_false hxn
                  rw [t1, t2] at hdr
                  go_wp2_with fail
                  refine hdr.out.mono ?_
                  rintro e w6 ⟨rfl, hT6⟩
                  replace hT6 := Lib.hid hT6
                  clear hdr hen
                  go_wp2_with fail
                  exact hend.out _ hT6.out
              · have t1 : decide ((0 : Int) ≤ x) = false := decide_eq_false hx0
                rw [t1] at hdr
                go_wp2_with fail
                refine hdr.out.mono ?_
                rintro e w6 ⟨rfl, hT6⟩
                replace hT6 := Lib.hid hT6
                clear hdr hen
                go_wp2_with fail
                exact hend.out _ hT6.out
end
end Go.Proofs.Ytgdlcfkgdaaooaa
