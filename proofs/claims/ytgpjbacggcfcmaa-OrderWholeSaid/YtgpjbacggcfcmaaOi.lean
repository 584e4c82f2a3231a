/- Stage 12: OrderParts' walk. No condition but the landed package's. -/
import Derived.Test.YtgpjbacggcfcmaaOh
import Derived.Test.YtgpjbacggcfcmaaOk
import Derived.Deep.DeepCutAuto
import Derived.BigQuiet
namespace Go.Proofs.Ytgpjbacggcfcmaa
open Go.RowKit Wm

theorem PrsAt.of_row {W : World} {v : Value} {l : Zbl} (h : W.ownsRow 0 44 2 v l.length (rowP l)) : ∃ ao c, v = .slice ao l.length c ∧ PrsAt W ao l := by
  rcases own_slice h with ⟨rfl, h0⟩ | ⟨g, c, rfl, hg, -, hc, -⟩
  · exact ⟨none, 0, by rw [h0], ⟨fun i hi => by omega⟩⟩
  · refine ⟨_, c, rfl, ⟨fun i hi => ⟨g, 0, rfl, hg, ?_, ?_⟩⟩⟩
    · rw [Nat.zero_add]
      exact hc (i * 2) _ ((rowP_at l i 0 hi (by decide)).trans rfl)
    · rw [Nat.zero_add]
      exact hc (i * 2 + 1) _ ((rowP_at l i 1 hi (by decide)).trans rfl)
/-- Pairs from wherever, behind a row. -/
theorem app_prs (W : World) (v : Value) (l m : Zbl) (hown : W.ownsRow 0 44 2 v l.length (rowP l)) (ao : Option Addr) (c : Nat) (hp : PrsAt W ao m) (hn : l.length + m.length ≤ 10000) :
    ∃ v' w', (Builtin.append_ #[25, 25] 25 #[v, .slice ao m.length c]).run Try.prog W = .ok v' w' ∧ w'.ownsRow 0 44 2 v' (l ++ m).length (rowP (l ++ m)) ∧ W.grownBy w' v.ownBlock ∧ (v'.ownBlock = v.ownBlock ∨ v'.ownBlock = some W.heap.size) := by
  cases ao with
  | some a =>
    refine app_pairs W v l m hown a c (fun j u hj => ?_) hn
    have hj2 : j < (rowP m).length := (List.getElem?_eq_some_iff.1 hj).1
    rw [rowP_length] at hj2
    obtain ⟨g, o, e, -, h1, h2⟩ := hp.spot (j / 2) (by omega)
    injection e with e
    subst e
    rw [Addr.add_mid]
    have hjj : j = j / 2 * 2 + j % 2 := by omega
    rcases (show j % 2 = 0 ∨ j % 2 = 1 by omega) with h | h
    · rw [hjj, h, rowP_at m (j / 2) 0 (by omega) (by decide)] at hj
      injection hj with hj
      rw [← hj, show o + j = o + j / 2 * 2 from by omega]
      exact h1
    · rw [hjj, h, rowP_at m (j / 2) 1 (by omega) (by decide)] at hj
      injection hj with hj
      rw [← hj, show o + j = o + j / 2 * 2 + 1 from by omega]
      exact h2
  | none =>
    have hm : m = [] := by
      cases m with
      | nil => rfl
      | cons x r =>
        obtain ⟨g, o, e, -⟩ := hp.spot 0 (by simp)
        cases e
    subst hm
    refine ⟨v, W, ?_, by rw [List.append_nil]; exact hown, World.grownBy.refl _ _, .inl rfl⟩
    obtain ⟨ie, h1, h2, h3, h4⟩ := info_pair
    rcases hown.2 with ⟨rfl, -⟩ | ⟨g, cap, cur, rfl, _, _, hnc, _⟩
    · simp [Builtin.append_, run_underlying Try.underlying25, sizeOf, typeInfo, h1, Builtin.lenOf, Builtin.firstCells]
    · simp [Builtin.append_, run_underlying Try.underlying25, sizeOf, typeInfo, h1, Builtin.lenOf, Builtin.firstCells, hnc, storeCells]
theorem run_neq_pair (a b : Int) (w : World) : (binOp .neq 44 (.agg #[.int .i64 a, .int .i64 b]) (.agg #[.int .i64 a, .int .i64 b])).run Try.prog w = .ok (.bool false) w := by
  have h : (Op.equalIn 10000 44 (.agg #[.int .i64 a, .int .i64 b]) (.agg #[.int .i64 a, .int .i64 b])).run Try.prog w = .ok true w := by simp [go_sem]
  rw [run_neq_struct, h]; rfl
/-- A row that is being joined behind the world w3, and a list that it isn't part of. -/
structure Apn (Od : Kind Zbl) (w w3 W : World) (p : Nat) (m : Zbl) (v : Value) (l : Zbl) : Prop where
  ex : ∃ B F, v.ownBlock = some B ∧ w3.heap.size ≤ B ∧ Od F W p m ∧ (∀ k, F k → w.heap.size ≤ k) ∧ ¬ F B
  row : W.ownsRow 0 44 2 v l.length (rowP l)
  below : Below w3.heap.size w3 W
section
variable {Od : Kind Zbl} {w w3 W W2 : World} {p : Nat} {m l : Zbl} {v : Value}
theorem Apn.start (K : IsKind Od) (h : On Od w w3 p m) : Apn Od w w3 (w3.alloc (.cells #[] 44)) p m (.slice (some ⟨w3.heap.size, 0, none⟩) 0 0) [] := by
  obtain ⟨⟨F, h1, h2⟩, h3⟩ := h
  have hb : Below w3.heap.size w3 (w3.alloc (.cells #[] 44)) := (Below.refl _ _).alloc (Nat.le_refl _) _
  exact ⟨⟨_, F, rfl, Nat.le_refl _, K.later h1 hb, h2, fun e => Nat.lt_irrefl _ (K.near _ _ _ _ h1 _ e)⟩, World.ownsRow_lit w3 #[] 0 (Nat.zero_le _) (Nat.zero_le _) rfl, hb⟩
theorem Apn.later (K : IsKind Od) (h : Apn Od w w3 W p m v l) (hb : Below W.heap.size W W2) : Apn Od w w3 W2 p m v l := by
  obtain ⟨⟨B, F, h1, h2, h3, h4, h5⟩, h6, h7⟩ := h
  exact ⟨⟨B, F, h1, h2, K.later h3 hb, h4, h5⟩, (Only.of_below (F := fun _ => False) hb).row h6 (fun _ _ e => e), h7.trans (hb.mono h7.size)⟩
theorem Apn.append (K : IsKind Od) (h : Apn Od w w3 W p m v l) {r : Zbl} {ao : Option Addr} {c : Nat} (hp : PrsAt W ao r) (hn : l.length + r.length ≤ 10000) :
    ∃ v' w', (Builtin.append_ #[25, 25] 25 #[v, .slice ao r.length c]).run Try.prog W = .ok v' w' ∧ Apn Od w w3 w' p m v' (l ++ r) := by
  obtain ⟨⟨B, F, h1, h2, h3, h4, h5⟩, h6, h7⟩ := h
  obtain ⟨v', w', e1, e2, e3, e4⟩ := app_prs W v l r h6 ao c hp hn
  have hO : Only (fun k => k = B) W w' := Only.of_grown e3 (fun k _ hk => by rw [h1] at hk; exact (Option.some.inj hk).symm)
  refine ⟨v', w', e1, ?_, e2, h7.trans (hO.to_below h7.size (fun k e => by rw [e]; exact h2))⟩
  have hF : Od F w' p m := K.keep _ _ _ _ _ _ h3 hO (fun k hf e => h5 (by rw [← e]; exact hf))
  rcases e4 with e | e
  · exact ⟨B, F, e.trans h1, h2, hF, h4, h5⟩
  · exact ⟨W.heap.size, F, e, h7.size, hF, h4, fun e => Nat.lt_irrefl _ (K.near _ _ _ _ h3 _ e)⟩
theorem Apn.on (h : Apn Od w w3 W p m v l) (hb : Below w.heap.size w w3) : On Od w W p m := by
  obtain ⟨⟨B, F, h1, h2, h3, h4, h5⟩, h6, h7⟩ := h
  exact ⟨⟨F, h3, h4⟩, hb.trans (h7.mono hb.size)⟩
end
section
variable {Od : Kind Zbl}
set_option maxRecDepth 100000 in
set_option maxHeartbeats 4000000 in
theorem orderParts_any (K : LandedOr Od) (ao : Option Addr) (cap : Nat) (l : List Ocall) (hl : ∀ c ∈ l, c.Wf) (hlen : l.length ≤ 140737488351232) (a mid b : Int) (ha : -9223372036854775808 ≤ a) (ha' : a ≤ 9223372036854775807) (hm : -9223372036854775808 ≤ mid) (hm' : mid ≤ 9223372036854775807) (hb : -9223372036854775808 ≤ b) (hb' : b ≤ 9223372036854775807) (w : World) (hA : OcallsAt w ao l) :
    Calls Try.prog 4 #[.slice ao l.length cap, .int .i64 a, .int .i64 mid, .int .i64 b] w fun e w' => e = .returned (.bool true) ∧ Below w.heap.size w w' := by
  have hal := Lib.hid (orderAlive_any K)
  by_cases hskip : 100 < l.length ∨ mid = 0 ∨ mid = 9223372036854775807 ∨ mid < a ∨ (b ≠ 0 ∧ b ≤ mid) ∨ mid = -1
  · go_enter Try.func4, Try.ntmps4
    go_wp2_with fail
    refine (hal.out _).mono ?_
    rintro e w1 ⟨rfl, hb1⟩
    go_upto_region 3 with (fail)
    go_cut [47] (fun t wc => t = .bool true ∧ wc = w1)
    case first =>
      clear hA
      by_cases c1 : 100 < l.length
      · have h1 : decide (100 < ((l.length : Nat) : Int)) = true := decide_eq_true (by omega)
        go_wp2_with fail
        go_meet
        case rel => exact ⟨rfl, rfl⟩
      have h1 : decide (100 < ((l.length : Nat) : Int)) = false := decide_eq_false (by omega)
      by_cases c2 : mid = 0
      · subst c2
        go_wp2_with fail
        go_meet
        case rel => exact ⟨rfl, rfl⟩
      have h2 : (mid == 0) = false := by simpa using c2
      by_cases c3 : mid = 9223372036854775807
      · subst c3
        go_wp2_with fail
        go_meet
        case rel => exact ⟨rfl, rfl⟩
      have h3 : (mid == 9223372036854775807) = false := by simpa using c3
      by_cases c4 : mid < a
      · have h4 : decide (mid < a) = true := decide_eq_true c4
        go_wp2_with fail
        go_meet
        case rel => exact ⟨rfl, rfl⟩
      have h4 : decide (mid < a) = false := decide_eq_false c4
      by_cases c5 : b = 0
      · have c6 : mid = -1 := by omega
        subst c6
        subst c5
        clear hskip
        go_wp2_with fail
        go_meet
        case rel => exact ⟨rfl, rfl⟩
      have h5 : (b == 0) = false := by simpa using c5
      have h6 : (b != 0) = true := by simpa using c5
      by_cases c6 : b ≤ mid
      · have h7 : decide (b ≤ mid) = true := decide_eq_true c6
        go_wp2_with fail
        go_meet
        case rel => exact ⟨rfl, rfl⟩
      have h7 : decide (b ≤ mid) = false := decide_eq_false c6
      have c7 : mid = -1 := by omega
      subst c7
      clear hskip
      go_wp2_with fail
      go_meet
      case rel => exact ⟨rfl, rfl⟩
    case rest =>
      obtain ⟨rfl, rfl⟩ := hcut
      clear hskip
      go_wp2_with fail
      go_ret
      exact ⟨rfl, hb1⟩
  · have h1 : decide (100 < ((l.length : Nat) : Int)) = false := decide_eq_false (by omega)
    have h2 : (mid == 0) = false := by simp; omega
    have h3 : (mid == 9223372036854775807) = false := by simp; omega
    have h4 : decide (mid < a) = false := decide_eq_false (by omega)
    have h5 : ((!(b == 0)) && decide (b ≤ mid)) = false := by simp; omega
    have hwr : wrap64 (mid + 1) = mid + 1 := by unfold wrap64; omega
    have h7 : (wrap64 (mid + 1) == 0) = false := by rw [hwr]; simp; omega
    have h8 : (mid + 1 == 0) = false := by simp; omega
    have hsc := fun k => scriptZ_facts hl k
    have hnext : ∀ k (h : k < l.length), scriptZ (l.take (k + 1)) = callZ (scriptZ (l.take k)) l[k] := fun k h => by
      rw [← scriptZ_snoc, ← List.take_append_getElem h]
    have hT00 := On.fresh (O := Od) (Below.refl w.heap.size w) (K.new w)
    clear hT00
    have hfr := Lib.hid (fun wr (hb : Below w.heap.size w wr) => (show On Od w (wr.alloc (.cells #[.slice none 0 0] 27)) wr.heap.size [] from On.fresh (O := Od) hb (K.new wr)))
    have hbb : b = 0 ∨ (¬ b = 0 ∧ (b == 0) = false ∧ (b != 0) = true ∧ decide (b ≤ mid) = false) := by
      by_cases e : b = 0
      · exact .inl e
      · right; exact ⟨e, by simpa using e, by simpa using e, decide_eq_false (by omega)⟩
    have hparts : b = 0 ∨ mid < b := by omega
    have ham : a ≤ mid := by omega
    have hm0 : mid ≠ 0 := by omega
    have hm1 : mid + 1 ≠ 0 := by omega
    have hm2 : mid + 1 ≤ 9223372036854775807 := by omega
    have h100 : l.length ≤ 100 := by omega
    replace hsc := Lib.hid hsc
    replace hnext := Lib.hid hnext
    have hbig' := Lib.hid (And.intro hparts (And.intro hm0 hm1))
    have hwr' := Lib.hid hwr
    clear hskip hparts hm0 hm1 h5 hwr
    go_enter Try.func4, Try.ntmps4
    go_wp2_with fail
    refine (hal.out _).mono ?_
    rintro e w1 ⟨rfl, hb1⟩
    have hT0 := hfr.out _ hb1
    clear hfr
    go_upto_region 3 with (fail)
    go_cut [47] (fun t wc => t = .bool false ∧ wc = w1)
    case first =>
      rcases hbb with rfl | ⟨hb0, hb1, hb2, hb3⟩
      · go_wp2_with fail
        go_meet
        case rel => exact ⟨rfl, rfl⟩
      · go_wp2_with fail
        go_meet
        case rel => exact ⟨rfl, rfl⟩
    case rest =>
      obtain ⟨rfl, rfl⟩ := hcut
      clear h1 h2 h3 h4 h7 h8
      go_wp2_with fail
      go_loopw [52] (fun iv wr => ∃ k : Nat, k ≤ l.length ∧ iv = .int .i64 k ∧ On Od w wr wc.heap.size (scriptZ (l.take k))) (fun iv _ => (l.length - RowKit.intOf iv).toNat)
      case atStart => exact ⟨0, by omega, rfl, hT0⟩
      case round =>
        clear hT0
        obtain ⟨k, hk, rfl, hT⟩ := hrel
        by_cases hlt : k < l.length
        · obtain ⟨bb, off, rfl, hbl, hc⟩ := (hA.below hT.below (Nat.le_refl _)).spot k hlt
          have hx := hl _ (List.getElem_mem hlt)
          have hn := hnext.out k hlt
          have hlen1 := (hsc.out k).2.1
          generalize hxe : l[k] = x at *
          generalize scriptZ (l.take k) = m at *
          have hcall := Lib.hid (fun (W : World) (h : On Od w W wc.heap.size m) => odoes_empty K h (Nat.le_trans hlen1 (by omega)) x hx)
          rw [ocallV_eq] at hcall
          generalize callZ m x = m2 at *
          replace hn := Lib.hid hn
          obtain ⟨kind, kk, at'⟩ := x
          dsimp only [Ocall.cells] at hc hcall
          have c0 := hc 0 _ rfl
          have c1 := hc 1 _ rfl
          have c2 := hc 2 _ rfl
          dsimp only [Nat.add_zero] at c0 c1 c2
          clear hc hx hlen1 hxe
          have hT2 := hT.later K.toIsKind ((Below.refl wr.heap.size wr).alloc (Nat.le_refl _) (.cells #[.int .i64 kind, .int .i64 kk, .int .i64 at'] 33))
          go_wp2_with fail
          have hcall2 := hcall.out _ hT2
          clear hcall
          rw [World.size_alloc] at hcall2
          refine hcall2.mono ?_
          rintro e w5 ⟨rfl, hT5⟩
          go_wp2_with fail
          go_roundw
          case measure => simp [RowKit.intOf]; omega
          case rel =>
            exact ⟨k + 1, by omega, rfl, by rw [hn.out]; exact hT5⟩
        · have hkl : k = l.length := by omega
          subst hkl
          rw [List.take_length] at hT
          obtain ⟨hparts, hm0, hm1⟩ := hbig'.out
          obtain ⟨honce, hln, -⟩ := hsc.out l.length
          rw [List.take_length] at honce hln
          generalize scriptZ l = m at *
          have hR1 := range_parts honce a mid b hm0 hm1 ham hparts
          have hR4 := range_back m a b
          have k1 := Lib.hid (fun (W : World) (h : On Od w W wc.heap.size m) => (show Calls Try.prog 12 #[.pointer (some ⟨wc.heap.size, 0, none⟩), .int .i64 a, .int .i64 b, .bool false] W (PrsOut (rangeZ m a b false) W) from by
            obtain ⟨⟨F, hF, _⟩, _⟩ := h
            exact K.range F W _ _ a b false hF ha ha' hb hb'))
          have k2 := Lib.hid (fun (W : World) (h : On Od w W wc.heap.size m) => (show Calls Try.prog 12 #[.pointer (some ⟨wc.heap.size, 0, none⟩), .int .i64 a, .int .i64 mid, .bool false] W (PrsOut (rangeZ m a mid false) W) from by
            obtain ⟨⟨F, hF, _⟩, _⟩ := h
            exact K.range F W _ _ a mid false hF ha ha' hm hm'))
          have k3 := Lib.hid (fun (W : World) (h : On Od w W wc.heap.size m) => (show Calls Try.prog 12 #[.pointer (some ⟨wc.heap.size, 0, none⟩), .int .i64 (mid + 1), .int .i64 b, .bool false] W (PrsOut (rangeZ m (mid + 1) b false) W) from by
            obtain ⟨⟨F, hF, _⟩, _⟩ := h
            exact K.range F W _ _ (mid + 1) b false hF (by omega) hm2 hb hb'))
          have k4 := Lib.hid (fun (W : World) (h : On Od w W wc.heap.size m) => (show Calls Try.prog 12 #[.pointer (some ⟨wc.heap.size, 0, none⟩), .int .i64 a, .int .i64 b, .bool true] W (PrsOut (rangeZ m a b true) W) from by
            obtain ⟨⟨F, hF, _⟩, _⟩ := h
            exact K.range F W _ _ a b true hF ha ha' hb hb'))
          have hle1 : (rangeZ m a mid false).length ≤ 100 := Nat.le_trans (range_length ..) (Nat.le_trans hln h100)
          have hle2 : (rangeZ m (mid + 1) b false).length ≤ 100 := Nat.le_trans (range_length ..) (Nat.le_trans hln h100)
          rw [hR4] at k4
          rw [hR1] at k1 k4
          clear hR1 hR4 hparts hm0 hm1
          generalize rangeZ m a mid false = r1 at *
          generalize rangeZ m (mid + 1) b false = r2 at *
          have hlat := Lib.hid (fun W W2 (h : On Od w W wc.heap.size m) (hb : Below W.heap.size W W2) => h.later K.toIsKind hb)
          have happ0 := Lib.hid (fun W (h : On Od w W wc.heap.size m) => Apn.start K.toIsKind h)
          have happ1 := Lib.hid (fun W W2 (h : On Od w W wc.heap.size m) (hb : Below (W.alloc (.cells #[] 44)).heap.size (W.alloc (.cells #[] 44)) W2) (ao : Option Addr) (c : Nat) (hp : PrsAt W2 ao r1) => ((Apn.start K.toIsKind h).later K.toIsKind hb).append (c := c) K.toIsKind hp (by simp only [List.length_nil]; omega))
          have happ2 := Lib.hid (fun W W2 v (h : Apn Od w W W2 wc.heap.size m v ([] ++ r1)) (ao : Option Addr) (c : Nat) (hp : PrsAt W2 ao r2) => h.append (c := c) K.toIsKind hp (by simp only [List.length_append, List.length_nil]; omega))
          simp only [List.nil_append] at happ1 happ2
          have hRl : (r1 ++ r2).length ≤ 200 := by rw [List.length_append]; omega
          generalize r1 ++ r2 = R at *
          clear honce hln hbb h100
          go_wp2_with fail
          refine (k1.out _ hT).mono ?_
          rintro e w3 ⟨ao1, c1, rfl, hp1, hb3, -⟩
          have hT3 := hlat.out _ _ hT hb3
          go_wp2_with fail
          refine (k2.out _ ((happ0.out _ hT3).on hT3.below)).mono ?_
          rintro e w4 ⟨ao2, c2, rfl, hp2, hb4, -⟩
          obtain ⟨v5, w5, hr5, ha5⟩ := happ1.out _ _ hT3 hb4 ao2 c2 hp2
          go_wp2_with (at_builtin; refine Lib.wpList_append_run _ rfl _ _ _ _ rfl _ _ rfl rfl _ _ hr5 ?_)
          refine (k3.out _ (ha5.on hT3.below)).mono ?_
          rintro e w6 ⟨ao3, c3, rfl, hp3, hb6, -⟩
          obtain ⟨v7, w7, hr7, ha7⟩ := happ2.out _ _ _ (ha5.later K.toIsKind hb6) ao3 c3 hp3
          go_wp2_with (at_builtin; refine Lib.wpList_append_run _ rfl _ _ _ _ rfl _ _ rfl rfl _ _ hr7 ?_)
          refine (k4.out _ (ha7.on hT3.below)).mono ?_
          rintro e w8 ⟨ao4, c4, rfl, hp4, hb8, -⟩
          obtain ⟨ao5, c5, rfl, hp5⟩ := PrsAt.of_row ha7.row
          replace hp5 := hp5.later hb8
          replace hp1 := hp1.later (ha7.below.trans (hb8.mono ha7.below.size))
          have hb9 := ((ha7.on hT3.below).below).trans (hb8.mono ((ha7.on hT3.below).below).size)
          clear ha5 ha7 hp2 hp3 hr5 hr7 hb4 hb6 hb8 hb3 k1 k2 k3 k4 happ0 happ1 happ2 hlat hT hT3
          have hq := fun (x y : Int) W => run_neq_pair x y W
          go_wp2_with fail
          go_loopw [96] (fun iv wr => ∃ k : Nat, k ≤ R.length ∧ iv = .int .i64 k ∧ Below w8.heap.size w8 wr) (fun iv _ => (R.length - RowKit.intOf iv).toNat)
          case atStart => exact ⟨0, by omega, rfl, Below.refl _ _⟩
          case round =>
            obtain ⟨k, hk, rfl, hbw⟩ := hrel
            by_cases hlt : k < R.length
            · obtain ⟨g1, o1, rfl, -, x0, x1⟩ := (hp1.later hbw).spot k hlt
              obtain ⟨g2, o2, rfl, -, y0, y1⟩ := (hp5.later hbw).spot k hlt
              obtain ⟨g3, o3, rfl, -, z0, z1⟩ := (hp4.later hbw).spot (R.length - 1 - k) (by rw [List.length_reverse]; omega)
              have hrev : R.reverse[R.length - 1 - k]'(by rw [List.length_reverse]; omega) = R[k] := by
                rw [List.getElem_reverse]
                congr 1
                omega
              rw [hrev] at z0 z1
              clear hrev
              generalize R[k] = x at *
              obtain ⟨xs, xa⟩ := x
              dsimp only at x0 x1 y0 y1 z0 z1
              have hk1 : ((R.length : Nat) : Int) - 1 - (k : Int) = ((R.length - 1 - k : Nat) : Int) := by omega
              have hk2 : R.length - 1 - k < R.length := by omega
              generalize R.length - 1 - k = j at *
              have hk3 : wrap64 (((R.length : Nat) : Int) - 1) = ((R.length : Nat) : Int) - 1 := by unfold wrap64; omega
              have hk4 : wrap64 (((R.length : Nat) : Int) - 1 - (k : Int)) = (j : Int) := by rw [hk1]; unfold wrap64; omega
              go_wp2_with fail
              go_quiet (fail)
              have hbw2 : Below w8.heap.size w8 (wr.drewN nq) := hbw.trans ⟨rfl, rfl, rfl, Nat.le_refl _, fun _ _ => rfl⟩
              generalize wr.drewN nq = wz at *
              go_wp2
              go_roundw
              case measure => simp [RowKit.intOf]; omega
              case rel => exact ⟨k + 1, by omega, rfl, hbw2⟩
            · go_wp2_with fail
              go_ret
              exact ⟨rfl, hb9.trans (hbw.mono hb9.size)⟩
end
end Go.Proofs.Ytgpjbacggcfcmaa
