/- The landed crown: putting a head, and the newest one. No condition but the disk's, and that its numbers are int64s. -/
import Derived.Test.YtgolddcmhjdmdaaZVd
namespace Go.Proofs.Ytgolddcmhjdmdaa
open Go.RowKit Go.Sort Cr Wm Go.Lib

set_option maxRecDepth 100000 in
set_option maxHeartbeats 1000000 in
theorem crPutNil_any (h : Hd) (W : World) : Calls Try.prog 15 #[.pointer none, .int .i64 1, headA h] W fun e W' => e = .returned (.int .i64 2) ∧ Below W.heap.size W W' := by
  have hbl := Lib.hid (show Below W.heap.size W (W.alloc (.cells #[.int .i64 h.t, .int .i64 h.n, .int .i64 h.z, .int .i64 h.q] 23)) from (Below.refl _ _).alloc (Nat.le_refl _) _)
  unfold headA
  go_enter Try.func15, Try.ntmps15
  go_wp2
  go_ret
  exact ⟨rfl, hbl.out⟩
set_option maxRecDepth 100000 in
set_option maxHeartbeats 1000000 in
theorem crPut_any {Dk : (Nat → Prop) → World → Nat → St → Prop} (K : LandedDk Dk) (S : LandedSt Dk) (F : Nat → Prop) (W : World) (p : Nat) (st : St) (N : Int) (h : Hd) (hi : h.In) (hd : Dk F W p st) (hroom : st.Room 2) :
    Calls Try.prog 15 #[.pointer (some ⟨p, 0, none⟩), .int .i64 N, headA h] W fun e W' => e = .returned (.int .i64 (st.putH N h).1) ∧ DkPost Dk F p (st.putH N h).2 W W' := by
  have hB := Lib.hid (fun W => crBytes_any h W hi)
  have hbl : Below W.heap.size W (W.alloc (.cells #[.int .i64 h.t, .int .i64 h.n, .int .i64 h.z, .int .i64 h.q] 23)) := (Below.refl _ _).alloc (Nat.le_refl _) _
  have hbx := BoxAt.new W [.int .i64 h.t, .int .i64 h.n, .int .i64 h.z, .int .i64 h.q] 23
  by_cases hg : h.good = true
  · have ho := (Hd.good_iff h).1 hg
    have hP := Lib.hid (fun W => placeOf_any h W)
    have ht : h.t.tmod 2 = ((h.spot : Nat) : Int) := by
      rw [Int.tmod_eq_emod_of_nonneg (by have := ho.t; omega)]
      exact h.spot_le.2
    have hq := Lib.hid (show st.putH N h = if (st.lay ((h.spot : Nat) : Int) ((h.spot + 1 : Nat) : Int) N h.B).1 ≠ 0 then st.lay ((h.spot : Nat) : Int) ((h.spot + 1 : Nat) : Int) N h.B else (st.lay ((h.spot : Nat) : Int) ((h.spot + 1 : Nat) : Int) N h.B).2.sync by
      unfold St.putH
      rw [if_pos hg]; rfl)
    have hT := Lib.hid (fun W1 (hb : Below W.heap.size W W1) => S.lay F W1 p st ((h.spot : Nat) : Int) ((h.spot + 1 : Nat) : Int) N h.B (K.later hd hb) (by rw [count_B]; exact hroom.less (by omega)) (by rw [h.B_size]; decide))
    have hr2 := lay_room (m := 1) (s := h.B) (by rw [count_B]; exact hroom) ((h.spot : Nat) : Int) ((h.spot + 1 : Nat) : Int) N
    have e1 : wrap64 (((h.spot : Nat) : Int) + 1) = ((h.spot + 1 : Nat) : Int) := by
      have := h.spot_le.1
      unfold wrap64
      omega
    rw [show h.S = h.B by unfold Hd.S; rw [if_pos hg], show h.E = 0 by unfold Hd.E; rw [if_pos hg]] at hB
    rw [ht] at hP
    generalize st.putH N h = pj at *
    generalize h.B = hs at *
    generalize st.lay ((h.spot : Nat) : Int) ((h.spot + 1 : Nat) : Int) N hs = lr at *
    generalize ((h.spot + 1 : Nat) : Int) = un at *
    generalize ((h.spot : Nat) : Int) = fn at *
    clear hroom ho hg hi ht
    unfold headA at *
    generalize h.t = t at *
    generalize h.n = n at *
    generalize h.z = z at *
    generalize h.q = q at *
    go_enter Try.func15, Try.ntmps15
    go_wp2_with fail
    refine (hB.out _).mono ?_
    rintro e W1 ⟨rfl, hb1⟩
    have hb2 := hbl.trans (hb1.mono hbl.size)
    replace hbx := hbx.later hb1
    have z0 := hbx.spot 0 _ rfl
    have z1 := hbx.spot 1 _ rfl
    have z2 := hbx.spot 2 _ rfl
    have z3 := hbx.spot 3 _ rfl
    have zl := hbx.lt
    go_wp2_with fail
    refine (hP.out _).mono ?_
    rintro e W2 ⟨rfl, hb3⟩
    have hb4 := hb2.trans (hb3.mono hb2.size)
    clear hb2 hb1 hbl hbx hb3 z0 z1 z2 z3 zl
    go_wp2_with fail
    refine (hT.out _ hb4).mono ?_
    rintro e W3 ⟨rfl, hP⟩
    obtain ⟨F2, d1, d2, d3⟩ := hP.before hb4
    clear hP hT
    replace hq := hq.out
    by_cases he : lr.1 = 0
    · rw [if_neg (fun h => h he)] at hq
      subst hq
      have hsy := Lib.hid (K.sync F2 W3 p lr.2 d1 hr2.ok)
      go_wp2_with fail
      refine (hsy.out).mono ?_
      rintro e w5 ⟨rfl, F3, n1, n2, n3⟩
      have hP : DkPost Dk F p lr.2.sync.2 W w5 := ⟨F3, n1, d2.trans n2 (fun k hk e => d3 k hk e), fun k hk e => d3 k hk (n3 k (Nat.lt_of_lt_of_le hk d2.size) e)⟩
      clear hsy d1 d2 d3 n1 n2 n3
      go_wp2
      go_ret
      exact ⟨rfl, hP⟩
    · rw [if_pos he] at hq
      subst hq
      have hP : DkPost Dk F p pj.2 W W3 := ⟨F2, d1, d2, d3⟩
      go_wp2
      go_ret
      exact ⟨rfl, hP⟩
  · have hgb : h.good = false := by simpa using hg
    rw [show h.S = ⟨#[]⟩ by unfold Hd.S; rw [if_neg hg], show h.E = 1 by unfold Hd.E; rw [if_neg hg]] at hB
    rw [putH_bad hgb]
    dsimp only
    unfold headA at *
    clear hg hgb
    go_enter Try.func15, Try.ntmps15
    go_wp2_with fail
    refine (hB.out _).mono ?_
    rintro e W1 ⟨rfl, hb1⟩
    have hb2 := hbl.trans (hb1.mono hbl.size)
    have hP : DkPost Dk F p st W W1 := ⟨F, K.later hd hb2, Only.of_below hb2, fun _ _ e => e⟩
    go_wp2
    go_ret
    exact ⟨rfl, hP⟩
theorem stand_pos {s : ByteArray} {i : Nat} {h : Hd} (e : standOf s i = some h) : 1 ≤ h.t := (stand_some e).1.t.1
/-- A head's block that was made second: the newest one so far. -/
structure NwH (W w : World) (b : Hd) : Prop where
  a : Ans W w
  box : BoxAt w (W.heap.size + 1) [.int .i64 b.t, .int .i64 b.n, .int .i64 b.z, .int .i64 b.q]
  fz : ∀ j, w.frozen? ⟨W.heap.size + 1, j, none⟩ = false
theorem NwH.new (W : World) : NwH W ((W.alloc (.cells #[.int .i64 0, .int .i64 0, .int .i64 0, .int .i64 0] 23)).alloc (.cells #[.int .i64 0, .int .i64 0, .int .i64 0, .int .i64 0] 23)) hd0 := by
  have h := BoxAt.new (W.alloc (.cells #[.int .i64 0, .int .i64 0, .int .i64 0, .int .i64 0] 23)) [.int .i64 0, .int .i64 0, .int .i64 0, .int .i64 0] 23
  have hz : (W.alloc (.cells #[.int .i64 0, .int .i64 0, .int .i64 0, .int .i64 0] 23)).heap.size = W.heap.size + 1 := by simp
  rw [hz] at h
  exact ⟨(Ans.new W).later ((Below.refl _ _).alloc (Nat.le_refl _) _), h, fun j => by simp [go_sem]⟩
theorem NwH.later {W w w2 : World} {b : Hd} (h : NwH W w b) (hb : Below w.heap.size w w2) : NwH W w2 b := ⟨h.a.later hb, h.box.later hb, fun j => by rw [hb.frozen (p := ⟨W.heap.size + 1, j, none⟩) h.box.lt]; exact h.fz j⟩
theorem NwH.put {W w : World} {b : Hd} (h : NwH W w b) (c : Hd) : NwH W ((((w.setCell ⟨W.heap.size + 1, 0, none⟩ (.int .i64 c.t)).setCell ⟨W.heap.size + 1, 1, none⟩ (.int .i64 c.n)).setCell ⟨W.heap.size + 1, 2, none⟩ (.int .i64 c.z)).setCell ⟨W.heap.size + 1, 3, none⟩ (.int .i64 c.q)) c := by
  obtain ⟨g0, g1, g2, g3⟩ := cells_put4 (x := .int .i64 c.t) (y := .int .i64 c.n) (z := .int .i64 c.z) (v := .int .i64 c.q) (h.box.spot 0 _ rfl) (h.box.spot 1 _ rfl) (h.box.spot 2 _ rfl) (h.box.spot 3 _ rfl)
  have hf : ∀ q : Addr, World.frozen? ((((w.setCell ⟨W.heap.size + 1, 0, none⟩ (.int .i64 c.t)).setCell ⟨W.heap.size + 1, 1, none⟩ (.int .i64 c.n)).setCell ⟨W.heap.size + 1, 2, none⟩ (.int .i64 c.z)).setCell ⟨W.heap.size + 1, 3, none⟩ (.int .i64 c.q)) q = w.frozen? q := fun q => by simp only [World.frozen?_setCell]
  have hc : ∀ j, World.cell? ((((w.setCell ⟨W.heap.size + 1, 0, none⟩ (.int .i64 c.t)).setCell ⟨W.heap.size + 1, 1, none⟩ (.int .i64 c.n)).setCell ⟨W.heap.size + 1, 2, none⟩ (.int .i64 c.z)).setCell ⟨W.heap.size + 1, 3, none⟩ (.int .i64 c.q)) ⟨W.heap.size, j, none⟩ = w.cell? ⟨W.heap.size, j, none⟩ := fun j => by
    have n : ∀ (w : World) (i : Nat) (v : Value), (w.setCell ⟨W.heap.size + 1, i, none⟩ v).cell? ⟨W.heap.size, j, none⟩ = w.cell? ⟨W.heap.size, j, none⟩ := fun w i v => World.cell?_setCell_other _ _ _ _ (fun e => by injection e with e _ _; omega)
    rw [n, n, n, n]
  have hz : (((((w.setCell ⟨W.heap.size + 1, 0, none⟩ (.int .i64 c.t)).setCell ⟨W.heap.size + 1, 1, none⟩ (.int .i64 c.n)).setCell ⟨W.heap.size + 1, 2, none⟩ (.int .i64 c.z)).setCell ⟨W.heap.size + 1, 3, none⟩ (.int .i64 c.q))).heap.size = w.heap.size := by simp [World.setCell]
  refine ⟨⟨⟨fun j v hj => by rw [hc]; exact h.a.box.spot j v hj, by rw [hz]; exact h.a.box.lt⟩, fun j => by rw [hf]; exact h.a.fz j, below_put4 (by omega) h.a.bel _ _ _ _⟩, ⟨fun j v hj => ?_, by rw [hz]; exact h.box.lt⟩, fun j => by rw [hf]; exact h.fz j⟩
  rcases j with _ | _ | _ | _ | j
  · obtain rfl := Option.some.inj hj; exact g0
  · obtain rfl := Option.some.inj hj; exact g1
  · obtain rfl := Option.some.inj hj; exact g2
  · obtain rfl := Option.some.inj hj; exact g3
  · simp at hj
theorem NwH.all {W w : World} {b : Hd} (h : NwH W w b) : w.cell? ⟨W.heap.size + 1, 0, none⟩ = some (.int .i64 b.t) ∧ w.cell? ⟨W.heap.size + 1, 1, none⟩ = some (.int .i64 b.n) ∧ w.cell? ⟨W.heap.size + 1, 2, none⟩ = some (.int .i64 b.z) ∧ w.cell? ⟨W.heap.size + 1, 3, none⟩ = some (.int .i64 b.q) ∧
    w.frozen? ⟨W.heap.size + 1, 0, none⟩ = false ∧ w.frozen? ⟨W.heap.size + 1, 1, none⟩ = false ∧ w.frozen? ⟨W.heap.size + 1, 2, none⟩ = false ∧ w.frozen? ⟨W.heap.size + 1, 3, none⟩ = false ∧ W.heap.size + 1 < w.heap.size :=
  ⟨h.box.spot 0 _ rfl, h.box.spot 1 _ rfl, h.box.spot 2 _ rfl, h.box.spot 3 _ rfl, h.fz 0, h.fz 1, h.fz 2, h.fz 3, h.box.lt⟩
/-- The newest of the first so many. -/
noncomputable def St.upToH (st : St) : Nat → Option Hd
  | 0 => none
  | 1 => standOf (st.now 0) 0
  | _ => st.newest
/-- What a round makes of the newest one. -/
theorem upToH_next (st : St) (k : Nat) (hk : k ≤ 1) : st.upToH (k + 1) = (match standOf (st.now k) k with | none => st.upToH k | some h => if (hdO (st.upToH k)).t < h.t then some h else st.upToH k) := by
  rcases (show k = 0 ∨ k = 1 by omega) with rfl | rfl
  · show standOf (st.now 0) 0 = _
    cases e : standOf (st.now 0) 0 with
    | none => rfl
    | some h =>
      have := stand_pos e
      show some h = if (0 : Int) < h.t then some h else none
      rw [if_pos (by omega)]
  · show newer (standOf (st.now 0) 0) (standOf (st.now 1) 1) = (match standOf (st.now 1) 1 with | none => standOf (st.now 0) 0 | some h => if (hdO (standOf (st.now 0) 0)).t < h.t then some h else standOf (st.now 0) 0)
    cases e : standOf (st.now 1) 1 with
    | none =>
      cases standOf (st.now 0) 0 <;> rfl
    | some h =>
      have := stand_pos e
      cases standOf (st.now 0) 0 with
      | none =>
        show some h = if (0 : Int) < h.t then some h else none
        rw [if_pos (by omega)]
      | some k => rfl
theorem upToH_pos (st : St) (k : Nat) (hk : k ≤ 2) : st.upToH k = none ∨ ∃ h, st.upToH k = some h ∧ 1 ≤ h.t := by
  have h0 : ∀ s i, standOf s i = none ∨ ∃ h, standOf s i = some h ∧ 1 ≤ h.t := fun s i => by
    cases e : standOf s i with
    | none => exact .inl rfl
    | some h => exact .inr ⟨h, rfl, stand_pos e⟩
  rcases (show k = 0 ∨ k = 1 ∨ k = 2 by omega) with rfl | rfl | rfl
  · exact .inl rfl
  · exact h0 _ _
  · have := upToH_next st 1 (by omega)
    show st.upToH (1 + 1) = none ∨ ∃ h, st.upToH (1 + 1) = some h ∧ 1 ≤ h.t
    rw [this]
    have h1 := h0 (st.now 1) 1
    rcases h1 with e | ⟨h, e, hp⟩
    · rw [e]; exact h0 _ _
    · rw [e]
      dsimp only
      split
      · exact .inr ⟨h, rfl, hp⟩
      · exact h0 _ _
set_option maxRecDepth 100000 in
set_option maxHeartbeats 1000000 in
theorem crNewest_any {Dk : (Nat → Prop) → World → Nat → St → Prop} (K : LandedDk Dk) (S : LandedSt Dk) (F : Nat → Prop) (W : World) (p : Nat) (st : St) (h : Dk F W p st) (hok : st.Ok) :
    Calls Try.prog 16 #[.pointer (some ⟨p, 0, none⟩)] W fun e W' => e = .returned (.tuple #[headA (hdO st.newest), .bool st.newest.isSome]) ∧ Below W.heap.size W W' := by
  have hS := Lib.hid (fun i (hi : i ≤ 1) W1 (hb : Below W.heap.size W W1) => standing_any K S (K.later h hb) hok i hi)
  have N0 := NwH.new W
  have hnx := Lib.hid (upToH_next st)
  have hps := Lib.hid (upToH_pos st 2 (by omega))
  have hfin := Lib.hid (show st.newest = st.upToH 2 from rfl)
  rw [hfin.out]
  have h0 : st.upToH 0 = none := rfl
  rw [show hd0 = hdO (st.upToH 0) by rw [h0]; rfl] at N0
  clear h0 hfin
  generalize st.upToH = u at *
  go_enter Try.func16, Try.ntmps16
  go_wp2_with fail
  generalize ((W.alloc (.cells #[.int .i64 0, .int .i64 0, .int .i64 0, .int .i64 0] 23)).alloc (.cells #[.int .i64 0, .int .i64 0, .int .i64 0, .int .i64 0] 23)) = W0 at *
  go_loopw [9] (fun iv wr => ∃ k : Nat, k ≤ 2 ∧ iv = .int .i64 k ∧ NwH W wr (hdO (u k))) (fun iv _ => (2 - RowKit.intOf iv).toNat)
  case atStart => exact ⟨0, by omega, rfl, N0⟩
  case round =>
    clear N0
    obtain ⟨k, hk, rfl, N⟩ := hrel
    by_cases hlt : k < 2
    · have hs := Lib.hid (hS.out k (by omega) _ N.a.bel)
      have hn := hnx.out k (by omega)
      have hkl : ((k : Nat) : Int) < 2 := by omega
      clear hS hnx hps
      cases e : standOf (st.now k) k with
      | none =>
        rw [e] at hn hs
        dsimp only at hn
        rw [show hdO none = hd0 from rfl, show (none : Option Hd).isSome = false from rfl] at hs
        unfold headA hd0 at hs
        go_wp2_with fail
        refine hs.out.mono ?_
        rintro e2 W1 ⟨rfl, hb1⟩
        have N1 := (N.later hb1).later ((Below.refl _ _).alloc (Nat.le_refl _) (.cells #[.int .i64 0, .int .i64 0, .int .i64 0, .int .i64 0] 23))
        clear N hb1
        go_wp2_with fail
        exact ⟨⟨k + 1, by omega, by go_num, by rw [hn]; exact N1⟩, by simp [RowKit.intOf]; omega⟩
      | some x =>
        rw [e] at hn hs
        dsimp only at hn
        rw [show hdO (some x) = x from rfl, show (some x).isSome = true from rfl] at hs
        unfold headA at hs
        have hB := Lib.hid hn
        clear hn
        generalize hbb : hdO (u k) = b at *
        replace hbb := Lib.hid hbb
        go_wp2_with fail
        refine hs.out.mono ?_
        rintro e2 W1 ⟨rfl, hb1⟩
        have N1 := (N.later hb1).later ((Below.refl _ _).alloc (Nat.le_refl _) (.cells #[.int .i64 x.t, .int .i64 x.n, .int .i64 x.z, .int .i64 x.q] 23))
        have hne : W.heap.size + 1 ≠ W1.heap.size := by have := (N.later hb1).box.lt; omega
        have N2 := Lib.hid (((N.later hb1).put x).later ((Below.refl _ _).alloc (Nat.le_refl _) (.cells #[.int .i64 x.t, .int .i64 x.n, .int .i64 x.z, .int .i64 x.q] 23)))
        obtain ⟨c0, c1, c2, c3, f0, f1, f2, f3, lt⟩ := (N.later hb1).all
        replace N1 := Lib.hid N1
        clear N hb1
        by_cases ht : b.t < x.t
        · have hu := Lib.hid (hB.out.trans (if_pos ht))
          clear hB
          go_wp2_with fail
          exact ⟨⟨k + 1, by omega, by go_num, by rw [hu.out]; exact N2.out⟩, by simp [RowKit.intOf]; omega⟩
        · have hu := Lib.hid (hB.out.trans (if_neg ht))
          clear hB
          go_wp2_with fail
          exact ⟨⟨k + 1, by omega, by go_num, by rw [hu.out, hbb.out]; exact N1.out⟩, by simp [RowKit.intOf]; omega⟩
    · obtain rfl : k = 2 := by omega
      clear hS hnx
      obtain ⟨n0, n1, n2, n3, g0, g1, g2, g3, nl⟩ := N.all
      obtain ⟨c0, c1, c2, c3, f0, f1, f2, f3, lt, hall⟩ := N.a.all
      clear N
      obtain ⟨h0, h1, h2, h3⟩ := cells_put4 (x := .int .i64 (hdO (u 2)).t) (y := .int .i64 (hdO (u 2)).n) (z := .int .i64 (hdO (u 2)).z) (v := .int .i64 (hdO (u 2)).q) c0 c1 c2 c3
      rcases hps.out with eu | ⟨x, eu, hp⟩
      · have hg : ¬ 0 < (hdO (u 2)).t := by rw [eu]; show ¬ (0 : Int) < 0; omega
        have hv := Lib.hid (show (u 2).isSome = false by rw [eu]; rfl)
        clear hps eu
        go_wp2_with fail
        go_region
        all_goals
          go_wp2_with fail
          refine bodyPost_ret (v := .tuple #[headA (hdO (u 2)), .bool false]) ?_ rfl ⟨by rw [hv.out], (below_put4 (Nat.le_refl _) hall _ _ _ _).drew⟩
          simp [results, Try.results16, go_sem, h0, h1, h2, h3, headA]
          omega
      · have hg : 0 < (hdO (u 2)).t := by rw [eu]; show 0 < x.t; omega
        have hv := Lib.hid (show (u 2).isSome = true by rw [eu]; rfl)
        clear hps eu
        go_wp2_with fail
        go_region
        all_goals
          go_wp2_with fail
          refine bodyPost_ret (v := .tuple #[headA (hdO (u 2)), .bool true]) ?_ rfl ⟨by rw [hv.out], (below_put4 (Nat.le_refl _) hall _ _ _ _).drew⟩
          simp [results, Try.results16, go_sem, h0, h1, h2, h3, headA]
theorem landedCr {Dk : (Nat → Prop) → World → Nat → St → Prop} (K : LandedDk Dk) (S : LandedSt Dk) : LandedCr Dk where
  good := fun h W _ => crGood_any h W
  bytes := fun h W hi => crBytes_any h W hi
  read := fun s W hs => crRead_any s W hs
  put := fun F W p st N h hi hd hr => crPut_any K S F W p st N h hi hd hr
  newest := fun F W p st h hok => crNewest_any K S F W p st h hok
  putNil := fun h W _ => crPutNil_any h W
end Go.Proofs.Ytgolddcmhjdmdaa
