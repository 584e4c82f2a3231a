/- Stage 11: the document's Put. No condition but the table's size. -/
import Derived.Test.YtpopbdladlahjaaRd
import Derived.Test.YtpopbdladlahjaaNeed
import Derived.Test.YtpopbdladlahjaaCalm
import Derived.Maps.AppendAt
import Derived.BigRegion
import Derived.Lib.AppendZeros
namespace Go.Proofs.Ytpopbdladlahjaa
open Go.RowKit Go.Sort Wm

theorem info_num : ∃ ie, Try.prog.info? 33 = some ie ∧ ie.zero = some (.agg #[.int .u64 0, .int .u64 0]) ∧ ie.size = 2 ∧ ie.bytes = 16 := by
  have h : (Try.prog.info? 33).map (fun i => (i.zero, i.size, i.bytes)) = some (some (.agg #[.int .u64 0, .int .u64 0]), 2, 16) := by kernel_rfl
  cases hq : Try.prog.info? 33 with
  | none => simp [hq] at h
  | some ie =>
    rw [hq] at h
    simp only [Option.map_some, Option.some.injEq, Prod.mk.injEq] at h
    exact ⟨ie, rfl, h.1, h.2.1, h.2.2⟩
/-- A row of names, and one behind it, wherever that one lies. -/
theorem app_nums (W : World) (v : Value) (l m : List Nat) (hown : W.ownsRow 0 33 2 v l.length (rowN l)) (a : Addr) (c : Nat) (hsrc : ∀ j u, (rowN m)[j]? = some u → W.cell? (a.add j) = some u) (hn : l.length + m.length ≤ 10000) :
    ∃ v' w', (Builtin.append_ #[27, 27] 27 #[v, .slice (some a) m.length c]).run Try.prog W = .ok v' w' ∧ w'.ownsRow 0 33 2 v' (l ++ m).length (rowN (l ++ m)) ∧ W.grownBy w' v.ownBlock ∧ (v'.ownBlock = v.ownBlock ∨ v'.ownBlock = some W.heap.size) := by
  obtain ⟨ie, h1, h2, h3, h4⟩ := info_num
  obtain ⟨v', w', e1, e2, e3, _, e4⟩ := run_append_own_at (P := Try.prog) W 0 27 27 33 ie _ 2 16 Try.underlying27 h1 h2 h3 h4 (by simp [Value.cells]) (by omega) v l.length (rowN l) hown
    a m.length c (rowN m) (rowN_length m) hsrc
    (fun u hu => by
      unfold rowN at hu
      obtain ⟨x, _, hx⟩ := List.mem_flatMap.1 hu
      unfold cellsN at hx
      simp at hx
      rcases hx with rfl | rfl <;> rfl) (by unfold maxLen; omega) (by omega) (Nat.zero_le _)
  refine ⟨v', w', e1, ?_, e3, e4⟩
  rw [List.length_append, rowN_app]
  exact e2
theorem putT_found : ∀ (t : Tbl) (k : Nat) (v : Int), posT t k < t.length → (putT t k v).map Prod.fst = t.map Prod.fst ∧ (putT t k v).map Prod.snd = (t.map Prod.snd).set (posT t k) v
  | [], _, _, h => absurd h (Nat.lt_irrefl 0)
  | (a, u) :: r, k, v, h => by
    unfold putT posT at *
    by_cases e : a = k
    · rw [if_pos e, if_pos e]; exact ⟨rfl, rfl⟩
    · rw [if_neg e, if_neg e]
      rw [if_neg e] at h
      obtain ⟨h1, h2⟩ := putT_found r k v (by simpa using h)
      constructor
      · show a :: (putT r k v).map Prod.fst = a :: r.map Prod.fst
        rw [h1]
      · show u :: (putT r k v).map Prod.snd = u :: (r.map Prod.snd).set (posT r k) v
        rw [h2]
theorem putT_new : ∀ (t : Tbl) (k : Nat) (v : Int), ¬ posT t k < t.length → (putT t k v).map Prod.fst = t.map Prod.fst ++ [k] ∧ (putT t k v).map Prod.snd = t.map Prod.snd ++ [v]
  | [], _, _, _ => ⟨rfl, rfl⟩
  | (a, u) :: r, k, v, h => by
    unfold putT posT at *
    by_cases e : a = k
    · rw [if_pos e] at h
      exact absurd (by simp) h
    · rw [if_neg e]
      rw [if_neg e] at h
      obtain ⟨h1, h2⟩ := putT_new r k v (by simpa using h)
      constructor
      · show a :: (putT r k v).map Prod.fst = a :: r.map Prod.fst ++ [k]
        rw [h1]; rfl
      · show u :: (putT r k v).map Prod.snd = u :: r.map Prod.snd ++ [v]
        rw [h2]; rfl
theorem getT_isSome (t : Tbl) (k : Nat) : (getT t k).isSome = decide (posT t k < t.length) := by
  rw [posT_get]
  by_cases h : posT t k < t.length
  · rw [List.getElem?_eq_getElem h, decide_eq_true h]; rfl
  · rw [List.getElem?_eq_none (by omega), decide_eq_false h]; rfl
set_option maxRecDepth 100000 in
set_option maxHeartbeats 2000000 in
theorem refput_any {F : Nat → Prop} {W : World} {m : Nat} {t : Tbl} (h : TbRef F W m t) (hlen : t.length ≤ 1000) (key : Nat) (v : Int) :
    Calls Try.prog 14 #[.pointer (some ⟨m, 0, none⟩), numV key, .int .i64 v] W fun e W' => e = .returned (.bool (!(getT t key).isSome)) ∧ PostO TbRef F m (putT t key v) W W' := by
  obtain ⟨vk, va, hV, hF⟩ := h
  have hw0 : Below W.heap.size W (W.alloc (.cells #[.int .u64 ((hiN key : Nat) : Int), .int .u64 ((loN key : Nat) : Int)] 33)) := (Below.refl _ _).alloc (Nat.le_refl _) _
  have hbx := BoxAt.new W [.int .u64 ((hiN key : Nat) : Int), .int .u64 ((loN key : Nat) : Int)] 33
  have hV0 := hV.later hw0
  have hat := Lib.hid (refat_any hV0 hlen key)
  rw [getT_isSome]
  by_cases hp : posT t key < t.length
  · obtain ⟨e1, e2⟩ := putT_found t key v hp
    have hi : idxT t key = ((posT t key : Nat) : Int) := by unfold idxT; rw [if_pos hp]
    rw [hi] at hat
    rw [decide_eq_true hp]
    have hlz : (t.map Prod.snd).length = t.length := List.length_map ..
    have hcell := own_slice hV0.o1
    rw [hlz] at hcell
    rcases hcell with ⟨-, hz⟩ | ⟨g, cap, rfl, hg, hcap, hcl, hfz⟩
    · omega
    · have hfin := Lib.hid (fun (w1 : World) (hb : Below (W.alloc (.cells #[.int .u64 ((hiN key : Nat) : Int), .int .u64 ((loN key : Nat) : Int)] 33)).heap.size (W.alloc (.cells #[.int .u64 ((hiN key : Nat) : Int), .int .u64 ((loN key : Nat) : Int)] 33)) w1) => show PostO TbRef F m (putT t key v) W (w1.setCell ⟨g, posT t key, none⟩ (.int .i64 v)) from by
        have hV1 := hV0.later hb
        have hb1 := hw0.trans (hb.mono hw0.size)
        have hmg : m ≠ g := fun e => hV1.d1 (by rw [e]; rfl)
        have ho1 := hV1.o1
        rw [hlz] at ho1
        obtain ⟨s1, s2⟩ := ho1.stored (posT t key) (.int .i64 v)
        refine ⟨F, ⟨vk, .slice (some ⟨g, 0, none⟩) t.length cap, ?_, hF⟩, ?_, fun _ _ e => e⟩
        · rw [e1, e2]
          refine ⟨?_, ?_, fun j => by simpa using hV1.fz j, by simpa using hV1.lt, ownsRow_setCell_other (a := ⟨g, posT t key, none⟩) hV1.o0 (fun e => hV1.e0 g e rfl) _, ?_, hV1.d0, hV1.d1, hV1.e0⟩
          · rw [World.cell?_setCell_other _ _ _ _ (fun e => hmg (by injection e with e _ _; exact e.symm))]; exact hV1.c0
          · rw [World.cell?_setCell_other _ _ _ _ (fun e => hmg (by injection e with e _ _; exact e.symm))]; exact hV1.c1
          · rw [List.length_set, hlz]
            have : rowZ ((t.map Prod.snd).set (posT t key) v) = (rowZ (t.map Prod.snd)).set (posT t key) (.int .i64 v) := by unfold rowZ; rw [List.map_set]
            rw [this]
            exact s1
        · exact (Only.of_below hb1).setCell (fun _ => (hF g).2 (.inr (.inr rfl))) _)
      have hget : ∃ u, (rowZ (t.map Prod.snd))[posT t key]? = some u := ⟨_, List.getElem?_eq_getElem (by unfold rowZ; rw [List.length_map, hlz]; exact hp)⟩
      obtain ⟨u, hu⟩ := hget
      have hcu := hcl _ _ hu
      have c1 := hV0.c1
      have ml := hV0.lt
      have fzu := hfz (posT t key)
      generalize posT t key = i at *
      generalize t.length = n at *
      have z0 := hbx.spot 0 _ rfl
      have z1 := hbx.spot 1 _ rfl
      have zl := hbx.lt
      clear hcl hfz hu hV hV0 e1 e2 hF hlz hbx
      go_enter Try.func14, Try.ntmps14
      generalize hw0e : W.alloc (.cells #[.int .u64 ((hiN key : Nat) : Int), .int .u64 ((loN key : Nat) : Int)] 33) = W0 at *
      go_wp2_with fail
      refine hat.out.mono ?_
      rintro e w1 ⟨rfl, hb⟩
      have d1 := (hb.cell (p := ⟨m, 1, none⟩) ml).trans c1
      have du := (hb.cell (p := ⟨g, i, none⟩) hg).trans hcu
      have df := (hb.frozen (p := ⟨g, i, none⟩) hg).trans fzu
      have dm := Nat.lt_of_lt_of_le ml hb.size
      have dg := Nat.lt_of_lt_of_le hg hb.size
      have hP := Lib.hid (hfin.out _ hb)
      have n1 : ¬ ((i : Nat) : Int) < 0 := by omega
      have n2 : ((i : Nat) : Int) < ((n : Nat) : Int) := by omega
      clear hat hfin c1 hcu fzu hb hcap hlen hi
      go_wp2_with fail
      go_ret
      exact ⟨rfl, hP.out⟩
  · obtain ⟨e1, e2⟩ := putT_new t key v hp
    have hi : idxT t key = -1 := by unfold idxT; rw [if_neg hp]
    rw [hi] at hat
    rw [decide_eq_false hp]
    have hks : (t.map Prod.fst).length ≤ 1000 := by rw [List.length_map]; exact hlen
    have hzs : (t.map Prod.snd).length ≤ 1000 := by rw [List.length_map]; exact hlen
    generalize hKS : t.map Prod.fst = ks at *
    generalize hZS : t.map Prod.snd = zs at *
    have hfin := Lib.hid (fun (F2 : Nat → Prop) (W2 : World) (vk2 va2 : Value) (hv : TbV W2 m (ks ++ [key]) (zs ++ [v]) vk2 va2) (hO : Only F W W2) (hF2 : ∀ k, k < W.heap.size → footT m vk2 va2 k → F k) =>
      show PostO TbRef F m (putT t key v) W W2 from ⟨footT m vk2 va2, ⟨vk2, va2, by rw [e1, e2]; exact hv, fun _ => Iff.rfl⟩, hO, hF2⟩)
    have ml := hV0.lt
    have hnk : ∀ g, vk.ownBlock = some g → g < W.heap.size := fun g e => (hV.o0.lt g e).2
    have hna : ∀ g, va.ownBlock = some g → g < W.heap.size := fun g e => (hV.o1.lt g e).2
    have hmW := hV.lt
    replace hnk := Lib.hid hnk
    replace hna := Lib.hid hna
    replace hmW := Lib.hid hmW
    clear hlen e1 e2 hi hV
    go_enter Try.func14, Try.ntmps14
    generalize hw0e : W.alloc (.cells #[.int .u64 ((hiN key : Nat) : Int), .int .u64 ((loN key : Nat) : Int)] 33) = W0 at *
    have z0 := hbx.spot 0 _ rfl
    have z1 := hbx.spot 1 _ rfl
    have zl := hbx.lt
    go_wp2_with fail
    refine hat.out.mono ?_
    rintro e w1 ⟨rfl, hb⟩
    have hV1 := hV0.later hb
    replace hbx := hbx.later hb
    have hbw := hw0.trans (hb.mono hw0.size)
    have hn1 : W.heap.size < w1.heap.size := hbx.lt
    clear hat z0 z1 zl ml hb hV0 hw0
    have c0 := hV1.c0
    have ml := hV1.lt
    have z0 := hbx.spot 0 _ rfl
    have z1 := hbx.spot 1 _ rfl
    -- the row of names with one more
    have hal : Below w1.heap.size w1 (w1.drew.alloc (.cells #[.int .u64 ((hiN key : Nat) : Int), .int .u64 ((loN key : Nat) : Int)] 33)) := ((Below.refl _ _).drew).alloc (Nat.le_refl _) _
    have hVa := hV1.later hal
    have hsb : BoxAt (w1.drew.alloc (.cells #[.int .u64 ((hiN key : Nat) : Int), .int .u64 ((loN key : Nat) : Int)] 33)) w1.heap.size [.int .u64 ((hiN key : Nat) : Int), .int .u64 ((loN key : Nat) : Int)] := BoxAt.new w1.drew _ _
    obtain ⟨v', w2, hrA, ho2, hg2, hd2⟩ := app_nums _ vk ks [key] hVa.o0 ⟨w1.heap.size, 0, none⟩ 1 (fun j u hj => by
      rw [Addr.add_mid, Nat.zero_add]
      exact hsb.spot j u hj) (by simp only [List.length_singleton]; omega)
    have hOn2 : Only (fun k => vk.ownBlock = some k) w1 w2 := (Only.of_below (F := fun k => vk.ownBlock = some k) hal).trans (Only.of_grown hg2 (fun k _ hk => hk)) (fun j hj hf => hf)
    have hdd : ∀ k, v'.ownBlock = some k → vk.ownBlock = some k ∨ w1.heap.size ≤ k := fun k hk => by
      rcases hd2 with e | e
      · exact .inl (e ▸ hk)
      · right
        have := e.symm.trans hk
        injection this with this
        rw [← this]
        exact hal.size
    have hV2 := hV1.row0 hOn2 ho2 hdd
    have hlk : (ks ++ [key]).length = ks.length + 1 := by simp
    rcases own_slice ho2 with ⟨-, hz⟩ | ⟨g2, cap2, rfl, -⟩
    · omega
    have hbx2 := hbx.only hOn2 (fun e => Nat.lt_irrefl _ (hnk.out _ e))
    go_wp2_with fail
    refine wp_region_need (fun w' => w'.cell? ⟨m, 0, none⟩ = some vk ∧ w'.cell? ⟨W.heap.size, 0, none⟩ = some (.int .u64 ((hiN key : Nat) : Int)) ∧ w'.cell? ⟨W.heap.size, 1, none⟩ = some (.int .u64 ((loN key : Nat) : Int))) [0, 1, 2, 3, 4, 5] (by kernel_rfl) ?_
    have hS0 : w1.drew.cell? ⟨m, 0, none⟩ = some vk ∧ w1.drew.cell? ⟨W.heap.size, 0, none⟩ = some (.int .u64 ((hiN key : Nat) : Int)) ∧ w1.drew.cell? ⟨W.heap.size, 1, none⟩ = some (.int .u64 ((loN key : Nat) : Int)) := ⟨c0, z0, z1⟩
    refine need_takeL (i := 0) (v := ?cv192) rfl rfl (by kernel_rfl) (by kernel_rfl) (by kernel_rfl) (fun _ _ _ h => h) (Or.inl ⟨by rfl, ?ch192⟩) hS0 ?cr192
    case ch192 => (intro w' hSw; (try dsimp only at hSw); go_simp; first | done | with_reducible rfl)
    try simp only [Act.put, List.setIfInBounds_toArray, List.set_cons_zero, List.set_cons_succ]
    refine need_takeL (i := 1) (v := ?cv195) rfl rfl (by kernel_rfl) (by kernel_rfl) (by kernel_rfl) (fun _ _ _ h => h) (Or.inl ⟨by rfl, ?ch195⟩) hS0 ?cr195
    case ch195 => (intro w' hSw; (try dsimp only at hSw); go_simp; first | done | with_reducible rfl)
    try simp only [Act.put, List.setIfInBounds_toArray, List.set_cons_zero, List.set_cons_succ]
    refine need_takeL (i := 2) (v := ?cv198) rfl rfl (by kernel_rfl) (by kernel_rfl) (by kernel_rfl) (fun _ _ _ h => h) (Or.inl ⟨by rfl, ?ch198⟩) hS0 ?cr198
    case ch198 => (intro w' hSw; (try dsimp only at hSw); go_simp; first | done | with_reducible rfl)
    try simp only [Act.put, List.setIfInBounds_toArray, List.set_cons_zero, List.set_cons_succ]
    refine need_takeL (i := 3) (v := ?cv201) rfl rfl (by kernel_rfl) (by kernel_rfl) (by kernel_rfl) (fun _ _ _ h => h) (Or.inl ⟨by rfl, ?ch201⟩) hS0 ?cr201
    case ch201 => (intro w' hSw; (try dsimp only at hSw); go_simp; first | done | with_reducible rfl)
    try simp only [Act.put, List.setIfInBounds_toArray, List.set_cons_zero, List.set_cons_succ]
    refine need_takeL (i := 4) (v := ?cv204) rfl rfl (by kernel_rfl) (by kernel_rfl) (by kernel_rfl) (fun _ _ _ h => h) (Or.inl ⟨by rfl, ?ch204⟩) hS0 ?cr204
    case ch204 => (intro w' hSw; (try dsimp only at hSw); go_simp; first | done | with_reducible rfl)
    try simp only [Act.put, List.setIfInBounds_toArray, List.set_cons_zero, List.set_cons_succ]
    refine need_takeL (i := 5) (v := ?cv207) rfl rfl (by kernel_rfl) (by kernel_rfl) (by kernel_rfl) (fun _ _ _ h => h) (Or.inl ⟨by rfl, ?ch207⟩) hS0 ?cr207
    case ch207 => (intro w' hSw; (try dsimp only at hSw); go_simp; first | done | with_reducible rfl)
    try simp only [Act.put, List.setIfInBounds_toArray, List.set_cons_zero, List.set_cons_succ]
    have hS1 : (w1.drew.alloc (.cells #[.int .u64 ((hiN key : Nat) : Int), .int .u64 ((loN key : Nat) : Int)] 33)).cell? ⟨m, 0, none⟩ = some vk ∧ (w1.drew.alloc (.cells #[.int .u64 ((hiN key : Nat) : Int), .int .u64 ((loN key : Nat) : Int)] 33)).cell? ⟨W.heap.size, 0, none⟩ = some (.int .u64 ((hiN key : Nat) : Int)) ∧ (w1.drew.alloc (.cells #[.int .u64 ((hiN key : Nat) : Int), .int .u64 ((loN key : Nat) : Int)] 33)).cell? ⟨W.heap.size, 1, none⟩ = some (.int .u64 ((loN key : Nat) : Int)) :=
      ⟨hVa.c0, (hbx.later hal).spot 0 _ rfl, (hbx.later hal).spot 1 _ rfl⟩
    have c2 : w2.cell? ⟨m, 0, none⟩ = some vk := (hOn2.cell (p := ⟨m, 0, none⟩) hV1.lt hV1.d0).trans c0
    have f2 : w2.frozen? ⟨m, 0, none⟩ = false := (hOn2.frozen (p := ⟨m, 0, none⟩) hV1.lt hV1.d0).trans (hV1.fz 0)
    have m2 : m < w2.heap.size := Nat.lt_of_lt_of_le hV1.lt hOn2.size
    have hS2 : w2.cell? ⟨m, 0, none⟩ = some vk ∧ w2.cell? ⟨W.heap.size, 0, none⟩ = some (.int .u64 ((hiN key : Nat) : Int)) ∧ w2.cell? ⟨W.heap.size, 1, none⟩ = some (.int .u64 ((loN key : Nat) : Int)) := ⟨c2, hbx2.spot 0 _ rfl, hbx2.spot 1 _ rfl⟩
    refine need_turnL (i := 6) rfl (by kernel_rfl) (by rfl) (fun K' hK' => ?_)
    go_simp
    refine hK' _ _ (fun _ => hS1) ?_
    clear hK' K'
    try simp only [Act.put, List.setIfInBounds_toArray, List.set_cons_zero, List.set_cons_succ]
    refine need_turnL (i := 7) rfl (by kernel_rfl) (by rfl) (fun K' hK' => ?_)
    refine Lib.wp_append_run _ _ _ _ _ rfl _ _ rfl rfl _ _ hrA ?_
    refine hK' _ _ (fun _ => hS2) ?_
    clear hK' K'
    try simp only [Act.put, List.setIfInBounds_toArray, List.set_cons_zero, List.set_cons_succ]
    refine need_turnL (i := 8) rfl (by kernel_rfl) (by rfl) (fun K' hK' => ?_)
    go_simp
    refine hK' _ _ (fun _ => hS2) ?_
    clear hK' K'
    try simp only [Act.put, List.setIfInBounds_toArray, List.set_cons_zero, List.set_cons_succ]
    refine need_turnL (i := 9) rfl (by kernel_rfl) (by rfl) (fun K' hK' => ?_)
    go_simp
    refine hK' _ _ (fun _ => hS2) ?_
    clear hK' K'
    try simp only [Act.put, List.setIfInBounds_toArray, List.set_cons_zero, List.set_cons_succ]
    refine need_turnL (i := 10) rfl (by kernel_rfl) (by rfl) (fun K' hK' => ?_)
    go_simp
    refine hK' _ _ (fun h => spared (by kernel_rfl) h) ?_
    clear hK' K'
    try simp only [Act.put, List.setIfInBounds_toArray, List.set_cons_zero, List.set_cons_succ]
    refine need_done (by kernel_rfl) ?_ _
    clear hS0 hS1 hS2 hrA hbx hbx2 z0 z1 c0 c2 f2 m2 ml hVa hsb hal
    simp only [hlk] at hV2 hd2 hdd
    have hO3 : Only (fun k => k = m ∨ vk.ownBlock = some k) w1 (w2.setCell ⟨m, 0, none⟩ (.slice (some ⟨g2, 0, none⟩) (ks.length + 1) cap2)) := (hOn2.mono (fun _ _ e => .inr e)).setCell (p := ⟨m, 0, none⟩) (fun _ => .inl rfl) _
    generalize hW3 : w2.setCell ⟨m, 0, none⟩ (.slice (some ⟨g2, 0, none⟩) (ks.length + 1) cap2) = W3 at *
    clear hW3 hOn2 ho2 hg2 hd2
    have hal3 : Below W3.heap.size W3 (W3.alloc (.cells #[.int .i64 v] 3)) := (Below.refl _ _).alloc (Nat.le_refl _) _
    have hVb := hV2.later hal3
    have hsb3 : BoxAt (W3.alloc (.cells #[.int .i64 v] 3)) W3.heap.size [.int .i64 v] := BoxAt.new W3 _ _
    obtain ⟨v3, w4, hrB, ho4, hg4, hd4⟩ := app_ints _ va zs [v] hVb.o1 ⟨W3.heap.size, 0, none⟩ 1 (fun j u hj => by
      rw [Addr.add_mid, Nat.zero_add]
      exact hsb3.spot j u hj) (by simp only [List.length_singleton]; omega)
    have hOn4 : Only (fun k => va.ownBlock = some k) W3 w4 := (Only.of_below (F := fun k => va.ownBlock = some k) hal3).trans (Only.of_grown hg4 (fun k _ hk => hk)) (fun j hj hf => hf)
    have hdd4 : ∀ k, v3.ownBlock = some k → va.ownBlock = some k ∨ W3.heap.size ≤ k := fun k hk => by
      rcases hd4 with e | e
      · exact .inl (e ▸ hk)
      · right
        have := e.symm.trans hk
        injection this with this
        rw [← this]
        exact hal3.size
    have hV4 := hV2.row1 hOn4 ho4 hdd4
    have hlz : (zs ++ [v]).length = zs.length + 1 := by simp
    rw [hlz] at ho4
    rcases own_slice ho4 with ⟨-, hz⟩ | ⟨g3, cap3, rfl, -⟩
    · omega
    have c3 := hV2.c1
    have m3 := hV2.lt
    have c4 : w4.cell? ⟨m, 1, none⟩ = some va := (hOn4.cell (p := ⟨m, 1, none⟩) m3 hV2.d1).trans c3
    have f4 : w4.frozen? ⟨m, 1, none⟩ = false := (hOn4.frozen (p := ⟨m, 1, none⟩) m3 hV2.d1).trans (hV2.fz 1)
    have m4 : m < w4.heap.size := Nat.lt_of_lt_of_le m3 hOn4.size
    have hP := Lib.hid (show PostO TbRef F m (putT t key v) W (w4.setCell ⟨m, 1, none⟩ (.slice (some ⟨g3, 0, none⟩) (zs.length + 1) cap3)) from by
      refine hfin.out F _ _ _ hV4 ?_ ?_
      · have h1 : Only F W w1 := Only.of_below hbw
        have h2 : Only F W W3 := h1.trans hO3 (fun j hj e => by
          rcases e with rfl | e
          · exact (hF j).2 (.inl rfl)
          · exact (hF j).2 (.inr (.inl e)))
        have h3 : Only F W w4 := h2.trans hOn4 (fun j hj e => (hF j).2 (.inr (.inr e)))
        exact h3.setCell (p := ⟨m, 1, none⟩) (fun _ => (hF m).2 (.inl rfl)) _
      · intro k hk e
        have hk1 : k < w1.heap.size := Nat.lt_of_lt_of_le hk hbw.size
        rcases e with rfl | e | e
        · exact (hF k).2 (.inl rfl)
        · rcases hdd k e with e2 | e2
          · exact (hF k).2 (.inr (.inl e2))
          · omega
        · rcases hdd4 k e with e2 | e2
          · exact (hF k).2 (.inr (.inr e2))
          · have := hO3.size; omega)
    clear hfin hV4 hdd hdd4 hOn4 ho4 hg4 hd4 hO3 hVb hsb3 hal3 hV2 hV1 hbw hn1 hF hKS hZS
    go_wp2_with (at_builtin; refine Lib.wpList_append_run _ rfl _ _ _ _ rfl _ _ rfl rfl _ _ hrB ?_)
    go_ret
    exact ⟨rfl, hP.out⟩
end Go.Proofs.Ytpopbdladlahjaa
