/- Stage 11: the document's Drop. No condition but the table's size. -/
import Derived.Test.YtpopbdladlahjaaRe
namespace Go.Proofs.Ytpopbdladlahjaa
open Go.RowKit Go.Sort Wm

theorem dropT_found : ∀ (t : Tbl) (k : Nat), posT t k < t.length → (dropT t k).map Prod.fst = (t.map Prod.fst).take (posT t k) ++ (t.map Prod.fst).drop (posT t k + 1) ∧ (dropT t k).map Prod.snd = (t.map Prod.snd).take (posT t k) ++ (t.map Prod.snd).drop (posT t k + 1)
  | [], _, h => absurd h (Nat.lt_irrefl 0)
  | (a, u) :: r, k, h => by
    unfold dropT posT at *
    by_cases e : a = k
    · rw [if_pos e, if_pos e]; exact ⟨rfl, rfl⟩
    · rw [if_neg e, if_neg e]
      rw [if_neg e] at h
      obtain ⟨h1, h2⟩ := dropT_found r k (by simpa using h)
      constructor
      · show a :: (dropT r k).map Prod.fst = a :: ((r.map Prod.fst).take (posT r k) ++ (r.map Prod.fst).drop (posT r k + 1))
        rw [h1]
      · show u :: (dropT r k).map Prod.snd = u :: ((r.map Prod.snd).take (posT r k) ++ (r.map Prod.snd).drop (posT r k + 1))
        rw [h2]
theorem dropT_none : ∀ (t : Tbl) (k : Nat), ¬ posT t k < t.length → dropT t k = t
  | [], _, _ => rfl
  | (a, u) :: r, k, h => by
    unfold dropT posT at *
    by_cases e : a = k
    · rw [if_pos e] at h
      exact absurd (by simp) h
    · rw [if_neg e]
      rw [if_neg e] at h
      rw [dropT_none r k (by simpa using h)]
theorem sl_to_num {g n cap i : Nat} (h1 : i ≤ cap) (W : World) : (Instr.sliceAt 27 (.slice (some ⟨g, 0, none⟩) n cap) none (some (.int .i64 ((i : Nat) : Int))) none).run Try.prog W = .ok (.slice (some ⟨g, 0, none⟩) i cap) W := by
  have y0 : (0 : Int) ≤ ((i : Nat) : Int) := by omega
  have y1 : ((i : Nat) : Int) ≤ ((cap : Nat) : Int) := by omega
  go_simp
theorem sl_from_num {g n cap i : Nat} (h1 : i + 1 ≤ n) (h2 : n ≤ cap) : ∃ a2 : Addr, (i + 1 < n → a2 = ⟨g, (i + 1) * 2, none⟩) ∧ ∀ W, (Instr.sliceAt 27 (.slice (some ⟨g, 0, none⟩) n cap) (some (.int .i64 (((i : Nat) : Int) + 1))) none none).run Try.prog W = .ok (.slice (some a2) (n - (i + 1)) (cap - (i + 1))) W := by
  have y0 : (0 : Int) ≤ ((i : Nat) : Int) + 1 := by omega
  have y1 : ((i : Nat) : Int) + 1 ≤ ((n : Nat) : Int) := by omega
  have y2 : ((n : Nat) : Int) ≤ ((cap : Nat) : Int) := by omega
  have y3 : (((i : Nat) : Int) + 1).toNat = i + 1 := by omega
  by_cases hc : cap = i + 1
  · refine ⟨⟨g, 0, none⟩, fun h => by omega, fun W => ?_⟩
    subst hc
    go_simp
  · refine ⟨⟨g, (i + 1) * 2, none⟩, fun _ => rfl, fun W => ?_⟩
    go_simp
theorem rowN_take {ks : List Nat} {i j : Nat} {u : Value} (h : (rowN (ks.take i))[j]? = some u) : (rowN ks)[j]? = some u := by
  have e : rowN ks = rowN (ks.take i) ++ rowN (ks.drop i) := by rw [← rowN_app, List.take_append_drop]
  rw [e, List.getElem?_append_left ((List.getElem?_eq_some_iff.1 h).1)]
  exact h
theorem rowN_drop {ks : List Nat} {k j : Nat} {u : Value} (hk : k ≤ ks.length) (h : (rowN (ks.drop k))[j]? = some u) : (rowN ks)[k * 2 + j]? = some u := by
  have e : rowN ks = rowN (ks.take k) ++ rowN (ks.drop k) := by rw [← rowN_app, List.take_append_drop]
  have hl : (rowN (ks.take k)).length = k * 2 := by rw [rowN_length, List.length_take, Nat.min_eq_left hk]
  rw [e, List.getElem?_append_right (by rw [hl]; omega), hl, show k * 2 + j - k * 2 = j by omega]
  exact h
/-- A new row of what stands ahead of and behind place i. -/
theorem twice_nums (W : World) (ks : List Nat) (i g cap c2 : Nat) (a2 : Addr) (hi : i < ks.length) (hn : ks.length ≤ 1000) (hcl : ∀ j u, (rowN ks)[j]? = some u → W.cell? ⟨g, j, none⟩ = some u) (hg : g < W.heap.size) (ha2 : i + 1 < ks.length → a2 = ⟨g, (i + 1) * 2, none⟩) :
    ∃ v1 w2 g3 c3 w3, (Builtin.append_ #[27, 27] 27 #[.slice (some ⟨W.heap.size, 0, none⟩) 0 0, .slice (some ⟨g, 0, none⟩) i cap]).run Try.prog ((W.alloc (.cells #[] 33)).drew) = .ok v1 w2 ∧
      (Builtin.append_ #[27, 27] 27 #[v1, .slice (some a2) (ks.length - (i + 1)) c2]).run Try.prog w2 = .ok (.slice (some ⟨g3, 0, none⟩) (ks.length - 1) c3) w3 ∧ Only (fun _ => False) W w2 ∧ Only (fun _ => False) W w3 ∧
      w3.ownsRow 0 33 2 (.slice (some ⟨g3, 0, none⟩) (ks.length - 1) c3) (ks.take i ++ ks.drop (i + 1)).length (rowN (ks.take i ++ ks.drop (i + 1))) ∧ W.heap.size ≤ g3 := by
  have hbl : Below W.heap.size W ((W.alloc (.cells #[] 33)).drew) := ((Below.refl _ _).alloc (Nat.le_refl _) _).drew
  have hown : ((W.alloc (.cells #[] 33)).drew).ownsRow 0 33 2 (.slice (some ⟨W.heap.size, 0, none⟩) 0 0) ([] : List Nat).length (rowN []) :=
    ⟨rfl, .inr ⟨W.heap.size, 0, #[], rfl, Nat.zero_le _, by show (W.heap.push _)[W.heap.size]? = _; rw [Array.getElem?_push_size], Nat.le_refl _, Nat.zero_le _, rfl, rfl⟩⟩
  have hlt : (ks.take i).length = i := by rw [List.length_take]; omega
  have hld : (ks.drop (i + 1)).length = ks.length - (i + 1) := List.length_drop
  have hsz : ((W.alloc (.cells #[] 33)).drew).heap.size = W.heap.size + 1 := by simp
  obtain ⟨v1, w2, r1, o1, g1, d1⟩ := app_nums _ (.slice (some ⟨W.heap.size, 0, none⟩) 0 0) [] (ks.take i) hown ⟨g, 0, none⟩ cap (fun j u hj => by
    rw [Addr.add_mid, Nat.zero_add, hbl.cell (p := ⟨g, j, none⟩) hg]
    exact hcl j u (rowN_take hj)) (by rw [hlt]; simp only [List.length_nil]; omega)
  rw [List.nil_append] at o1
  rw [hlt] at r1
  have hO2 : Only (fun _ => False) W w2 := (Only.of_below (F := fun _ => False) hbl).trans (Only.of_grown (F := fun k => k = W.heap.size) g1 (fun k _ hk => (Option.some.inj hk).symm)) (fun j hj hf => by omega)
  have hb1 : ∀ k, v1.ownBlock = some k → W.heap.size ≤ k := fun k hk => by
    rcases d1 with e | e
    · have : some W.heap.size = some k := e.symm.trans hk
      injection this with this
      omega
    · have := e.symm.trans hk
      injection this with this
      rw [← this, hsz]
      omega
  obtain ⟨v3, w3, r3, o3, g3, d3⟩ := app_nums w2 v1 (ks.take i) (ks.drop (i + 1)) o1 a2 c2 (fun j u hj => by
    by_cases hlast : i + 1 < ks.length
    · rw [ha2 hlast, Addr.add_mid, hO2.cell (p := ⟨g, (i + 1) * 2 + j, none⟩) hg (fun e => e)]
      exact hcl _ u (rowN_drop (by omega) hj)
    · rw [List.drop_eq_nil_of_le (by omega)] at hj
      simp [rowN] at hj) (by rw [hlt, hld]; omega)
  rw [hld] at r3
  have hO3 : Only (fun _ => False) W w3 := hO2.trans (Only.of_grown (F := fun k => W.heap.size ≤ k) g3 (fun k _ hk => hb1 k hk)) (fun j hj hf => by omega)
  have hb3 : ∀ k, v3.ownBlock = some k → W.heap.size ≤ k := fun k hk => by
    rcases d3 with e | e
    · exact hb1 k (e.symm.trans hk)
    · have := e.symm.trans hk
      injection this with this
      rw [← this]
      exact hO2.size
  have hsome : v3.ownBlock ≠ none := by
    rcases d3 with e | e
    · rw [e]
      rcases d1 with e1 | e1
      · rw [e1]; exact fun h => by cases h
      · rw [e1]; exact fun h => by cases h
    · rw [e]; exact fun h => by cases h
  have hl3 : (ks.take i ++ ks.drop (i + 1)).length = ks.length - 1 := by rw [List.length_append, hlt, hld]; omega
  have o4 := o3
  rw [hl3] at o4
  rcases own_slice o4 with ⟨e, -⟩ | ⟨gg, cc, rfl, -⟩
  · rw [e] at hsome; exact absurd rfl hsome
  · exact ⟨v1, w2, gg, cc, w3, r1, r3, hO2, hO3, o3, hb3 gg rfl⟩
set_option maxRecDepth 100000 in
set_option maxHeartbeats 2000000 in
theorem refdrop_none {F : Nat → Prop} {W : World} {m : Nat} {t : Tbl} (h : TbRef F W m t) (hlen : t.length ≤ 1000) (key : Nat) (hp : ¬ posT t key < t.length) :
    Calls Try.prog 15 #[.pointer (some ⟨m, 0, none⟩), numV key] W fun e W' => e = .returned (.bool false) ∧ PostO TbRef F m t W W' := by
  have h0 := id h
  obtain ⟨vk, va, hV, hF⟩ := h
  have hw0 : Below W.heap.size W (W.alloc (.cells #[.int .u64 ((hiN key : Nat) : Int), .int .u64 ((loN key : Nat) : Int)] 33)) := (Below.refl _ _).alloc (Nat.le_refl _) _
  have hbx := BoxAt.new W [.int .u64 ((hiN key : Nat) : Int), .int .u64 ((loN key : Nat) : Int)] 33
  have hat := Lib.hid (refat_any (hV.later hw0) hlen key)
  have hi : idxT t key = -1 := by unfold idxT; rw [if_neg hp]
  rw [hi] at hat
  have hfin := Lib.hid (fun w2 (hb : Below W.heap.size W w2) => show PostO TbRef F m t W w2 from ⟨F, tbRef_kind.later h0 hb, Only.of_below hb, fun _ _ e => e⟩)
  have z0 := hbx.spot 0 _ rfl
  have z1 := hbx.spot 1 _ rfl
  have zl := hbx.lt
  clear hV hF hbx h0 hi hp hlen
  go_enter Try.func15, Try.ntmps15
  generalize hw0e : W.alloc (.cells #[.int .u64 ((hiN key : Nat) : Int), .int .u64 ((loN key : Nat) : Int)] 33) = W0 at *
  go_wp2_with fail
  refine hat.out.mono ?_
  rintro e w1 ⟨rfl, hb⟩
  have hP := Lib.hid (hfin.out _ (hw0.trans (hb.mono hw0.size)))
  clear hfin hat z0 z1 zl hb
  go_wp2
  go_ret
  exact ⟨rfl, hP.out⟩
set_option maxRecDepth 100000 in
set_option maxHeartbeats 2000000 in
theorem refdrop_some {F : Nat → Prop} {W : World} {m : Nat} {t : Tbl} (h : TbRef F W m t) (hlen : t.length ≤ 1000) (key : Nat) (hp : posT t key < t.length) :
    Calls Try.prog 15 #[.pointer (some ⟨m, 0, none⟩), numV key] W fun e W' => e = .returned (.bool true) ∧ PostO TbRef F m (dropT t key) W W' := by
  obtain ⟨vk, va, hV, hF⟩ := h
  have hw0 : Below W.heap.size W (W.alloc (.cells #[.int .u64 ((hiN key : Nat) : Int), .int .u64 ((loN key : Nat) : Int)] 33)) := (Below.refl _ _).alloc (Nat.le_refl _) _
  have hbx := BoxAt.new W [.int .u64 ((hiN key : Nat) : Int), .int .u64 ((loN key : Nat) : Int)] 33
  have hV0 := hV.later hw0
  have hat := Lib.hid (refat_any hV0 hlen key)
  obtain ⟨e1, e2⟩ := dropT_found t key hp
  have hi : idxT t key = ((posT t key : Nat) : Int) := by unfold idxT; rw [if_pos hp]
  rw [hi] at hat
  have hks : (t.map Prod.fst).length = t.length := List.length_map ..
  have hzs : (t.map Prod.snd).length = t.length := List.length_map ..
  generalize hKS : t.map Prod.fst = ks at *
  generalize hZS : t.map Prod.snd = zs at *
  generalize posT t key = i at *
  have hfin := Lib.hid (fun (W2 : World) (vk2 va2 : Value) (hv : TbV W2 m (ks.take i ++ ks.drop (i + 1)) (zs.take i ++ zs.drop (i + 1)) vk2 va2) (hO : Only F W W2) (hF2 : ∀ k, k < W.heap.size → footT m vk2 va2 k → F k) =>
    show PostO TbRef F m (dropT t key) W W2 from ⟨footT m vk2 va2, ⟨vk2, va2, by rw [e1, e2]; exact hv, fun _ => Iff.rfl⟩, hO, hF2⟩)
  generalize t.length = n at *
  have z0 := hbx.spot 0 _ rfl
  have z1 := hbx.spot 1 _ rfl
  have zl := hbx.lt
  clear e1 e2 hi hV
  -- THE WALK
  have n1 : ¬ ((i : Nat) : Int) < 0 := by omega
  have n1b : decide (((i : Nat) : Int) < 0) = false := decide_eq_false n1
  rcases own_slice hV0.o0 with ⟨-, hz⟩ | ⟨g, cap, rfl, hg, hcap, hcl, hfz⟩
  · omega
  rcases own_slice hV0.o1 with ⟨-, hz⟩ | ⟨gz, capz, rfl, hgz, hcapz, hclz, hfzz⟩
  · omega
  rw [hks] at hV0 hcap
  rw [hzs] at hV0 hcapz
  simp only [hks, hzs] at hF
  have hs1 := fun W => sl_to_num (g := g) (n := n) (cap := cap) (i := i) (by omega) W
  obtain ⟨a2, ha2, hs2⟩ := sl_from_num (g := g) (n := n) (cap := cap) (i := i) (by omega) hcap
  have hs3 := fun W => sl_to_int (g := gz) (n := n) (cap := capz) (i := i) (by omega) W
  obtain ⟨b2, hb2, hs4⟩ := sl_from_int (g := gz) (n := n) (cap := capz) (i := i) (by omega) hcapz
  have x5 : IntKind.i64.wrap (((i : Nat) : Int) + 1) = ((i : Nat) : Int) + 1 := by rw [IntKind.wrap_i64]; omega
  replace hcl := Lib.hid hcl
  replace hclz := Lib.hid hclz
  clear hfz hfzz
  go_enter Try.func15, Try.ntmps15
  generalize hw0e : W.alloc (.cells #[.int .u64 ((hiN key : Nat) : Int), .int .u64 ((loN key : Nat) : Int)] 33) = W0 at *
  go_wp2_with fail
  refine hat.out.mono ?_
  rintro e w1 ⟨rfl, hb⟩
  have hV1 := hV0.later hb
  have hbw := hw0.trans (hb.mono hw0.size)
  have hcl1 : ∀ j u, (rowN ks)[j]? = some u → w1.cell? ⟨g, j, none⟩ = some u := fun j u h => (hb.cell (p := ⟨g, j, none⟩) hg).trans (hcl.out j u h)
  have hcz1 : ∀ j u, (rowZ zs)[j]? = some u → w1.cell? ⟨gz, j, none⟩ = some u := fun j u h => (hb.cell (p := ⟨gz, j, none⟩) hgz).trans (hclz.out j u h)
  have hg1 := Nat.lt_of_lt_of_le hg hb.size
  have hgz1 := Nat.lt_of_lt_of_le hgz hb.size
  have ml := hV1.lt
  have hdz : gz ≠ m := fun e => hV1.d1 (by rw [e]; rfl)
  replace hcl1 := Lib.hid hcl1
  replace hcz1 := Lib.hid hcz1
  clear hat z0 z1 zl hV0 hb hcl hclz hg hgz
  obtain ⟨v10, w20, g30, c30, w30, rA0, rB0, hO20, hO30, ho30, hg30⟩ := twice_nums w1 ks i g cap (cap - (i + 1)) a2 (by omega) (by omega) hcl1.out hg1 (fun h => ha2 (by omega))
  rw [hks] at rB0 ho30
  have hbl0 : Below w1.heap.size w1 ((w1.alloc (.cells #[] 33)).drew) := ((Below.refl _ _).alloc (Nat.le_refl _) _).drew
  have hV0n := hV1.row0 (W' := w30) (hO30.mono (fun _ _ e => e.elim)) ho30 (fun k hk => .inr (by have : some g30 = some k := hk; injection this with this; omega))
  have hSa0 : w1.drew.cell? ⟨m, 0, none⟩ = some (.slice (some ⟨g, 0, none⟩) n cap) := hV1.c0
  have hSb0 : ((w1.alloc (.cells #[] 33)).drew).cell? ⟨m, 0, none⟩ = some (.slice (some ⟨g, 0, none⟩) n cap) := (hbl0.cell (p := ⟨m, 0, none⟩) hV1.lt).trans hV1.c0
  have hSc0 : w20.cell? ⟨m, 0, none⟩ = some (.slice (some ⟨g, 0, none⟩) n cap) := (hO20.cell (p := ⟨m, 0, none⟩) hV1.lt (fun e => e)).trans hV1.c0
  have hSd0 : w30.cell? ⟨m, 0, none⟩ = some (.slice (some ⟨g, 0, none⟩) n cap) := (hO30.cell (p := ⟨m, 0, none⟩) hV1.lt (fun e => e)).trans hV1.c0
  have fz0 : w30.frozen? ⟨m, 0, none⟩ = false := (hO30.frozen (p := ⟨m, 0, none⟩) hV1.lt (fun e => e)).trans (hV1.fz 0)
  have m30 : m < w30.heap.size := Nat.lt_of_lt_of_le hV1.lt hO30.size
  go_wp2_with fail
  refine wp_region_need (fun w' => w'.cell? ⟨m, 0, none⟩ = some (.slice (some ⟨g, 0, none⟩) n cap)) [0, 2, 3, 4, 5, 6, 7, 9, 10, 11, 12, 13, 14, 15] (by kernel_rfl) ?_
  refine need_takeL (i := 0) (v := ?cv203) rfl rfl (by kernel_rfl) (by kernel_rfl) (by kernel_rfl) (fun _ _ _ h => h) (Or.inl ⟨by rfl, ?ch203⟩) hSa0 ?cr203
  case ch203 => (intro w' hSw; (try dsimp only at hSw); go_simp; first | done | with_reducible rfl)
  try simp only [Act.put, List.setIfInBounds_toArray, List.set_cons_zero, List.set_cons_succ]
  refine need_takeL (i := 2) (v := ?cv206) rfl rfl (by kernel_rfl) (by kernel_rfl) (by kernel_rfl) (fun _ _ _ h => h) (Or.inl ⟨by rfl, ?ch206⟩) hSa0 ?cr206
  case ch206 => (intro w' hSw; (try dsimp only at hSw); go_simp; first | done | with_reducible rfl)
  try simp only [Act.put, List.setIfInBounds_toArray, List.set_cons_zero, List.set_cons_succ]
  refine need_takeL (i := 3) (v := ?cv209) rfl rfl (by kernel_rfl) (by kernel_rfl) (by kernel_rfl) (fun _ _ _ h => h) (Or.inl ⟨by rfl, ?ch209⟩) hSa0 ?cr209
  case ch209 => (intro w' hSw; (try dsimp only at hSw); go_simp; first | done | with_reducible rfl)
  try simp only [Act.put, List.setIfInBounds_toArray, List.set_cons_zero, List.set_cons_succ]
  refine need_takeL (i := 4) (v := ?cv212) rfl rfl (by kernel_rfl) (by kernel_rfl) (by kernel_rfl) (fun _ _ _ h => h) (Or.inl ⟨by rfl, ?ch212⟩) hSa0 ?cr212
  case ch212 => (intro w' hSw; (try dsimp only at hSw); go_simp; first | done | with_reducible rfl)
  try simp only [Act.put, List.setIfInBounds_toArray, List.set_cons_zero, List.set_cons_succ]
  refine need_takeL (i := 5) (v := ?cv215) rfl rfl (by kernel_rfl) (by kernel_rfl) (by kernel_rfl) (fun _ _ _ h => h) (Or.inl ⟨by rfl, ?ch215⟩) hSa0 ?cr215
  case ch215 => (intro w' hSw; (try dsimp only at hSw); go_simp; first | done | with_reducible rfl)
  try simp only [Act.put, List.setIfInBounds_toArray, List.set_cons_zero, List.set_cons_succ]
  refine need_takeL (i := 6) (v := ?cv218) rfl rfl (by kernel_rfl) (by kernel_rfl) (by kernel_rfl) (fun _ _ _ h => h) (Or.inl ⟨by rfl, ?ch218⟩) hSa0 ?cr218
  case ch218 => (intro w' hSw; (try dsimp only at hSw); go_simp; first | done | with_reducible rfl)
  try simp only [Act.put, List.setIfInBounds_toArray, List.set_cons_zero, List.set_cons_succ]
  refine need_takeL (i := 7) (v := ?cv221) rfl rfl (by kernel_rfl) (by kernel_rfl) (by kernel_rfl) (fun _ _ _ h => h) (Or.inl ⟨by rfl, ?ch221⟩) hSa0 ?cr221
  case ch221 => (intro w' hSw; (try dsimp only at hSw); go_simp; first | done | with_reducible rfl)
  try simp only [Act.put, List.setIfInBounds_toArray, List.set_cons_zero, List.set_cons_succ]
  refine need_takeL (i := 9) (v := ?cv224) rfl rfl (by kernel_rfl) (by kernel_rfl) (by kernel_rfl) (fun _ _ _ h => h) (Or.inl ⟨by rfl, ?ch224⟩) hSa0 ?cr224
  case ch224 => (intro w' hSw; (try dsimp only at hSw); go_simp; first | done | with_reducible rfl)
  try simp only [Act.put, List.setIfInBounds_toArray, List.set_cons_zero, List.set_cons_succ]
  refine need_takeL (i := 10) (v := ?cv227) rfl rfl (by kernel_rfl) (by kernel_rfl) (by kernel_rfl) (fun _ _ _ h => h) (Or.inl ⟨by rfl, ?ch227⟩) hSa0 ?cr227
  case ch227 => (intro w' hSw; (try dsimp only at hSw); go_simp; first | done | with_reducible rfl)
  try simp only [Act.put, List.setIfInBounds_toArray, List.set_cons_zero, List.set_cons_succ]
  refine need_takeL (i := 11) (v := ?cv230) rfl rfl (by kernel_rfl) (by kernel_rfl) (by kernel_rfl) (fun _ _ _ h => h) (Or.inl ⟨by rfl, ?ch230⟩) hSa0 ?cr230
  case ch230 => (intro w' hSw; (try dsimp only at hSw); go_simp; first | done | with_reducible rfl)
  try simp only [Act.put, List.setIfInBounds_toArray, List.set_cons_zero, List.set_cons_succ]
  refine need_takeL (i := 12) (v := ?cv233) rfl rfl (by kernel_rfl) (by kernel_rfl) (by kernel_rfl) (fun _ _ _ h => h) (Or.inl ⟨by rfl, ?ch233⟩) hSa0 ?cr233
  case ch233 => (intro w' hSw; (try dsimp only at hSw); go_simp; first | done | with_reducible rfl)
  try simp only [Act.put, List.setIfInBounds_toArray, List.set_cons_zero, List.set_cons_succ]
  refine need_takeL (i := 13) (v := ?cv236) rfl rfl (by kernel_rfl) (by kernel_rfl) (by kernel_rfl) (fun _ _ _ h => h) (Or.inl ⟨by rfl, ?ch236⟩) hSa0 ?cr236
  case ch236 => (intro w' hSw; (try dsimp only at hSw); go_simp; first | done | with_reducible rfl)
  try simp only [Act.put, List.setIfInBounds_toArray, List.set_cons_zero, List.set_cons_succ]
  refine need_takeL (i := 14) (v := ?cv239) rfl rfl (by kernel_rfl) (by kernel_rfl) (by kernel_rfl) (fun _ _ _ h => h) (Or.inl ⟨by rfl, ?ch239⟩) hSa0 ?cr239
  case ch239 => (intro w' hSw; (try dsimp only at hSw); go_simp; first | done | with_reducible rfl)
  try simp only [Act.put, List.setIfInBounds_toArray, List.set_cons_zero, List.set_cons_succ]
  refine need_takeL (i := 15) (v := ?cv242) rfl rfl (by kernel_rfl) (by kernel_rfl) (by kernel_rfl) (fun _ _ _ h => h) (Or.inl ⟨by rfl, ?ch242⟩) hSa0 ?cr242
  case ch242 => (intro w' hSw; (try dsimp only at hSw); go_simp; first | done | with_reducible rfl)
  try simp only [Act.put, List.setIfInBounds_toArray, List.set_cons_zero, List.set_cons_succ]
  refine need_turnL (i := 1) rfl (by kernel_rfl) (by rfl) (fun K' hK' => ?_)
  go_simp
  refine hK' _ _ (fun _ => hSb0) ?_
  clear hK' K'
  try simp only [Act.put, List.setIfInBounds_toArray, List.set_cons_zero, List.set_cons_succ]
  refine need_turnL (i := 8) rfl (by kernel_rfl) (by rfl) (fun K' hK' => ?_)
  refine Lib.wp_append_run _ _ _ _ _ rfl _ _ rfl rfl _ _ rA0 ?_
  refine hK' _ _ (fun _ => hSc0) ?_
  clear hK' K'
  try simp only [Act.put, List.setIfInBounds_toArray, List.set_cons_zero, List.set_cons_succ]
  refine need_turnL (i := 16) rfl (by kernel_rfl) (by rfl) (fun K' hK' => ?_)
  refine Lib.wp_append_run _ _ _ _ _ rfl _ _ rfl rfl _ _ rB0 ?_
  refine hK' _ _ (fun _ => hSd0) ?_
  clear hK' K'
  try simp only [Act.put, List.setIfInBounds_toArray, List.set_cons_zero, List.set_cons_succ]
  refine need_turnL (i := 17) rfl (by kernel_rfl) (by rfl) (fun K' hK' => ?_)
  go_simp
  refine hK' _ _ (fun _ => hSd0) ?_
  clear hK' K'
  try simp only [Act.put, List.setIfInBounds_toArray, List.set_cons_zero, List.set_cons_succ]
  refine need_turnL (i := 18) rfl (by kernel_rfl) (by rfl) (fun K' hK' => ?_)
  go_simp
  refine hK' _ _ (fun _ => hSd0) ?_
  clear hK' K'
  try simp only [Act.put, List.setIfInBounds_toArray, List.set_cons_zero, List.set_cons_succ]
  refine need_turnL (i := 19) rfl (by kernel_rfl) (by rfl) (fun K' hK' => ?_)
  go_simp
  refine hK' _ _ (fun h => spared (by kernel_rfl) h) ?_
  clear hK' K'
  try simp only [Act.put, List.setIfInBounds_toArray, List.set_cons_zero, List.set_cons_succ]
  refine need_done (by kernel_rfl) ?_ _
  have hOm0 : Only (fun k => k = m) w1 (w30.setCell ⟨m, 0, none⟩ (.slice (some ⟨g30, 0, none⟩) (n - 1) c30)) := Only.setCell (F := fun k => k = m) (p := ⟨m, 0, none⟩) (hO30.mono (fun _ _ e => e.elim)) (fun _ => rfl) _
  generalize hWn0 : w30.setCell ⟨m, 0, none⟩ (.slice (some ⟨g30, 0, none⟩) (n - 1) c30) = Wn0 at *
  clear hWn0 rA0 rB0 hO20 hO30 ho30 hSa0 hSb0 hSc0 hSd0 fz0 m30 hbl0
  have hcz2 : ∀ j u, (rowZ zs)[j]? = some u → Wn0.cell? ⟨gz, j, none⟩ = some u := fun j u h => (hOm0.cell (p := ⟨gz, j, none⟩) hgz1 hdz).trans (hcz1.out j u h)
  have hgz2 := Nat.lt_of_lt_of_le hgz1 hOm0.size
  replace hcz2 := Lib.hid hcz2
  clear hcz1 hcl1
  obtain ⟨v11, w21, g31, c31, w31, rA1, rB1, hO21, hO31, ho31, hg31⟩ := twice_ints Wn0 zs i gz capz (capz - (i + 1)) b2 (by omega) (by omega) hcz2.out hgz2 (fun h => hb2 (by omega))
  rw [hzs] at rB1 ho31
  have hbl1 : Below Wn0.heap.size Wn0 ((Wn0.alloc (.cells #[] 3)).drew) := ((Below.refl _ _).alloc (Nat.le_refl _) _).drew
  have hV1n := hV0n.row1 (W' := w31) (hO31.mono (fun _ _ e => e.elim)) ho31 (fun k hk => .inr (by have : some g31 = some k := hk; injection this with this; omega))
  have hSa1 : Wn0.drew.cell? ⟨m, 1, none⟩ = some (.slice (some ⟨gz, 0, none⟩) n capz) := hV0n.c1
  have hSb1 : ((Wn0.alloc (.cells #[] 3)).drew).cell? ⟨m, 1, none⟩ = some (.slice (some ⟨gz, 0, none⟩) n capz) := (hbl1.cell (p := ⟨m, 1, none⟩) hV0n.lt).trans hV0n.c1
  have hSc1 : w21.cell? ⟨m, 1, none⟩ = some (.slice (some ⟨gz, 0, none⟩) n capz) := (hO21.cell (p := ⟨m, 1, none⟩) hV0n.lt (fun e => e)).trans hV0n.c1
  have hSd1 : w31.cell? ⟨m, 1, none⟩ = some (.slice (some ⟨gz, 0, none⟩) n capz) := (hO31.cell (p := ⟨m, 1, none⟩) hV0n.lt (fun e => e)).trans hV0n.c1
  have fz1 : w31.frozen? ⟨m, 1, none⟩ = false := (hO31.frozen (p := ⟨m, 1, none⟩) hV0n.lt (fun e => e)).trans (hV0n.fz 1)
  have m31 : m < w31.heap.size := Nat.lt_of_lt_of_le hV0n.lt hO31.size
  go_wp2_with fail
  refine wp_region_need (fun w' => w'.cell? ⟨m, 1, none⟩ = some (.slice (some ⟨gz, 0, none⟩) n capz)) [0, 2, 3, 4, 5, 6, 7, 9, 10, 11, 12, 13, 14, 15] (by kernel_rfl) ?_
  refine need_takeL (i := 0) (v := ?cv295) rfl rfl (by kernel_rfl) (by kernel_rfl) (by kernel_rfl) (fun _ _ _ h => h) (Or.inl ⟨by rfl, ?ch295⟩) hSa1 ?cr295
  case ch295 => (intro w' hSw; (try dsimp only at hSw); go_simp; first | done | with_reducible rfl)
  try simp only [Act.put, List.setIfInBounds_toArray, List.set_cons_zero, List.set_cons_succ]
  refine need_takeL (i := 2) (v := ?cv298) rfl rfl (by kernel_rfl) (by kernel_rfl) (by kernel_rfl) (fun _ _ _ h => h) (Or.inl ⟨by rfl, ?ch298⟩) hSa1 ?cr298
  case ch298 => (intro w' hSw; (try dsimp only at hSw); go_simp; first | done | with_reducible rfl)
  try simp only [Act.put, List.setIfInBounds_toArray, List.set_cons_zero, List.set_cons_succ]
  refine need_takeL (i := 3) (v := ?cv301) rfl rfl (by kernel_rfl) (by kernel_rfl) (by kernel_rfl) (fun _ _ _ h => h) (Or.inl ⟨by rfl, ?ch301⟩) hSa1 ?cr301
  case ch301 => (intro w' hSw; (try dsimp only at hSw); go_simp; first | done | with_reducible rfl)
  try simp only [Act.put, List.setIfInBounds_toArray, List.set_cons_zero, List.set_cons_succ]
  refine need_takeL (i := 4) (v := ?cv304) rfl rfl (by kernel_rfl) (by kernel_rfl) (by kernel_rfl) (fun _ _ _ h => h) (Or.inl ⟨by rfl, ?ch304⟩) hSa1 ?cr304
  case ch304 => (intro w' hSw; (try dsimp only at hSw); go_simp; first | done | with_reducible rfl)
  try simp only [Act.put, List.setIfInBounds_toArray, List.set_cons_zero, List.set_cons_succ]
  refine need_takeL (i := 5) (v := ?cv307) rfl rfl (by kernel_rfl) (by kernel_rfl) (by kernel_rfl) (fun _ _ _ h => h) (Or.inl ⟨by rfl, ?ch307⟩) hSa1 ?cr307
  case ch307 => (intro w' hSw; (try dsimp only at hSw); go_simp; first | done | with_reducible rfl)
  try simp only [Act.put, List.setIfInBounds_toArray, List.set_cons_zero, List.set_cons_succ]
  refine need_takeL (i := 6) (v := ?cv310) rfl rfl (by kernel_rfl) (by kernel_rfl) (by kernel_rfl) (fun _ _ _ h => h) (Or.inl ⟨by rfl, ?ch310⟩) hSa1 ?cr310
  case ch310 => (intro w' hSw; (try dsimp only at hSw); go_simp; first | done | with_reducible rfl)
  try simp only [Act.put, List.setIfInBounds_toArray, List.set_cons_zero, List.set_cons_succ]
  refine need_takeL (i := 7) (v := ?cv313) rfl rfl (by kernel_rfl) (by kernel_rfl) (by kernel_rfl) (fun _ _ _ h => h) (Or.inl ⟨by rfl, ?ch313⟩) hSa1 ?cr313
  case ch313 => (intro w' hSw; (try dsimp only at hSw); go_simp; first | done | with_reducible rfl)
  try simp only [Act.put, List.setIfInBounds_toArray, List.set_cons_zero, List.set_cons_succ]
  refine need_takeL (i := 9) (v := ?cv316) rfl rfl (by kernel_rfl) (by kernel_rfl) (by kernel_rfl) (fun _ _ _ h => h) (Or.inl ⟨by rfl, ?ch316⟩) hSa1 ?cr316
  case ch316 => (intro w' hSw; (try dsimp only at hSw); go_simp; first | done | with_reducible rfl)
  try simp only [Act.put, List.setIfInBounds_toArray, List.set_cons_zero, List.set_cons_succ]
  refine need_takeL (i := 10) (v := ?cv319) rfl rfl (by kernel_rfl) (by kernel_rfl) (by kernel_rfl) (fun _ _ _ h => h) (Or.inl ⟨by rfl, ?ch319⟩) hSa1 ?cr319
  case ch319 => (intro w' hSw; (try dsimp only at hSw); go_simp; first | done | with_reducible rfl)
  try simp only [Act.put, List.setIfInBounds_toArray, List.set_cons_zero, List.set_cons_succ]
  refine need_takeL (i := 11) (v := ?cv322) rfl rfl (by kernel_rfl) (by kernel_rfl) (by kernel_rfl) (fun _ _ _ h => h) (Or.inl ⟨by rfl, ?ch322⟩) hSa1 ?cr322
  case ch322 => (intro w' hSw; (try dsimp only at hSw); go_simp; first | done | with_reducible rfl)
  try simp only [Act.put, List.setIfInBounds_toArray, List.set_cons_zero, List.set_cons_succ]
  refine need_takeL (i := 12) (v := ?cv325) rfl rfl (by kernel_rfl) (by kernel_rfl) (by kernel_rfl) (fun _ _ _ h => h) (Or.inl ⟨by rfl, ?ch325⟩) hSa1 ?cr325
  case ch325 => (intro w' hSw; (try dsimp only at hSw); go_simp; first | done | with_reducible rfl)
  try simp only [Act.put, List.setIfInBounds_toArray, List.set_cons_zero, List.set_cons_succ]
  refine need_takeL (i := 13) (v := ?cv328) rfl rfl (by kernel_rfl) (by kernel_rfl) (by kernel_rfl) (fun _ _ _ h => h) (Or.inl ⟨by rfl, ?ch328⟩) hSa1 ?cr328
  case ch328 => (intro w' hSw; (try dsimp only at hSw); go_simp; first | done | with_reducible rfl)
  try simp only [Act.put, List.setIfInBounds_toArray, List.set_cons_zero, List.set_cons_succ]
  refine need_takeL (i := 14) (v := ?cv331) rfl rfl (by kernel_rfl) (by kernel_rfl) (by kernel_rfl) (fun _ _ _ h => h) (Or.inl ⟨by rfl, ?ch331⟩) hSa1 ?cr331
  case ch331 => (intro w' hSw; (try dsimp only at hSw); go_simp; first | done | with_reducible rfl)
  try simp only [Act.put, List.setIfInBounds_toArray, List.set_cons_zero, List.set_cons_succ]
  refine need_takeL (i := 15) (v := ?cv334) rfl rfl (by kernel_rfl) (by kernel_rfl) (by kernel_rfl) (fun _ _ _ h => h) (Or.inl ⟨by rfl, ?ch334⟩) hSa1 ?cr334
  case ch334 => (intro w' hSw; (try dsimp only at hSw); go_simp; first | done | with_reducible rfl)
  try simp only [Act.put, List.setIfInBounds_toArray, List.set_cons_zero, List.set_cons_succ]
  refine need_turnL (i := 1) rfl (by kernel_rfl) (by rfl) (fun K' hK' => ?_)
  go_simp
  refine hK' _ _ (fun _ => hSb1) ?_
  clear hK' K'
  try simp only [Act.put, List.setIfInBounds_toArray, List.set_cons_zero, List.set_cons_succ]
  refine need_turnL (i := 8) rfl (by kernel_rfl) (by rfl) (fun K' hK' => ?_)
  refine Lib.wp_append_run _ _ _ _ _ rfl _ _ rfl rfl _ _ rA1 ?_
  refine hK' _ _ (fun _ => hSc1) ?_
  clear hK' K'
  try simp only [Act.put, List.setIfInBounds_toArray, List.set_cons_zero, List.set_cons_succ]
  refine need_turnL (i := 16) rfl (by kernel_rfl) (by rfl) (fun K' hK' => ?_)
  refine Lib.wp_append_run _ _ _ _ _ rfl _ _ rfl rfl _ _ rB1 ?_
  refine hK' _ _ (fun _ => hSd1) ?_
  clear hK' K'
  try simp only [Act.put, List.setIfInBounds_toArray, List.set_cons_zero, List.set_cons_succ]
  refine need_turnL (i := 17) rfl (by kernel_rfl) (by rfl) (fun K' hK' => ?_)
  go_simp
  refine hK' _ _ (fun _ => hSd1) ?_
  clear hK' K'
  try simp only [Act.put, List.setIfInBounds_toArray, List.set_cons_zero, List.set_cons_succ]
  refine need_turnL (i := 18) rfl (by kernel_rfl) (by rfl) (fun K' hK' => ?_)
  go_simp
  refine hK' _ _ (fun _ => hSd1) ?_
  clear hK' K'
  try simp only [Act.put, List.setIfInBounds_toArray, List.set_cons_zero, List.set_cons_succ]
  refine need_turnL (i := 19) rfl (by kernel_rfl) (by rfl) (fun K' hK' => ?_)
  go_simp
  refine hK' _ _ (fun h => spared (by kernel_rfl) h) ?_
  clear hK' K'
  try simp only [Act.put, List.setIfInBounds_toArray, List.set_cons_zero, List.set_cons_succ]
  refine need_done (by kernel_rfl) ?_ _
  have hOm1 : Only (fun k => k = m) Wn0 (w31.setCell ⟨m, 1, none⟩ (.slice (some ⟨g31, 0, none⟩) (n - 1) c31)) := Only.setCell (F := fun k => k = m) (p := ⟨m, 1, none⟩) (hO31.mono (fun _ _ e => e.elim)) (fun _ => rfl) _
  generalize hWn1 : w31.setCell ⟨m, 1, none⟩ (.slice (some ⟨g31, 0, none⟩) (n - 1) c31) = Wn1 at *
  clear hWn1 rA1 rB1 hO21 hO31 ho31 hSa1 hSb1 hSc1 hSd1 fz1 m31 hbl1
  have hP := Lib.hid (show PostO TbRef F m (dropT t key) W Wn1 from by
    refine hfin.out _ _ _ hV1n ?_ ?_
    · have h1 : Only F W w1 := Only.of_below hbw
      have h2 : Only F W Wn0 := h1.trans hOm0 (fun j hj e => (hF j).2 (.inl e))
      exact h2.trans hOm1 (fun j hj e => (hF j).2 (.inl e))
    · intro k hk e
      have hs1 := hbw.size
      have hs2 := hOm0.size
      rcases e with e | e | e
      · exact (hF k).2 (.inl e)
      · have : some g30 = some k := e
        injection this with this
        omega
      · have : some g31 = some k := e
        injection this with this
        omega)
  clear hfin hV1n hV0n hV1 hOm0 hOm1 hbw hF hcz2 hKS hZS
  go_wp2
  go_ret
  exact ⟨rfl, hP.out⟩
theorem refdrop_any {F : Nat → Prop} {W : World} {m : Nat} {t : Tbl} (h : TbRef F W m t) (hlen : t.length ≤ 1000) (key : Nat) :
    Calls Try.prog 15 #[.pointer (some ⟨m, 0, none⟩), numV key] W fun e W' => e = .returned (.bool (getT t key).isSome) ∧ PostO TbRef F m (dropT t key) W W' := by
  rw [getT_isSome]
  by_cases hp : posT t key < t.length
  · rw [decide_eq_true hp]; exact refdrop_some h hlen key hp
  · rw [decide_eq_false hp, dropT_none t key hp]; exact refdrop_none h hlen key hp
end Go.Proofs.Ytpopbdladlahjaa
