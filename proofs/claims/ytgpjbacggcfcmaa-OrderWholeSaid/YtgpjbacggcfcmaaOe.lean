/- Stage 12: the document's Drop. No condition but the list's size. -/
import Derived.Test.YtgpjbacggcfcmaaOc
namespace Go.Proofs.Ytgpjbacggcfcmaa
open Go.RowKit Wm

set_option maxRecDepth 100000 in
set_option maxHeartbeats 2000000 in
theorem lsdrop_none {F : Nat → Prop} {W : World} {m : Nat} {t : Zbl} (h : LsRef F W m t) (hlen : t.length ≤ 1000) (key : Int) (hp : ¬ posZ t key < t.length) :
    Calls Try.prog 17 #[.pointer (some ⟨m, 0, none⟩), .int .i64 key] W fun e W' => e = .returned (.bool false) ∧ PostO LsRef F m t W W' := by
  have hP := Lib.hid (show PostO LsRef F m t W W from ⟨F, h, Only.refl _ _, fun _ _ e => e⟩)
  obtain ⟨vk, va, hV, hF⟩ := h
  have hat := Lib.hid (lsat_any hV hlen key)
  have hi : idxZ t key = -1 := by unfold idxZ; rw [if_neg hp]
  rw [hi] at hat
  clear hV hF hi hp hlen
  go_enter Try.func17, Try.ntmps17
  go_wp2_with fail
  refine hat.out.mono ?_
  rintro e w1 ⟨rfl, rfl⟩
  go_wp2
  go_ret
  exact ⟨rfl, hP.out⟩
set_option maxRecDepth 100000 in
set_option maxHeartbeats 2000000 in
theorem lsdrop_some {F : Nat → Prop} {W : World} {m : Nat} {t : Zbl} (h : LsRef F W m t) (hlen : t.length ≤ 1000) (key : Int) (hp : posZ t key < t.length) :
    Calls Try.prog 17 #[.pointer (some ⟨m, 0, none⟩), .int .i64 key] W fun e W' => e = .returned (.bool true) ∧ PostO LsRef F m (dropZ t key) W W' := by
  obtain ⟨vk, va, hV, hF⟩ := h
  have hat := Lib.hid (lsat_any hV hlen key)
  obtain ⟨e1, e2⟩ := dropZ_found t key hp
  have hi : idxZ t key = ((posZ t key : Nat) : Int) := by unfold idxZ; rw [if_pos hp]
  rw [hi] at hat
  have hks : (t.map Prod.fst).length = t.length := List.length_map ..
  have hzs : (t.map Prod.snd).length = t.length := List.length_map ..
  generalize hKS : t.map Prod.fst = ks at *
  generalize hZS : t.map Prod.snd = zs at *
  generalize posZ t key = i at *
  have hfin := Lib.hid (fun (W2 : World) (vk2 va2 : Value) (hv : LsV W2 m (ks.take i ++ ks.drop (i + 1)) (zs.take i ++ zs.drop (i + 1)) vk2 va2) (hO : Only F W W2) (hF2 : ∀ k, k < W.heap.size → footL m vk2 va2 k → F k) =>
    show PostO LsRef F m (dropZ t key) W W2 from ⟨footL m vk2 va2, ⟨vk2, va2, by rw [e1, e2]; exact hv, fun _ => Iff.rfl⟩, hO, hF2⟩)
  generalize t.length = n at *
  clear e1 e2 hi
  have n1 : ¬ ((i : Nat) : Int) < 0 := by omega
  have n1b : decide (((i : Nat) : Int) < 0) = false := decide_eq_false n1
  rcases own_slice hV.o0 with ⟨-, hz⟩ | ⟨g, cap, rfl, hg, hcap, hcl, hfz⟩
  · omega
  rcases own_slice hV.o1 with ⟨-, hz⟩ | ⟨gz, capz, rfl, hgz, hcapz, hclz, hfzz⟩
  · omega
  rw [hks] at hV hcap
  rw [hzs] at hV hcapz
  simp only [hks, hzs] at hF
  have hs1 := fun W => sl_to_int (g := g) (n := n) (cap := cap) (i := i) (by omega) W
  obtain ⟨a2, ha2, hs2⟩ := sl_from_int (g := g) (n := n) (cap := cap) (i := i) (by omega) hcap
  have hs3 := fun W => sl_to_int (g := gz) (n := n) (cap := capz) (i := i) (by omega) W
  obtain ⟨b2, hb2, hs4⟩ := sl_from_int (g := gz) (n := n) (cap := capz) (i := i) (by omega) hcapz
  have x5 : IntKind.i64.wrap (((i : Nat) : Int) + 1) = ((i : Nat) : Int) + 1 := by rw [IntKind.wrap_i64]; omega
  have hdz : gz ≠ m := fun e => hV.d1 (by rw [e]; rfl)
  have ml := hV.lt
  replace hclz := Lib.hid hclz
  clear hfz hfzz
  go_enter Try.func17, Try.ntmps17
  go_wp2_with fail
  refine hat.out.mono ?_
  rintro e w1 ⟨rfl, rfl⟩
  clear hat
  have hclH := Lib.hid hcl
  clear hcl
  obtain ⟨v10, w20, g30, c30, w30, rA0, rB0, hO20, hO30, ho30, hg30⟩ := twice_ints W ks i g cap (cap - (i + 1)) a2 (by omega) (by omega) hclH.out hg (fun h => ha2 (by omega))
  rw [hks] at rB0 ho30
  have hbl0 : Below W.heap.size W ((W.alloc (.cells #[] 3)).drew) := ((Below.refl _ _).alloc (Nat.le_refl _) _).drew
  have hV0n := hV.row0 (W' := w30) (hO30.mono (fun _ _ e => e.elim)) ho30 (fun k hk => .inr (by have : some g30 = some k := hk; injection this with this; omega))
  have hSa0 : W.drew.cell? ⟨m, 0, none⟩ = some (.slice (some ⟨g, 0, none⟩) n cap) := hV.c0
  have hSb0 : ((W.alloc (.cells #[] 3)).drew).cell? ⟨m, 0, none⟩ = some (.slice (some ⟨g, 0, none⟩) n cap) := (hbl0.cell (p := ⟨m, 0, none⟩) hV.lt).trans hV.c0
  have hSc0 : w20.cell? ⟨m, 0, none⟩ = some (.slice (some ⟨g, 0, none⟩) n cap) := (hO20.cell (p := ⟨m, 0, none⟩) hV.lt (fun e => e)).trans hV.c0
  have hSd0 : w30.cell? ⟨m, 0, none⟩ = some (.slice (some ⟨g, 0, none⟩) n cap) := (hO30.cell (p := ⟨m, 0, none⟩) hV.lt (fun e => e)).trans hV.c0
  have fz0 : w30.frozen? ⟨m, 0, none⟩ = false := (hO30.frozen (p := ⟨m, 0, none⟩) hV.lt (fun e => e)).trans (hV.fz 0)
  have m30 : m < w30.heap.size := Nat.lt_of_lt_of_le hV.lt hO30.size
  go_wp2_with fail
  refine wp_region_need (fun w' => w'.cell? ⟨m, 0, none⟩ = some (.slice (some ⟨g, 0, none⟩) n cap)) [0, 2, 3, 4, 5, 6, 7, 9, 10, 11, 12, 13, 14, 15] (by kernel_rfl) ?_
  refine need_takeL (i := 0) (v := ?cv77) rfl rfl (by kernel_rfl) (by kernel_rfl) (by kernel_rfl) (fun _ _ _ h => h) (Or.inl ⟨by rfl, ?ch77⟩) hSa0 ?cr77
  case ch77 => (intro w' hSw; (try dsimp only at hSw); go_simp; first | done | with_reducible rfl)
  try simp only [Act.put, List.setIfInBounds_toArray, List.set_cons_zero, List.set_cons_succ]
  refine need_takeL (i := 2) (v := ?cv80) rfl rfl (by kernel_rfl) (by kernel_rfl) (by kernel_rfl) (fun _ _ _ h => h) (Or.inl ⟨by rfl, ?ch80⟩) hSa0 ?cr80
  case ch80 => (intro w' hSw; (try dsimp only at hSw); go_simp; first | done | with_reducible rfl)
  try simp only [Act.put, List.setIfInBounds_toArray, List.set_cons_zero, List.set_cons_succ]
  refine need_takeL (i := 3) (v := ?cv83) rfl rfl (by kernel_rfl) (by kernel_rfl) (by kernel_rfl) (fun _ _ _ h => h) (Or.inl ⟨by rfl, ?ch83⟩) hSa0 ?cr83
  case ch83 => (intro w' hSw; (try dsimp only at hSw); go_simp; first | done | with_reducible rfl)
  try simp only [Act.put, List.setIfInBounds_toArray, List.set_cons_zero, List.set_cons_succ]
  refine need_takeL (i := 4) (v := ?cv86) rfl rfl (by kernel_rfl) (by kernel_rfl) (by kernel_rfl) (fun _ _ _ h => h) (Or.inl ⟨by rfl, ?ch86⟩) hSa0 ?cr86
  case ch86 => (intro w' hSw; (try dsimp only at hSw); go_simp; first | done | with_reducible rfl)
  try simp only [Act.put, List.setIfInBounds_toArray, List.set_cons_zero, List.set_cons_succ]
  refine need_takeL (i := 5) (v := ?cv89) rfl rfl (by kernel_rfl) (by kernel_rfl) (by kernel_rfl) (fun _ _ _ h => h) (Or.inl ⟨by rfl, ?ch89⟩) hSa0 ?cr89
  case ch89 => (intro w' hSw; (try dsimp only at hSw); go_simp; first | done | with_reducible rfl)
  try simp only [Act.put, List.setIfInBounds_toArray, List.set_cons_zero, List.set_cons_succ]
  refine need_takeL (i := 6) (v := ?cv92) rfl rfl (by kernel_rfl) (by kernel_rfl) (by kernel_rfl) (fun _ _ _ h => h) (Or.inl ⟨by rfl, ?ch92⟩) hSa0 ?cr92
  case ch92 => (intro w' hSw; (try dsimp only at hSw); go_simp; first | done | with_reducible rfl)
  try simp only [Act.put, List.setIfInBounds_toArray, List.set_cons_zero, List.set_cons_succ]
  refine need_takeL (i := 7) (v := ?cv95) rfl rfl (by kernel_rfl) (by kernel_rfl) (by kernel_rfl) (fun _ _ _ h => h) (Or.inl ⟨by rfl, ?ch95⟩) hSa0 ?cr95
  case ch95 => (intro w' hSw; (try dsimp only at hSw); go_simp; first | done | with_reducible rfl)
  try simp only [Act.put, List.setIfInBounds_toArray, List.set_cons_zero, List.set_cons_succ]
  refine need_takeL (i := 9) (v := ?cv98) rfl rfl (by kernel_rfl) (by kernel_rfl) (by kernel_rfl) (fun _ _ _ h => h) (Or.inl ⟨by rfl, ?ch98⟩) hSa0 ?cr98
  case ch98 => (intro w' hSw; (try dsimp only at hSw); go_simp; first | done | with_reducible rfl)
  try simp only [Act.put, List.setIfInBounds_toArray, List.set_cons_zero, List.set_cons_succ]
  refine need_takeL (i := 10) (v := ?cv101) rfl rfl (by kernel_rfl) (by kernel_rfl) (by kernel_rfl) (fun _ _ _ h => h) (Or.inl ⟨by rfl, ?ch101⟩) hSa0 ?cr101
  case ch101 => (intro w' hSw; (try dsimp only at hSw); go_simp; first | done | with_reducible rfl)
  try simp only [Act.put, List.setIfInBounds_toArray, List.set_cons_zero, List.set_cons_succ]
  refine need_takeL (i := 11) (v := ?cv104) rfl rfl (by kernel_rfl) (by kernel_rfl) (by kernel_rfl) (fun _ _ _ h => h) (Or.inl ⟨by rfl, ?ch104⟩) hSa0 ?cr104
  case ch104 => (intro w' hSw; (try dsimp only at hSw); go_simp; first | done | with_reducible rfl)
  try simp only [Act.put, List.setIfInBounds_toArray, List.set_cons_zero, List.set_cons_succ]
  refine need_takeL (i := 12) (v := ?cv107) rfl rfl (by kernel_rfl) (by kernel_rfl) (by kernel_rfl) (fun _ _ _ h => h) (Or.inl ⟨by rfl, ?ch107⟩) hSa0 ?cr107
  case ch107 => (intro w' hSw; (try dsimp only at hSw); go_simp; first | done | with_reducible rfl)
  try simp only [Act.put, List.setIfInBounds_toArray, List.set_cons_zero, List.set_cons_succ]
  refine need_takeL (i := 13) (v := ?cv110) rfl rfl (by kernel_rfl) (by kernel_rfl) (by kernel_rfl) (fun _ _ _ h => h) (Or.inl ⟨by rfl, ?ch110⟩) hSa0 ?cr110
  case ch110 => (intro w' hSw; (try dsimp only at hSw); go_simp; first | done | with_reducible rfl)
  try simp only [Act.put, List.setIfInBounds_toArray, List.set_cons_zero, List.set_cons_succ]
  refine need_takeL (i := 14) (v := ?cv113) rfl rfl (by kernel_rfl) (by kernel_rfl) (by kernel_rfl) (fun _ _ _ h => h) (Or.inl ⟨by rfl, ?ch113⟩) hSa0 ?cr113
  case ch113 => (intro w' hSw; (try dsimp only at hSw); go_simp; first | done | with_reducible rfl)
  try simp only [Act.put, List.setIfInBounds_toArray, List.set_cons_zero, List.set_cons_succ]
  refine need_takeL (i := 15) (v := ?cv116) rfl rfl (by kernel_rfl) (by kernel_rfl) (by kernel_rfl) (fun _ _ _ h => h) (Or.inl ⟨by rfl, ?ch116⟩) hSa0 ?cr116
  case ch116 => (intro w' hSw; (try dsimp only at hSw); go_simp; first | done | with_reducible rfl)
  try simp only [Act.put, List.setIfInBounds_toArray, List.set_cons_zero, List.set_cons_succ]
  refine need_turnL (i := 1) rfl (by kernel_rfl) (by rfl) (fun K' hK' => ?_)
  go_simp
  refine hK' _ _ (fun _ => hSb0) ?_
  clear hK' K'
  try simp only [Act.put, List.setIfInBounds_toArray, List.set_cons_zero, List.set_cons_succ]
  refine need_turnL (i := 8) rfl (by kernel_rfl) (by rfl) (fun K' hK' => ?_)
  refine Lib.wp_append_run _ _ _ _ _ rfl _ _ rfl rfl _ _ rA0 ?_
  refine hK' _ _ (fun _ => hSc0) ?_
  clear hK' K'
  try simp only [Act.put, List.setIfInBounds_toArray, List.set_cons_zero, List.set_cons_succ]
  refine need_turnL (i := 16) rfl (by kernel_rfl) (by rfl) (fun K' hK' => ?_)
  refine Lib.wp_append_run _ _ _ _ _ rfl _ _ rfl rfl _ _ rB0 ?_
  refine hK' _ _ (fun _ => hSd0) ?_
  clear hK' K'
  try simp only [Act.put, List.setIfInBounds_toArray, List.set_cons_zero, List.set_cons_succ]
  refine need_turnL (i := 17) rfl (by kernel_rfl) (by rfl) (fun K' hK' => ?_)
  go_simp
  refine hK' _ _ (fun _ => hSd0) ?_
  clear hK' K'
  try simp only [Act.put, List.setIfInBounds_toArray, List.set_cons_zero, List.set_cons_succ]
  refine need_turnL (i := 18) rfl (by kernel_rfl) (by rfl) (fun K' hK' => ?_)
  go_simp
  refine hK' _ _ (fun _ => hSd0) ?_
  clear hK' K'
  try simp only [Act.put, List.setIfInBounds_toArray, List.set_cons_zero, List.set_cons_succ]
  refine need_turnL (i := 19) rfl (by kernel_rfl) (by rfl) (fun K' hK' => ?_)
  go_simp
  refine hK' _ _ (fun h => spared (by kernel_rfl) h) ?_
  clear hK' K'
  try simp only [Act.put, List.setIfInBounds_toArray, List.set_cons_zero, List.set_cons_succ]
  refine need_done (by kernel_rfl) ?_ _
  have hOm0 : Only (fun k => k = m) W (w30.setCell ⟨m, 0, none⟩ (.slice (some ⟨g30, 0, none⟩) (n - 1) c30)) := Only.setCell (F := fun k => k = m) (p := ⟨m, 0, none⟩) (hO30.mono (fun _ _ e => e.elim)) (fun _ => rfl) _
  generalize hWn0 : w30.setCell ⟨m, 0, none⟩ (.slice (some ⟨g30, 0, none⟩) (n - 1) c30) = Wn0 at *
  clear hWn0 rA0 rB0 hO20 hO30 ho30 hSa0 hSb0 hSc0 hSd0 fz0 m30 hbl0
  have hcz2 : ∀ j u, (rowZ zs)[j]? = some u → Wn0.cell? ⟨gz, j, none⟩ = some u := fun j u h => (hOm0.cell (p := ⟨gz, j, none⟩) hgz hdz).trans (hclz.out j u h)
  have hgz2 := Nat.lt_of_lt_of_le hgz hOm0.size
  replace hcz2 := Lib.hid hcz2
  clear hclz hclH
  obtain ⟨v11, w21, g31, c31, w31, rA1, rB1, hO21, hO31, ho31, hg31⟩ := twice_ints Wn0 zs i gz capz (capz - (i + 1)) b2 (by omega) (by omega) hcz2.out hgz2 (fun h => hb2 (by omega))
  rw [hzs] at rB1 ho31
  have hbl1 : Below Wn0.heap.size Wn0 ((Wn0.alloc (.cells #[] 3)).drew) := ((Below.refl _ _).alloc (Nat.le_refl _) _).drew
  have hV1n := hV0n.row1 (W' := w31) (hO31.mono (fun _ _ e => e.elim)) ho31 (fun k hk => .inr (by have : some g31 = some k := hk; injection this with this; omega))
  have hSa1 : Wn0.drew.cell? ⟨m, 1, none⟩ = some (.slice (some ⟨gz, 0, none⟩) n capz) := hV0n.c1
  have hSb1 : ((Wn0.alloc (.cells #[] 3)).drew).cell? ⟨m, 1, none⟩ = some (.slice (some ⟨gz, 0, none⟩) n capz) := (hbl1.cell (p := ⟨m, 1, none⟩) hV0n.lt).trans hV0n.c1
  have hSc1 : w21.cell? ⟨m, 1, none⟩ = some (.slice (some ⟨gz, 0, none⟩) n capz) := (hO21.cell (p := ⟨m, 1, none⟩) hV0n.lt (fun e => e)).trans hV0n.c1
  have hSd1 : w31.cell? ⟨m, 1, none⟩ = some (.slice (some ⟨gz, 0, none⟩) n capz) := (hO31.cell (p := ⟨m, 1, none⟩) hV0n.lt (fun e => e)).trans hV0n.c1
  have fz1 : w31.frozen? ⟨m, 1, none⟩ = false := (hO31.frozen (p := ⟨m, 1, none⟩) hV0n.lt (fun e => e)).trans (hV0n.fz 1)
  have m31 : m < w31.heap.size := Nat.lt_of_lt_of_le hV0n.lt hO31.size
  go_wp2_with fail
  refine wp_region_need (fun w' => w'.cell? ⟨m, 1, none⟩ = some (.slice (some ⟨gz, 0, none⟩) n capz)) [0, 2, 3, 4, 5, 6, 7, 9, 10, 11, 12, 13, 14, 15] (by kernel_rfl) ?_
  refine need_takeL (i := 0) (v := ?cv169) rfl rfl (by kernel_rfl) (by kernel_rfl) (by kernel_rfl) (fun _ _ _ h => h) (Or.inl ⟨by rfl, ?ch169⟩) hSa1 ?cr169
  case ch169 => (intro w' hSw; (try dsimp only at hSw); go_simp; first | done | with_reducible rfl)
  try simp only [Act.put, List.setIfInBounds_toArray, List.set_cons_zero, List.set_cons_succ]
  refine need_takeL (i := 2) (v := ?cv172) rfl rfl (by kernel_rfl) (by kernel_rfl) (by kernel_rfl) (fun _ _ _ h => h) (Or.inl ⟨by rfl, ?ch172⟩) hSa1 ?cr172
  case ch172 => (intro w' hSw; (try dsimp only at hSw); go_simp; first | done | with_reducible rfl)
  try simp only [Act.put, List.setIfInBounds_toArray, List.set_cons_zero, List.set_cons_succ]
  refine need_takeL (i := 3) (v := ?cv175) rfl rfl (by kernel_rfl) (by kernel_rfl) (by kernel_rfl) (fun _ _ _ h => h) (Or.inl ⟨by rfl, ?ch175⟩) hSa1 ?cr175
  case ch175 => (intro w' hSw; (try dsimp only at hSw); go_simp; first | done | with_reducible rfl)
  try simp only [Act.put, List.setIfInBounds_toArray, List.set_cons_zero, List.set_cons_succ]
  refine need_takeL (i := 4) (v := ?cv178) rfl rfl (by kernel_rfl) (by kernel_rfl) (by kernel_rfl) (fun _ _ _ h => h) (Or.inl ⟨by rfl, ?ch178⟩) hSa1 ?cr178
  case ch178 => (intro w' hSw; (try dsimp only at hSw); go_simp; first | done | with_reducible rfl)
  try simp only [Act.put, List.setIfInBounds_toArray, List.set_cons_zero, List.set_cons_succ]
  refine need_takeL (i := 5) (v := ?cv181) rfl rfl (by kernel_rfl) (by kernel_rfl) (by kernel_rfl) (fun _ _ _ h => h) (Or.inl ⟨by rfl, ?ch181⟩) hSa1 ?cr181
  case ch181 => (intro w' hSw; (try dsimp only at hSw); go_simp; first | done | with_reducible rfl)
  try simp only [Act.put, List.setIfInBounds_toArray, List.set_cons_zero, List.set_cons_succ]
  refine need_takeL (i := 6) (v := ?cv184) rfl rfl (by kernel_rfl) (by kernel_rfl) (by kernel_rfl) (fun _ _ _ h => h) (Or.inl ⟨by rfl, ?ch184⟩) hSa1 ?cr184
  case ch184 => (intro w' hSw; (try dsimp only at hSw); go_simp; first | done | with_reducible rfl)
  try simp only [Act.put, List.setIfInBounds_toArray, List.set_cons_zero, List.set_cons_succ]
  refine need_takeL (i := 7) (v := ?cv187) rfl rfl (by kernel_rfl) (by kernel_rfl) (by kernel_rfl) (fun _ _ _ h => h) (Or.inl ⟨by rfl, ?ch187⟩) hSa1 ?cr187
  case ch187 => (intro w' hSw; (try dsimp only at hSw); go_simp; first | done | with_reducible rfl)
  try simp only [Act.put, List.setIfInBounds_toArray, List.set_cons_zero, List.set_cons_succ]
  refine need_takeL (i := 9) (v := ?cv190) rfl rfl (by kernel_rfl) (by kernel_rfl) (by kernel_rfl) (fun _ _ _ h => h) (Or.inl ⟨by rfl, ?ch190⟩) hSa1 ?cr190
  case ch190 => (intro w' hSw; (try dsimp only at hSw); go_simp; first | done | with_reducible rfl)
  try simp only [Act.put, List.setIfInBounds_toArray, List.set_cons_zero, List.set_cons_succ]
  refine need_takeL (i := 10) (v := ?cv193) rfl rfl (by kernel_rfl) (by kernel_rfl) (by kernel_rfl) (fun _ _ _ h => h) (Or.inl ⟨by rfl, ?ch193⟩) hSa1 ?cr193
  case ch193 => (intro w' hSw; (try dsimp only at hSw); go_simp; first | done | with_reducible rfl)
  try simp only [Act.put, List.setIfInBounds_toArray, List.set_cons_zero, List.set_cons_succ]
  refine need_takeL (i := 11) (v := ?cv196) rfl rfl (by kernel_rfl) (by kernel_rfl) (by kernel_rfl) (fun _ _ _ h => h) (Or.inl ⟨by rfl, ?ch196⟩) hSa1 ?cr196
  case ch196 => (intro w' hSw; (try dsimp only at hSw); go_simp; first | done | with_reducible rfl)
  try simp only [Act.put, List.setIfInBounds_toArray, List.set_cons_zero, List.set_cons_succ]
  refine need_takeL (i := 12) (v := ?cv199) rfl rfl (by kernel_rfl) (by kernel_rfl) (by kernel_rfl) (fun _ _ _ h => h) (Or.inl ⟨by rfl, ?ch199⟩) hSa1 ?cr199
  case ch199 => (intro w' hSw; (try dsimp only at hSw); go_simp; first | done | with_reducible rfl)
  try simp only [Act.put, List.setIfInBounds_toArray, List.set_cons_zero, List.set_cons_succ]
  refine need_takeL (i := 13) (v := ?cv202) rfl rfl (by kernel_rfl) (by kernel_rfl) (by kernel_rfl) (fun _ _ _ h => h) (Or.inl ⟨by rfl, ?ch202⟩) hSa1 ?cr202
  case ch202 => (intro w' hSw; (try dsimp only at hSw); go_simp; first | done | with_reducible rfl)
  try simp only [Act.put, List.setIfInBounds_toArray, List.set_cons_zero, List.set_cons_succ]
  refine need_takeL (i := 14) (v := ?cv205) rfl rfl (by kernel_rfl) (by kernel_rfl) (by kernel_rfl) (fun _ _ _ h => h) (Or.inl ⟨by rfl, ?ch205⟩) hSa1 ?cr205
  case ch205 => (intro w' hSw; (try dsimp only at hSw); go_simp; first | done | with_reducible rfl)
  try simp only [Act.put, List.setIfInBounds_toArray, List.set_cons_zero, List.set_cons_succ]
  refine need_takeL (i := 15) (v := ?cv208) rfl rfl (by kernel_rfl) (by kernel_rfl) (by kernel_rfl) (fun _ _ _ h => h) (Or.inl ⟨by rfl, ?ch208⟩) hSa1 ?cr208
  case ch208 => (intro w' hSw; (try dsimp only at hSw); go_simp; first | done | with_reducible rfl)
  try simp only [Act.put, List.setIfInBounds_toArray, List.set_cons_zero, List.set_cons_succ]
  refine need_turnL (i := 1) rfl (by kernel_rfl) (by rfl) (fun K' hK' => ?_)
  go_simp
  refine hK' _ _ (fun _ => hSb1) ?_
  clear hK' K'
  try simp only [Act.put, List.setIfInBounds_toArray, List.set_cons_zero, List.set_cons_succ]
  refine need_turnL (i := 8) rfl (by kernel_rfl) (by rfl) (fun K' hK' => ?_)
  refine Lib.wp_append_run _ _ _ _ _ rfl _ _ rfl rfl _ _ rA1 ?_
  refine hK' _ _ (fun _ => hSc1) ?_
  clear hK' K'
  try simp only [Act.put, List.setIfInBounds_toArray, List.set_cons_zero, List.set_cons_succ]
  refine need_turnL (i := 16) rfl (by kernel_rfl) (by rfl) (fun K' hK' => ?_)
  refine Lib.wp_append_run _ _ _ _ _ rfl _ _ rfl rfl _ _ rB1 ?_
  refine hK' _ _ (fun _ => hSd1) ?_
  clear hK' K'
  try simp only [Act.put, List.setIfInBounds_toArray, List.set_cons_zero, List.set_cons_succ]
  refine need_turnL (i := 17) rfl (by kernel_rfl) (by rfl) (fun K' hK' => ?_)
  go_simp
  refine hK' _ _ (fun _ => hSd1) ?_
  clear hK' K'
  try simp only [Act.put, List.setIfInBounds_toArray, List.set_cons_zero, List.set_cons_succ]
  refine need_turnL (i := 18) rfl (by kernel_rfl) (by rfl) (fun K' hK' => ?_)
  go_simp
  refine hK' _ _ (fun _ => hSd1) ?_
  clear hK' K'
  try simp only [Act.put, List.setIfInBounds_toArray, List.set_cons_zero, List.set_cons_succ]
  refine need_turnL (i := 19) rfl (by kernel_rfl) (by rfl) (fun K' hK' => ?_)
  go_simp
  refine hK' _ _ (fun h => spared (by kernel_rfl) h) ?_
  clear hK' K'
  try simp only [Act.put, List.setIfInBounds_toArray, List.set_cons_zero, List.set_cons_succ]
  refine need_done (by kernel_rfl) ?_ _
  have hOm1 : Only (fun k => k = m) Wn0 (w31.setCell ⟨m, 1, none⟩ (.slice (some ⟨g31, 0, none⟩) (n - 1) c31)) := Only.setCell (F := fun k => k = m) (p := ⟨m, 1, none⟩) (hO31.mono (fun _ _ e => e.elim)) (fun _ => rfl) _
  generalize hWn1 : w31.setCell ⟨m, 1, none⟩ (.slice (some ⟨g31, 0, none⟩) (n - 1) c31) = Wn1 at *
  clear hWn1 rA1 rB1 hO21 hO31 ho31 hSa1 hSb1 hSc1 hSd1 fz1 m31 hbl1
  have hP := Lib.hid (show PostO LsRef F m (dropZ t key) W Wn1 from by
    refine hfin.out _ _ _ hV1n ?_ ?_
    · have h2 : Only F W Wn0 := hOm0.mono (fun j hj e => (hF j).2 (.inl e))
      exact h2.trans hOm1 (fun j hj e => (hF j).2 (.inl e))
    · intro k hk e
      have hs2 := hOm0.size
      rcases e with e | e | e
      · exact (hF k).2 (.inl e)
      · have : some g30 = some k := e
        injection this with this
        omega
      · have : some g31 = some k := e
        injection this with this
        omega)
  clear hfin hV1n hV0n hV hOm0 hOm1 hF hcz2 hKS hZS
  go_wp2
  go_ret
  exact ⟨rfl, hP.out⟩
theorem lsdrop_any {F : Nat → Prop} {W : World} {m : Nat} {t : Zbl} (h : LsRef F W m t) (hlen : t.length ≤ 1000) (key : Int) :
    Calls Try.prog 17 #[.pointer (some ⟨m, 0, none⟩), .int .i64 key] W fun e W' => e = .returned (.bool (getZ t key).isSome) ∧ PostO LsRef F m (dropZ t key) W W' := by
  rw [getZ_isSome]
  by_cases hp : posZ t key < t.length
  · rw [decide_eq_true hp]; exact lsdrop_some h hlen key hp
  · rw [decide_eq_false hp, dropZ_none t key hp]; exact lsdrop_none h hlen key hp
end Go.Proofs.Ytgpjbacggcfcmaa
