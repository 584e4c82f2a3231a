/- Stage 14, landed: what takes an Add back. No condition but sizes. -/
import Derived.Test.YtkahohgbcnchiaaUnh
namespace Go.Proofs.Ytkahohgbcnchiaa
open Go.RowKit Wm

theorem PostA.wider {F F2 : Nat → Prop} {A : Asr} {W W' : World} (h : PostA F2 A W W') (g : ∀ k, F2 k → F k) : PostA F A W W' := by
  obtain ⟨F', a, hO, hF⟩ := h
  exact ⟨F', a, hO.mono (fun k _ x => g k x), fun k hk x => g k (hF k hk x)⟩
theorem PostS.drew {α : Type} {cs : α → List Value} {t : TypeId} {K : Nat} {pre : List Value} {W W' : World} {p : Nat} {v : Value} {s : List α} (h : PostS cs t K pre W.drew p v s W') : PostS cs t K pre W p v s W' := by
  obtain ⟨v', h1, h2, h3⟩ := h
  exact ⟨v', h1, (Only.refl _ W).drew.trans h2 (fun _ _ x => x), h3⟩
section
variable {p n B0 B1 : Nat} {s : List Int}
theorem enters_add (args : Array Value) (w : World) : (callFunc 32 args).run Try.prog w = .ok (.enter 32 args) w := enters_of Try.func32 (by kernel_rfl) rfl _ _
set_option maxRecDepth 100000 in
set_option maxHeartbeats 2000000 in
theorem addUndo (lg : Option Addr) (hn : n ≤ s.length) : Undoes Try.prog (addBk B0 B1) (star (boxA B1 [.int .i64 (n : Int)]) (boxA B0 [.pointer (some ⟨p, 0, none⟩)])) (objA (ListO lg) p s) (objA (ListO lg) p (s.take n)) := by
  rintro F W ⟨F1, F2, ⟨G1, G2, ⟨b1, _, e1⟩, ⟨b0, _, e0⟩, _, eg⟩, ⟨v, hv, hF⟩, d, e⟩
  have hd1 : ¬ footS p v B1 := fun x => d B1 ((eg _).2 (.inl ((e1 _).2 rfl))) ((hF _).2 x)
  have hd0 : ¬ footS p v B0 := fun x => d B0 ((eg _).2 (.inr ((e0 _).2 rfl))) ((hF _).2 x)
  have hb0 : Below W.heap.size W W.drew := (Below.refl _ _).drew
  have hv0 := hv.later hb0
  have hbx1 := b1.later hb0
  have hbx0 := b0.later hb0
  clear b1 b0 hv hb0 eg e1 e0
  have hfin := Lib.hid (fun W' (h : PostS csI 3 1 [.pointer lg] W.drew p v (s.take n) W') => (show PostA F (objA (ListO lg) p (s.take n)) W W' from (show PostA F2 (objA (ListO lg) p (s.take n)) W W' from h.drew.postO hF).wider (fun k x => (e k).2 (.inr x))))
  clear hF e d
  show Calls Try.prog 32 #[.pointer (some ⟨B0, 0, none⟩), .pointer (some ⟨B1, 0, none⟩)] W _
  go_enter Try.func32, Try.ntmps32
  go_wp2_with fail
  refine wp_region_need (fun w' => (w'.cell? ⟨B0, 0, none⟩ = some (.pointer (some ⟨p, 0, none⟩)) ∧ B0 < w'.heap.size) ∧ (w'.cell? ⟨B1, 0, none⟩ = some (.int .i64 (n : Int)) ∧ B1 < w'.heap.size) ∧ w'.cell? ⟨p, 1, none⟩ = some v ∧ p < w'.heap.size) [0, 1, 2, 3, 4, 5] (by kernel_rfl) ?_
  generalize W.drew = W0 at *
  have hS0 : (W0.cell? ⟨B0, 0, none⟩ = some (.pointer (some ⟨p, 0, none⟩)) ∧ B0 < W0.heap.size) ∧ (W0.cell? ⟨B1, 0, none⟩ = some (.int .i64 (n : Int)) ∧ B1 < W0.heap.size) ∧ W0.cell? ⟨p, 1, none⟩ = some v ∧ p < W0.heap.size := ⟨⟨hbx0.spot 0 _ rfl, hbx0.lt⟩, ⟨hbx1.spot 0 _ rfl, hbx1.lt⟩, ListV.cell hv0, hv0.lp⟩
  have hfz0 := ListV.fz hv0
  refine need_takeL (i := 0) (v := ?cv34) rfl rfl (by kernel_rfl) (by kernel_rfl) (by kernel_rfl) (fun _ _ _ h => h) (Or.inl ⟨by rfl, ?ch34⟩) hS0 ?cr34
  case ch34 => (intro w' hSw; (try dsimp only at hSw); go_simp; first | done | with_reducible rfl)
  try simp only [Act.put, List.setIfInBounds_toArray, List.set_cons_zero, List.set_cons_succ]
  refine need_takeL (i := 1) (v := ?cv37) rfl rfl (by kernel_rfl) (by kernel_rfl) (by kernel_rfl) (fun _ _ _ h => h) (Or.inl ⟨by rfl, ?ch37⟩) hS0 ?cr37
  case ch37 => (intro w' hSw; (try dsimp only at hSw); go_simp; first | done | with_reducible rfl)
  try simp only [Act.put, List.setIfInBounds_toArray, List.set_cons_zero, List.set_cons_succ]
  refine need_takeL (i := 2) (v := ?cv40) rfl rfl (by kernel_rfl) (by kernel_rfl) (by kernel_rfl) (fun _ _ _ h => h) (Or.inl ⟨by rfl, ?ch40⟩) hS0 ?cr40
  case ch40 => (intro w' hSw; (try dsimp only at hSw); go_simp; first | done | with_reducible rfl)
  try simp only [Act.put, List.setIfInBounds_toArray, List.set_cons_zero, List.set_cons_succ]
  refine need_takeL (i := 3) (v := ?cv43) rfl rfl (by kernel_rfl) (by kernel_rfl) (by kernel_rfl) (fun _ _ _ h => h) (Or.inl ⟨by rfl, ?ch43⟩) hS0 ?cr43
  case ch43 => (intro w' hSw; (try dsimp only at hSw); go_simp; first | done | with_reducible rfl)
  try simp only [Act.put, List.setIfInBounds_toArray, List.set_cons_zero, List.set_cons_succ]
  refine need_takeL (i := 4) (v := ?cv46) rfl rfl (by kernel_rfl) (by kernel_rfl) (by kernel_rfl) (fun _ _ _ h => h) (Or.inl ⟨by rfl, ?ch46⟩) hS0 ?cr46
  case ch46 => (intro w' hSw; (try dsimp only at hSw); go_simp; first | done | with_reducible rfl)
  try simp only [Act.put, List.setIfInBounds_toArray, List.set_cons_zero, List.set_cons_succ]
  refine need_takeL (i := 5) (v := ?cv49) rfl rfl (by kernel_rfl) (by kernel_rfl) (by kernel_rfl) (fun _ _ _ h => h) (Or.inl ⟨by rfl, ?ch49⟩) hS0 ?cr49
  case ch49 => (intro w' hSw; (try dsimp only at hSw); go_simp; first | done | with_reducible rfl)
  try simp only [Act.put, List.setIfInBounds_toArray, List.set_cons_zero, List.set_cons_succ]
  have hcut : ∃ ao n2 c2 W2, (Calls Try.prog 33 #[v, .int .i64 (n : Int)] W0 fun e W' => e = .returned (.slice ao n2 c2) ∧ W2 = W') ∧ PostS csI 3 1 [.pointer lg] W0 p v (s.take n) (W2.setCell ⟨p, 1, none⟩ (.slice ao n2 c2)) ∧ Only (fun k => v.ownBlock = some k) W0 W2 := by
    rcases hv0.slice with ⟨rfl, rfl⟩ | ⟨g, c, rfl, hg, -, hgp⟩
    · have hn0 : n = 0 := Nat.le_zero.1 hn
      subst hn0
      exact ⟨_, _, _, W0, (uCutI_nil W0).mono (fun _ _ ⟨a, b⟩ => ⟨a, b⟩), hv0.stored (s' := []) (Only.refl _ _) hv0.own (fun k e => .inl e), Only.refl _ _⟩
    · exact ⟨_, _, _, _, uCutI_any hv0.own hn, hv0.cut csIK hn _, only_setCells (F := fun k => (Value.slice (some ⟨g, 0, none⟩) s.length c).ownBlock = some k) g (fun _ => rfl) _ _ (Only.refl _ _)⟩
  obtain ⟨ao, n2, c2, W2, hcall, hP, hO⟩ := hcut
  have hne := hv0.ne
  have hS2 : (W2.cell? ⟨B0, 0, none⟩ = some (.pointer (some ⟨p, 0, none⟩)) ∧ B0 < W2.heap.size) ∧ (W2.cell? ⟨B1, 0, none⟩ = some (.int .i64 (n : Int)) ∧ B1 < W2.heap.size) ∧ W2.cell? ⟨p, 1, none⟩ = some v ∧ p < W2.heap.size :=
    ⟨⟨(hO.cell (p := ⟨B0, 0, none⟩) hbx0.lt (fun x => hd0 (.inr x))).trans (hbx0.spot 0 _ rfl), Nat.lt_of_lt_of_le hbx0.lt hO.size⟩, ⟨(hO.cell (p := ⟨B1, 0, none⟩) hbx1.lt (fun x => hd1 (.inr x))).trans (hbx1.spot 0 _ rfl), Nat.lt_of_lt_of_le hbx1.lt hO.size⟩,
      (hO.cell (p := ⟨p, 1, none⟩) hv0.lp hne).trans (ListV.cell hv0), Nat.lt_of_lt_of_le hv0.lp hO.size⟩
  have hfz : W2.frozen? ⟨p, 1, none⟩ = false := (hO.frozen (p := ⟨p, 1, none⟩) hv0.lp hne).trans hfz0
  replace hfin := Lib.hid (hfin.out _ hP)
  replace hcall := Lib.hid hcall
  clear hS0 hfz0 hP hO hne hbx0 hbx1 hv0 hd1 hd0 hn
  refine need_turnL (i := 6) rfl (by kernel_rfl) (by rfl) (fun K' hK' => ?_)
  go_simp
  refine hcall.out.mono ?_
  rintro e w1 ⟨rfl, rfl⟩
  refine hK' _ _ (fun _ => hS2) ?_
  clear hK' K' hcall
  try simp only [Act.put, List.setIfInBounds_toArray, List.set_cons_zero, List.set_cons_succ]
  obtain ⟨⟨c0, l0⟩, ⟨c1, l1⟩, cv, lp⟩ := hS2
  refine need_turnL (i := 7) rfl (by kernel_rfl) (by rfl) (fun K' hK' => ?_)
  go_simp
  refine hK' _ _ (fun _ => ⟨⟨c0, l0⟩, ⟨c1, l1⟩, cv, lp⟩) ?_
  clear hK' K'
  try simp only [Act.put, List.setIfInBounds_toArray, List.set_cons_zero, List.set_cons_succ]
  refine need_turnL (i := 8) rfl (by kernel_rfl) (by rfl) (fun K' hK' => ?_)
  go_simp
  refine hK' _ _ (fun _ => ⟨⟨c0, l0⟩, ⟨c1, l1⟩, cv, lp⟩) ?_
  clear hK' K'
  try simp only [Act.put, List.setIfInBounds_toArray, List.set_cons_zero, List.set_cons_succ]
  refine need_turnL (i := 9) rfl (by kernel_rfl) (by rfl) (fun K' hK' => ?_)
  go_simp
  refine hK' _ _ (spared (by kernel_rfl)) ?_
  clear hK' K'
  try simp only [Act.put]
  refine need_done (by kernel_rfl) ?_ _
  clear c0 l0 c1 l1 cv lp hfz
  generalize W2.setCell ⟨p, 1, none⟩ (.slice ao n2 c2) = W3 at *
  go_wp2
  go_end0
  exact ⟨rfl, hfin.out⟩
end
end Go.Proofs.Ytkahohgbcnchiaa
