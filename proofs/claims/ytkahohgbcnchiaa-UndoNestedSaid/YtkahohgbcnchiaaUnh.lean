/- Stage 14, landed: a list's Add, and what takes it back. No condition but sizes. -/
import Derived.Test.YtkahohgbcnchiaaUng
import Derived.Test.YtkahohgbcnchiaaUnf
import Derived.Test.YtkahohgbcnchiaaNeed
import Derived.BigQuiet
namespace Go.Proofs.Ytkahohgbcnchiaa
open Go.RowKit Wm

theorem isAsr_list (lg : Option Addr) (p : Nat) (s : List Int) : IsAsr (objA (ListO lg) p s) := isAsr_obj (slO_kind _ _ _ _) _ _
/-- What has turned a list, of whose slice one knows the value. -/
theorem SlV.step {α : Type} {cs : α → List Value} {t : TypeId} {K : Nat} {pre : List Value} {w W W' : World} {R : Asr} {p : Nat} {v : Value} {s s' : List α} (L : IsAsr R) (h : Held w W (star (objA (SlO cs t K pre) p s) R)) (hv : SlV cs t K pre W p v s) (hp : PostS cs t K pre W p v s' W') :
    Held w W' (star (objA (SlO cs t K pre) p s') R) :=
  h.step (isAsr_obj (slO_kind _ _ _ _) _ _) L (fun F ⟨v', hv', hF⟩ => by
    have : v' = v := by have := hv'.c0.symm.trans hv.c0; injection this
    subst this
    exact hp.postO hF)
section
variable {R : Asr} {w W : World} {p : Nat} {s : List Int}
def addBk (B0 B1 : Nat) : Bk := ⟨32, #[.pointer (some ⟨B0, 0, none⟩), .pointer (some ⟨B1, 0, none⟩)]⟩
set_option maxRecDepth 100000 in
set_option maxHeartbeats 2000000 in
theorem uAdd_held {T : Nat → Nat → Asr} (L : IsAsr R) (lg : Option Addr) (h : Held w W (star (objA (ListO lg) p s) R)) (hs : s.length ≤ 100000) (x : Int)
    (hk : ∀ wx B0 B1, Held w wx (star (boxA B1 [.int .i64 (s.length : Int)]) (star (boxA B0 [.pointer (some ⟨p, 0, none⟩)]) (star (objA (ListO lg) p (s ++ [x])) R))) →
      Calls Try.prog 31 #[.pointer lg, (addBk B0 B1).val] wx fun e w2 => e = .returned (.tuple #[]) ∧ Held w w2 (star (boxA B1 [.int .i64 (s.length : Int)]) (T B0 B1))) :
    Calls Try.prog 19 #[.pointer (some ⟨p, 0, none⟩), .int .i64 x] W fun e w2 => e = .returned (.int .i64 (s.length : Int)) ∧ ∃ B0 B1, Held w w2 (star (boxA B1 [.int .i64 (s.length : Int)]) (T B0 B1)) := by
  have hT1 := h.box ((isAsr_list _ _ _).star L) [.pointer (some ⟨p, 0, none⟩)] 28
  obtain ⟨B0, hB0⟩ : ∃ B, B = W.heap.size := ⟨_, rfl⟩
  rw [← hB0] at hT1
  go_enter Try.func19, Try.ntmps19
  go_upto_region 1 with (fail)
  rw [← hB0]

  generalize W.alloc (.cells [Value.pointer (some ⟨p, 0, none⟩)].toArray 28) = W1 at *
  clear h
  have c0 := hT1.boxAt.1.spot 0 _ rfl
  have l0 := hT1.boxAt.1.lt
  obtain ⟨F0, v, hv, -⟩ := hT1.pull.head
  have c1 := ListV.cell hv
  have lp := hv.lp
  obtain ⟨ao, c, rfl⟩ := hv.asSlice
  have hT3 := hT1.box ((isAsr_box _ _).star ((isAsr_list _ _ _).star L)) [.int .i64 (s.length : Int)] 3
  have hv3 := hv.later ((Below.refl _ _).alloc (Nat.le_refl _) (.cells [Value.int .i64 (s.length : Int)].toArray 3))
  clear hv hT1 F0 hB0
  go_upto_region 4 with (fail)
  generalize W1.heap.size = B1 at *
  generalize W1.alloc (.cells [Value.int .i64 (s.length : Int)].toArray 3) = W3 at *
  clear c0 c1 l0 lp
  refine wp_region_need (fun w' => (w'.cell? ⟨B0, 0, none⟩ = some (.pointer (some ⟨p, 0, none⟩)) ∧ B0 < w'.heap.size) ∧ w'.cell? ⟨p, 1, none⟩ = some (.slice ao s.length c) ∧ p < w'.heap.size) [0, 1, 2, 3, 4, 5] (by kernel_rfl) ?_
  -- one more
  have hb0 : Below W3.heap.size W3 W3.drew := (Below.refl _ _).drew
  replace hT3 := hT3.later ((isAsr_box _ _).star ((isAsr_box _ _).star ((isAsr_list _ _ _).star L))) hb0
  replace hv3 := hv3.later hb0
  clear hb0
  generalize W3.drew = W4 at *
  obtain ⟨g, c2, w', hr, ho, hO, hg⟩ := app_oneK (P := Try.prog) (ty := 39) csIK (by kernel_rfl) infoI W4 _ s x hv3.own (by omega) (by omega) 3
  have e1 : (s ++ [x]).length = s.length + 1 := by simp
  have hP := hv3.stored (s' := s ++ [x]) hO ho (fun k e => by
    have e2 : g = k := by injection e
    subst e2
    exact hg)
  have hT5 := SlV.step ((isAsr_box _ _).star ((isAsr_box _ _).star L)) hT3.pull3 hv3 hP
  obtain ⟨hb4, -, -⟩ := hT3.pull.boxAt
  have hS4 : (W4.cell? ⟨B0, 0, none⟩ = some (.pointer (some ⟨p, 0, none⟩)) ∧ B0 < W4.heap.size) ∧ W4.cell? ⟨p, 1, none⟩ = some (.slice ao s.length c) ∧ p < W4.heap.size := ⟨⟨hb4.spot 0 _ rfl, hb4.lt⟩, ListV.cell hv3, hv3.lp⟩
  have hSx : ∀ wx, Only (fun k => (Value.slice ao s.length c).ownBlock = some k) W4 wx → (wx.cell? ⟨B0, 0, none⟩ = some (.pointer (some ⟨p, 0, none⟩)) ∧ B0 < wx.heap.size) ∧ wx.cell? ⟨p, 1, none⟩ = some (.slice ao s.length c) ∧ p < wx.heap.size := fun wx hOx => by
    have hB : ¬ (Value.slice ao s.length c).ownBlock = some B0 := fun e => by
      obtain ⟨⟨F, ⟨F1, F2, ⟨_, _, a1⟩, ⟨G1, G2, _, ⟨H1, H2, ⟨v', hv', hF⟩, _, _, e3⟩, _, e2⟩, d, _⟩, _⟩, _⟩ := hT3.pull
      have : v' = .slice ao s.length c := by have := hv'.c0.symm.trans hv3.c0; injection this
      subst this
      exact d B0 ((a1 _).2 rfl) ((e2 _).2 (.inr ((e3 _).2 (.inl ((hF _).2 (.inr e))))))
    exact ⟨⟨(hOx.cell (p := ⟨B0, 0, none⟩) hb4.lt hB).trans (hb4.spot 0 _ rfl), Nat.lt_of_lt_of_le hb4.lt hOx.size⟩, (hOx.cell (p := ⟨p, 1, none⟩) hv3.lp hv3.ne).trans (ListV.cell hv3), Nat.lt_of_lt_of_le hv3.lp hOx.size⟩
  have hS5 := hSx _ ((Only.refl _ W4).alloc (.cells (csI x).toArray 3))
  have hS6 := hSx _ hO
  have hfz : w'.frozen? ⟨p, 1, none⟩ = false := (hO.frozen (p := ⟨p, 1, none⟩) hv3.lp hv3.ne).trans (ListV.fz hv3)
  rw [e1] at hT5
  replace hT5 := Lib.hid hT5
  replace hr := Lib.hid hr
  replace hk := Lib.hid hk
  unfold csI at hr hS5
  clear hSx hP hb4 hv3 hT3 ho hO hg e1 hs
  refine need_takeL (i := 0) (v := ?cv79) rfl rfl (by kernel_rfl) (by kernel_rfl) (by kernel_rfl) (fun _ _ _ h => h) (Or.inl ⟨by rfl, ?ch79⟩) hS4 ?cr79
  case ch79 => (intro w' hSw; (try dsimp only at hSw); go_simp; first | done | with_reducible rfl)
  try simp only [Act.put, List.setIfInBounds_toArray, List.set_cons_zero, List.set_cons_succ]
  refine need_takeL (i := 1) (v := ?cv82) rfl rfl (by kernel_rfl) (by kernel_rfl) (by kernel_rfl) (fun _ _ _ h => h) (Or.inl ⟨by rfl, ?ch82⟩) hS4 ?cr82
  case ch82 => (intro w' hSw; (try dsimp only at hSw); go_simp; first | done | with_reducible rfl)
  try simp only [Act.put, List.setIfInBounds_toArray, List.set_cons_zero, List.set_cons_succ]
  refine need_takeL (i := 2) (v := ?cv85) rfl rfl (by kernel_rfl) (by kernel_rfl) (by kernel_rfl) (fun _ _ _ h => h) (Or.inl ⟨by rfl, ?ch85⟩) hS4 ?cr85
  case ch85 => (intro w' hSw; (try dsimp only at hSw); go_simp; first | done | with_reducible rfl)
  try simp only [Act.put, List.setIfInBounds_toArray, List.set_cons_zero, List.set_cons_succ]
  refine need_takeL (i := 3) (v := ?cv88) rfl rfl (by kernel_rfl) (by kernel_rfl) (by kernel_rfl) (fun _ _ _ h => h) (Or.inl ⟨by rfl, ?ch88⟩) hS4 ?cr88
  case ch88 => (intro w' hSw; (try dsimp only at hSw); go_simp; first | done | with_reducible rfl)
  try simp only [Act.put, List.setIfInBounds_toArray, List.set_cons_zero, List.set_cons_succ]
  refine need_takeL (i := 4) (v := ?cv91) rfl rfl (by kernel_rfl) (by kernel_rfl) (by kernel_rfl) (fun _ _ _ h => h) (Or.inl ⟨by rfl, ?ch91⟩) hS4 ?cr91
  case ch91 => (intro w' hSw; (try dsimp only at hSw); go_simp; first | done | with_reducible rfl)
  try simp only [Act.put, List.setIfInBounds_toArray, List.set_cons_zero, List.set_cons_succ]
  refine need_takeL (i := 5) (v := ?cv94) rfl rfl (by kernel_rfl) (by kernel_rfl) (by kernel_rfl) (fun _ _ _ h => h) (Or.inl ⟨by rfl, ?ch94⟩) hS4 ?cr94
  case ch94 => (intro w' hSw; (try dsimp only at hSw); go_simp; first | done | with_reducible rfl)
  try simp only [Act.put, List.setIfInBounds_toArray, List.set_cons_zero, List.set_cons_succ]
  refine need_turnL (i := 6) rfl (by kernel_rfl) (by rfl) (fun K' hK' => ?_)
  go_simp
  refine hK' _ _ (fun _ => hS5) ?_
  clear hK' K'
  try simp only [Act.put, List.setIfInBounds_toArray, List.set_cons_zero, List.set_cons_succ]
  refine need_turnL (i := 7) rfl (by kernel_rfl) (by rfl) (fun K' hK' => ?_)
  refine Lib.wp_append_run _ _ _ _ _ rfl _ _ rfl rfl _ _ hr.out ?_
  refine hK' _ _ (fun _ => hS6) ?_
  clear hK' K'
  try simp only [Act.put, List.setIfInBounds_toArray, List.set_cons_zero, List.set_cons_succ]
  obtain ⟨⟨c0, l0⟩, c1, lp⟩ := hS6
  refine need_turnL (i := 8) rfl (by kernel_rfl) (by rfl) (fun K' hK' => ?_)
  go_simp
  refine hK' _ _ (fun _ => ⟨⟨c0, l0⟩, c1, lp⟩) ?_
  clear hK' K'
  try simp only [Act.put, List.setIfInBounds_toArray, List.set_cons_zero, List.set_cons_succ]
  refine need_turnL (i := 9) rfl (by kernel_rfl) (by rfl) (fun K' hK' => ?_)
  go_simp
  refine hK' _ _ (fun _ => ⟨⟨c0, l0⟩, c1, lp⟩) ?_
  clear hK' K'
  try simp only [Act.put, List.setIfInBounds_toArray, List.set_cons_zero, List.set_cons_succ]
  refine need_turnL (i := 10) rfl (by kernel_rfl) (by rfl) (fun K' hK' => ?_)
  go_simp
  refine hK' _ _ (spared (by kernel_rfl)) ?_
  clear hK' K'
  try simp only [Act.put]
  refine need_done (by kernel_rfl) ?_ _
  clear hS4 hS5 c0 l0 c1 lp hr hfz
  have hT6 := hT5.out
  change Held w (w'.setCell ⟨p, 1, none⟩ _) _ at hT6
  clear hT5
  generalize w'.setCell ⟨p, 1, none⟩ (.slice (some ⟨g, 0, none⟩) (s.length + 1) c2) = W5 at *
  obtain ⟨F5, v5, hv5, -⟩ := hT6.head
  have c0 := hT6.pull3.boxAt.1.spot 0 _ rfl
  have l0 := hT6.pull3.boxAt.1.lt
  have c1 := ListV.log hv5
  have lp := hv5.lp
  have hk2 := hk.out W5 B0 B1 hT6.push3
  replace hk2 := Lib.hid hk2
  have hmf : ∀ (fn : Fn) (first cap : Array Value) (w : World), (Instr.makeFunc fn first cap).run Try.prog w = .ok (.func fn first cap) w := fun _ _ _ _ => rfl
  clear hk hT6 hv5
  go_wp2_with fail
  refine hk2.out.mono ?_
  rintro e w6 ⟨rfl, hT7⟩
  have c7 := hT7.boxAt.1.spot 0 _ rfl
  have l7 := hT7.boxAt.1.lt
  replace hT7 := Lib.hid hT7
  clear hk2 c0 l0 c1 lp hmf
  go_wp2
  go_ret
  exact ⟨rfl, B0, B1, hT7.out⟩
end
end Go.Proofs.Ytkahohgbcnchiaa
