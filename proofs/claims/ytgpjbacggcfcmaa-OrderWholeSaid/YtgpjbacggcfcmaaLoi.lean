/- Stage 12, landed: a range; the landed list keeps all that the walks ask of it. No condition but sizes. -/
import Derived.Test.YtgpjbacggcfcmaaLoh
import Derived.Test.YtgpjbacggcfcmaaFork
import Derived.Deep.DeepCutAuto
namespace Go.Proofs.Ytgpjbacggcfcmaa
open Go.RowKit Wm

/-- A new row, and a part of a list copied into it. -/
theorem range_made {W : World} {p g c : Nat} {s : Zbl} {N : Nat} (h : OrV W p (.slice (some ⟨g, 0, none⟩) N c) s) (lo e : Nat) (hlt : lo < e) (he : e ≤ N) (hN : N ≤ 10000) :
    ∃ w6 w7, (Instr.makeSlice 25 (.int .i64 ((e - lo : Nat) : Int)) (.int .i64 ((e - lo : Nat) : Int))).run Try.prog W = .ok (.slice (some ⟨W.heap.size, 0, none⟩) (e - lo) (e - lo)) w6 ∧
      (Builtin.copy_ #[25, 25] 3 #[.slice (some ⟨W.heap.size, 0, none⟩) (e - lo) (e - lo), .slice (some ⟨g, lo * 2, none⟩) (e - lo) (c - lo)]).run Try.prog w6 = .ok (goInt ((e - lo : Nat) : Int)) w7 ∧
      w7.ownsRow 0 44 2 (.slice (some ⟨W.heap.size, 0, none⟩) (e - lo) (e - lo)) (e - lo) (rowP ((s.drop lo).take (e - lo))) ∧ Below W.heap.size W w6 ∧ Below W.heap.size w6 w7 := by
  have hNs : N = s.length := by
    rcases h.slice with ⟨e1, -⟩ | ⟨g', c', e1, -⟩
    · cases e1
    · injection e1
  subst hNs
  obtain ⟨ie, h1, h2, h3, h4⟩ := info_pair
  obtain ⟨w6, hmk, hown, hg⟩ := run_make_full (P := Try.prog) W 0 25 44 ie _ 2 Try.underlying25 h1 h2 h3 .i64 .i64 (e - lo) (by rw [h4]; omega) (by unfold maxLen; omega) (Nat.zero_le _)
  have hb6 : Below W.heap.size W w6 := ⟨hg.os, hg.tape, hg.output, hg.size, fun k hk => hg.block k hk (fun e => by cases e)⟩
  have hpart := row_part ((Only.of_below (F := fun _ => False) hb6).row h.own (fun _ _ e => e)) lo (e - lo)
  have hln : ((s.drop lo).take (e - lo)).length = e - lo := by rw [List.length_take, List.length_drop]; omega
  obtain ⟨w7, e1, e2, e3⟩ := copy_own (P := Try.prog) w6 25 25 3 44 2 0 W.heap.size (e - lo) (e - lo) _ Try.underlying25 (by kernel_rfl) hown 0 (e - lo) (by omega)
    (rowP ((s.drop lo).take (e - lo))) (by rw [rowP_length, hln]) ⟨g, lo * 2, none⟩ hpart (rowP_one _) (e - lo) (e - lo) (e - lo) (c - lo) (Nat.min_self _)
  have hd0 : ∀ xs : List Value, xs.length = (e - lo) * 2 → xs.drop ((0 + (e - lo)) * 2) = [] := fun xs hx => List.drop_eq_nil_of_le (by omega)
  rw [Nat.zero_mul, List.take_zero, List.nil_append, hd0 _ hown.1, List.append_nil] at e2
  rw [Nat.zero_mul] at e1
  exact ⟨w6, w7, hmk, e1, e2, hb6, (Only.of_grown (F := fun k => k = W.heap.size) e3 (fun k _ e => by injection e with e; exact e.symm)).to_below hb6.size (fun k e => by rw [e]; exact Nat.le_refl _)⟩
section
set_option maxRecDepth 100000 in
set_option maxHeartbeats 2000000 in
theorem orRange_any (F : Nat → Prop) (W : World) (p : Nat) (m : Zbl) (a b : Int) (fl : Bool) (h : OrKind F W p m) :
    Calls Try.prog 12 #[.pointer (some ⟨p, 0, none⟩), .int .i64 a, .int .i64 b, .bool fl] W (PrsOut (rangeZ m a b fl) W) := by
  obtain ⟨v, hV, ho, hlen, -⟩ := h
  have hr := sortZ_rise m ho
  have hl : (sortZ m).length ≤ 10000 := by rw [sortZ_length]; omega
  have hspot := range_spot ho a b
  have hback := range_back m a b
  have hlow := Lib.hid (fun W' (hb : Below W.heap.size W W') => orLow_any (hV.later hb) hr hl a)
  have hhigh := Lib.hid (fun W' (hb : Below W.heap.size W W') => orHigh_any (hV.later hb) hr hl b)
  obtain ⟨R, hR⟩ : ∃ R, R = rangeZ m a b false := ⟨_, rfl⟩
  obtain ⟨e, he⟩ : ∃ e, e = (if b = 0 then (sortZ m).length else highZ (sortZ m) b) := ⟨_, rfl⟩
  rw [← hR] at hspot hback
  rw [← he] at hspot
  have hel : e ≤ (sortZ m).length := by
    rw [he]; split
    · exact Nat.le_refl _
    · exact highZ_le _ _
  have hout : ∀ e' W', (fl = false → PrsOut R W e' W') → (fl = true → PrsOut R.reverse W e' W') → PrsOut (rangeZ m a b fl) W e' W' := fun e' W' h1 h2 => by
    cases fl
    · rw [← hR]; exact h1 rfl
    · rw [hback]; exact h2 rfl
  replace hout := Lib.hid hout
  have hhb : b ≠ 0 → highZ (sortZ m) b = e := fun hb => by rw [he, if_neg hb]
  have hb0 : b = 0 → (sortZ m).length = e := fun hb => by rw [he, if_pos hb]
  have hlo := lowZ_le (sortZ m) a
  clear hr hR he hback ho hlen
  generalize lowZ (sortZ m) a = lo at *
  obtain ⟨ao, c, hv, hc2⟩ : ∃ ao c, v = .slice ao (sortZ m).length c ∧ ((sortZ m).length = 0 ∨ ∃ g, ao = some ⟨g, 0, none⟩ ∧ (sortZ m).length ≤ c) := by
    rcases hV.slice with ⟨rfl, e0⟩ | ⟨g, c, rfl, -, hnc, -⟩
    · exact ⟨none, 0, by rw [e0]; rfl, .inl (by rw [e0]; rfl)⟩
    · exact ⟨_, c, rfl, .inr ⟨g, rfl, hnc⟩⟩
  subst hv
  have c0 := hV.c0
  have lp := hV.lp
  have hVh := Lib.hid hV
  have hspot1 := Lib.hid hspot
  clear hspot hV
  have hcl := Lib.hid (fun W2 (hb : Below W.heap.size W W2) => (show W2.cell? ⟨p, 0, none⟩ = some (.slice ao (sortZ m).length c) ∧ p < W2.heap.size from ⟨(hb.cell (p := ⟨p, 0, none⟩) lp).trans c0, Nat.lt_of_lt_of_le lp hb.size⟩))
  generalize hS : sortZ m = s at *
  replace hS := Lib.hid hS
  generalize hNe : s.length = N at *
  go_enter Try.func12, Try.ntmps12
  go_upto_region 3 with (fail)
  refine wp_region_need (fun w' => w'.cell? ⟨p, 0, none⟩ = some (.slice ao N c) ∧ p < w'.heap.size) [0, 1, 3, 4, 5, 6, 7] (by kernel_rfl) ?_
  refine need_takeL (i := 0) (v := ?cv75) rfl rfl (by kernel_rfl) (by kernel_rfl) (by kernel_rfl) (fun _ _ _ h => h) (Or.inl ⟨by rfl, ?ch75⟩) ⟨c0, lp⟩ ?cr75
  case ch75 => (intro w' hSw; (try dsimp only at hSw); go_simp; first | done | with_reducible rfl)
  try simp only [Act.put, List.setIfInBounds_toArray, List.set_cons_zero, List.set_cons_succ]
  refine need_takeL (i := 1) (v := ?cv78) rfl rfl (by kernel_rfl) (by kernel_rfl) (by kernel_rfl) (fun _ _ _ h => h) (Or.inl ⟨by rfl, ?ch78⟩) ⟨c0, lp⟩ ?cr78
  case ch78 => (intro w' hSw; (try dsimp only at hSw); go_simp; first | done | with_reducible rfl)
  try simp only [Act.put, List.setIfInBounds_toArray, List.set_cons_zero, List.set_cons_succ]
  refine need_takeL (i := 3) (v := ?cv81) rfl rfl (by kernel_rfl) (by kernel_rfl) (by kernel_rfl) (fun _ _ _ h => h) (Or.inl ⟨by rfl, ?ch81⟩) ⟨c0, lp⟩ ?cr81
  case ch81 => (intro w' hSw; (try dsimp only at hSw); go_simp; first | done | with_reducible rfl)
  try simp only [Act.put, List.setIfInBounds_toArray, List.set_cons_zero, List.set_cons_succ]
  refine need_takeL (i := 4) (v := ?cv84) rfl rfl (by kernel_rfl) (by kernel_rfl) (by kernel_rfl) (fun _ _ _ h => h) (Or.inl ⟨by rfl, ?ch84⟩) ⟨c0, lp⟩ ?cr84
  case ch84 => (intro w' hSw; (try dsimp only at hSw); go_simp; first | done | with_reducible rfl)
  try simp only [Act.put, List.setIfInBounds_toArray, List.set_cons_zero, List.set_cons_succ]
  refine need_takeL (i := 5) (v := ?cv87) rfl rfl (by kernel_rfl) (by kernel_rfl) (by kernel_rfl) (fun _ _ _ h => h) (Or.inl ⟨by rfl, ?ch87⟩) ⟨c0, lp⟩ ?cr87
  case ch87 => (intro w' hSw; (try dsimp only at hSw); go_simp; first | done | with_reducible rfl)
  try simp only [Act.put, List.setIfInBounds_toArray, List.set_cons_zero, List.set_cons_succ]
  refine need_takeL (i := 6) (v := ?cv90) rfl rfl (by kernel_rfl) (by kernel_rfl) (by kernel_rfl) (fun _ _ _ h => h) (Or.inl ⟨by rfl, ?ch90⟩) ⟨c0, lp⟩ ?cr90
  case ch90 => (intro w' hSw; (try dsimp only at hSw); go_simp; first | done | with_reducible rfl)
  try simp only [Act.put, List.setIfInBounds_toArray, List.set_cons_zero, List.set_cons_succ]
  refine need_takeL (i := 7) (v := ?cv93) rfl rfl (by kernel_rfl) (by kernel_rfl) (by kernel_rfl) (fun _ _ _ h => h) (Or.inl ⟨by rfl, ?ch93⟩) ⟨c0, lp⟩ ?cr93
  case ch93 => (intro w' hSw; (try dsimp only at hSw); go_simp; first | done | with_reducible rfl)
  try simp only [Act.put, List.setIfInBounds_toArray, List.set_cons_zero, List.set_cons_succ]
  refine need_turnL (i := 2) rfl (by kernel_rfl) (by rfl) (fun K' hK' => ?_)
  go_simp
  refine (hlow.out _ ((Below.refl _ _).drew)).mono ?_
  rintro e2 w2 ⟨rfl, hb2⟩
  have hb3 : Below W.heap.size W w2 := ((Below.refl W.heap.size W).drew).trans hb2
  refine hK' _ _ (fun _ => hcl.out _ hb3) ?_
  clear hK' K'
  try simp only [Act.put, List.setIfInBounds_toArray, List.set_cons_zero, List.set_cons_succ]
  refine need_turnL (i := 8) rfl (by kernel_rfl) (by rfl) (fun K' hK' => ?_)
  go_simp
  refine hK' _ _ (fun _ => hcl.out _ hb3) ?_
  clear hK' K'
  try simp only [Act.put, List.setIfInBounds_toArray, List.set_cons_zero, List.set_cons_succ]
  refine need_turnL (i := 9) rfl (by kernel_rfl) (by rfl) (fun K' hK' => ?_)
  go_simp
  refine hK' _ _ (fun _ => hcl.out _ hb3) ?_
  clear hK' K'
  try simp only [Act.put, List.setIfInBounds_toArray, List.set_cons_zero, List.set_cons_succ]
  refine need_done (by kernel_rfl) ?_ _
  clear hlow c0 lp
  go_upto_if 23 with (fail)
  go_cut [10] (fun v wx => v = .int .i64 ((e : Nat) : Int) ∧ Below W.heap.size W wx)
  case first =>
    by_cases hb : b = 0
    · have hbb : (b != 0) = false := by rw [hb]; rfl
      have hNe2 := hb0 hb
      subst hNe2
      clear hb0 hhb hb
      go_wp2_with fail
      go_meet
      case rel => exact ⟨rfl, hb3⟩
    · have hbb : (b != 0) = true := by rw [bne_iff_ne]; exact hb
      have hhe := hhb hb
      have hh1 := hhigh.out _ hb3
      rw [hhe] at hh1
      clear hb0 hhb hb hhe
      go_wp2_with fail
      refine hh1.mono ?_
      rintro e2 w3 ⟨rfl, hb4⟩
      go_wp2_with fail
      go_meet
      case rel => exact ⟨rfl, hb3.trans (hb4.mono hb3.size)⟩
  case rest =>
    obtain ⟨rfl, hb4⟩ := hcut
    clear hb0 hhb hhigh hb3 hb2
    by_cases hlt : lo < e
    · have hltI : ¬ ((e : Nat) : Int) ≤ ((lo : Nat) : Int) := by omega
      rcases hc2 with h0 | ⟨g, rfl, hnc⟩
      · omega
      have hlenR : R.length = e - lo := by rw [hspot1.out, List.length_drop, List.length_take, hNe]; omega
      obtain ⟨w6, w7, hmk, hcp, hown7, hb6, hb7⟩ := range_made (hVh.out.later hb4) lo e hlt (by omega) (by omega)
      rw [← List.drop_take, ← hspot1.out, ← hlenR] at hown7
      have hsl := Lib.hid (run_part_pair g N c lo e (by omega) hel hnc)
      rw [if_neg (by omega)] at hsl
      have h6 := hcl.out w6 (hb4.trans (hb6.mono hb4.size))
      have c6 := h6.1
      have l6 := h6.2
      have hb8 : Below W.heap.size W w7 := hb4.trans ((hb6.trans hb7).mono hb4.size)
      have hsz5 : W.heap.size ≤ wc.heap.size := hb4.size
      have e1 : ((e - lo : Nat) : Int) = (e : Int) - (lo : Int) := by omega
      rw [e1] at hmk hcp
      have ew : IntKind.i64.wrap ((e : Int) - (lo : Int)) = (e : Int) - (lo : Int) := IntWalk.i64_in _ (by omega)
      rw [← hlenR] at hmk hcp hsl
      have hRl : R.length ≤ 10000 := by omega
      have hq := wc.heap.size
      have hown8 := Lib.hid hown7
      have hrev := Lib.hid (orReverse_any w7 wc.heap.size R.length R hRl hown7)
      have hfresh := Lib.hid (fun (T : Zbl) (W8 : World) (h8 : W8.ownsRow 0 44 2 (.slice (some ⟨wc.heap.size, 0, none⟩) T.length T.length) T.length (rowP T)) (hbb : Below W.heap.size W W8) => (show PrsOut T W (.returned (.slice (some ⟨wc.heap.size, 0, none⟩) T.length T.length)) W8 from by
        refine ⟨some ⟨wc.heap.size, 0, none⟩, T.length, rfl, ?_, hbb, fun g' o' e' => ?_⟩
        · obtain ⟨ao', c', e', hp'⟩ := PrsAt.of_row h8
          injection e' with e1 _ _
          rw [e1]; exact hp'
        · injection e' with e'
          injection e' with e1 _ _
          subst e1
          exact ⟨hsz5, fun j => h8.frozenAt j⟩))
      have hRev : R.reverse.length = R.length := List.length_reverse
      clear hb4 hb6 hb7 hcl h6 hVh hS hspot1 hown7 hlenR hel hNe hlo hl
      replace hmk := Lib.hid hmk
      replace hcp := Lib.hid hcp
      go_upto_region 8 with (fail)
      go_upto_region 9 with (refine wpList_make_run _ rfl _ _ _ rfl _ _ rfl rfl _ _ hmk.out ?_)
      replace hcp := hcp.out
      go_upto_region 10 with (refine wpList_slice_run rfl 25 (.tmp 38) (some (.tmp 39)) (some (.tmp 40)) none rfl (.slice (some ⟨g, 0, none⟩) N c) (some (.int .i64 (lo : Int))) (some (.int .i64 (e : Int))) none _ rfl rfl rfl rfl (hsl.out _) ?_)
      clear hmk hcp hsl c6 l6 ew e1 hltI
      cases fl with
      | false =>
        have hfin := Lib.hid (hout.out _ w7 (fun _ => hfresh.out R w7 hown8.out hb8) (fun e => by cases e))
        clear hout hfresh hown8 hrev
        go_wp2
        go_ret
        exact hfin.out
      | true =>
        go_wp2_with fail
        refine hrev.out.mono ?_
        rintro e2 w9 ⟨rfl, ho9, hO9⟩
        have hfin := Lib.hid (hout.out _ w9 (fun e => by cases e) (fun _ => hfresh.out R.reverse w9 (by rw [hRev]; exact ho9) (hb8.trans (hO9.to_below hb8.size (fun k e => by rw [e]; exact hsz5)))))
        rw [hRev] at hfin
        clear hout hfresh hown8 hrev ho9 hO9
        go_wp2
        go_ret
        exact hfin.out
    · have hltI : ((e : Nat) : Int) ≤ ((lo : Nat) : Int) := by omega
      have hR0 : R = [] := by rw [hspot1.out]; exact List.drop_eq_nil_of_le (by rw [List.length_take]; omega)
      subst hR0
      have hfin := Lib.hid (hout.out (.returned (.slice none 0 0)) wc (fun _ => ⟨none, 0, rfl, ⟨fun i hi => by simp at hi⟩, hb4, fun _ _ e => by cases e⟩) (fun _ => ⟨none, 0, rfl, ⟨fun i hi => by simp at hi⟩, hb4, fun _ _ e => by cases e⟩))
      clear hout hspot1 hS hcl hVh
      go_wp2
      go_ret
      exact hfin.out
end
/-- The landed list keeps all that the walks ask of it. -/
theorem landedOr : LandedOr OrKind where
  toIsKind := orKind_kind
  new := fun W => ⟨.slice none 0 0, ⟨by simp [go_sem, zeroOr], by simp [go_sem], by simp, ⟨rfl, .inl ⟨rfl, rfl⟩⟩, fun e => by cases e⟩, List.nodup_nil, Nat.zero_le _, fun k => ⟨.inl, fun e => by
    rcases e with e | e
    · exact e
    · cases e⟩⟩
  put := fun F W p m k v h hl _ _ _ _ => orPut_any F W p m k v h hl
  drop := fun F W p m k h _ _ => orDrop_any F W p m k h
  range := fun F W p m a b fl h _ _ _ _ => orRange_any F W p m a b fl h
  len := fun F W p m h => by
    obtain ⟨v, hV, -⟩ := h
    rw [← sortZ_length m]
    exact orLen_any hV
  last := fun F W p m h => by
    obtain ⟨v, hV, _, hl, -⟩ := h
    exact orLast_any hV (by rw [sortZ_length]; omega)
set_option maxRecDepth 100000 in
theorem landedOrNil : LandedOrNil where
  put := fun W k v _ _ => by
    go_enter Try.func14, Try.ntmps14
    go_wp2
    go_ret
    exact ⟨rfl, Below.refl _ _⟩
  drop := fun W k _ _ => by
    go_enter Try.func15, Try.ntmps15
    go_wp2
    go_ret
    exact ⟨rfl, Below.refl _ _⟩
  range := fun W fl => by
    go_enter Try.func12, Try.ntmps12
    go_wp2
    go_ret
    exact ⟨⟨none, 0, rfl⟩, Below.refl _ _⟩
  len := fun W => by
    go_enter Try.func9, Try.ntmps9
    go_wp2
    go_ret
    exact ⟨rfl, Below.refl _ _⟩
  last := fun W => by
    go_enter Try.func13, Try.ntmps13
    go_wp2
    go_ret
    exact ⟨rfl, Below.refl _ _⟩
end Go.Proofs.Ytgpjbacggcfcmaa
