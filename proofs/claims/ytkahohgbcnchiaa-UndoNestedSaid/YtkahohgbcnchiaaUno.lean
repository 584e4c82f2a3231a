/- Stage 14: the document's Back, Clear, Add, Set and New in memory. No condition but sizes. -/
import Derived.Test.YtkahohgbcnchiaaUnn
namespace Go.Proofs.Ytkahohgbcnchiaa
open Go.RowKit Wm

section
variable {W W' W1 : World} {p : Nat} {vA vB : Value} {la lb : List Rw} {ra rb r : Rw}
theorem run_upto_R (g n c j : Nat) (hj : j ≤ n) (hc : n ≤ c) (w : World) : (Instr.sliceAt 36 (.slice (some ⟨g, 0, none⟩) n c) none (some (.int .i64 (j : Int))) none).run Try.prog w = .ok (.slice (some ⟨g, 0, none⟩) j c) w :=
  run_upto_K (P := Try.prog) (ty := 36) (e := 39) (by kernel_rfl) (K := 1) (by kernel_rfl) g n c j hj hc w
theorem cut_R {g c n : Nat} {l : List Rw} (h : W.ownsRow 0 39 1 (.slice (some ⟨g, 0, none⟩) l.length c) l.length (rowK csR l)) (hn : n ≤ l.length) : W.ownsRow 0 39 1 (.slice (some ⟨g, 0, none⟩) n c) (l.take n).length (rowK csR (l.take n)) := by
  have := own_cut h n hn
  rw [rowK_take csRK] at this
  rwa [show (l.take n).length = n by rw [List.length_take]; omega]
set_option maxRecDepth 100000 in
set_option maxHeartbeats 2000000 in
theorem refback_any (h : PastV W p vA vB la lb) (h0 : 0 < la.length) (hl : lb.length = la.length) (hA : la.length ≤ 100000) (mark : Int) :
    Calls Try.prog 24 #[.pointer (some ⟨p, 0, none⟩), .int .i64 mark] W fun e W' => e = .returned (.tuple #[]) ∧ PostP W p vA vB (la.take (min mark.toNat (la.length - 1) + 1)) (lb.take (min mark.toNat (la.length - 1) + 1)) W' := by
  rcases own_spot h.oA with ⟨-, e⟩ | ⟨g1, d1, rfl, l1, k1, -, -, -⟩
  · omega
  rcases own_spot h.oB with ⟨-, e⟩ | ⟨g2, d2, rfl, l2, k2, -, -, -⟩
  · omega
  obtain ⟨n, hn⟩ : ∃ n, n = min mark.toNat (la.length - 1) + 1 := ⟨_, rfl⟩
  have hnl : n ≤ la.length := by omega
  rw [← hn]
  have e2 : wrap64 (min (max mark 0) (wrap64 ((la.length : Int) - 1)) + 1) = (n : Int) := by
    have a1 : wrap64 ((la.length : Int) - 1) = (((la.length - 1 : Nat)) : Int) := by unfold wrap64; omega
    rw [a1]
    unfold wrap64
    omega
  have up1 := Lib.hid (fun w => run_upto_R g1 la.length d1 n hnl k1 w)
  have up2 := Lib.hid (fun w => run_upto_R g2 lb.length d2 n (by omega) k2 w)
  have hV1 := h.row0 (la' := la.take n) (fun r hr => h.apart (.inl (List.mem_of_mem_take hr))) (Only.refl _ W) (cut_R h.oA hnl) (fun k e => .inl e)
  obtain ⟨W1, hW1⟩ : ∃ W1, W1 = W.setCell ⟨p, 0, none⟩ (.slice (some ⟨g1, 0, none⟩) n d1) := ⟨_, rfl⟩
  rw [← hW1] at hV1
  have hV2 := hV1.row1 (lb' := lb.take n) (fun r hr => hV1.apart (.inr (List.mem_of_mem_take hr))) (Only.refl _ W1) (cut_R hV1.oB (by omega)) (fun k e => .inl e)
  have hP := Lib.hid (show PostP W p (.slice (some ⟨g1, 0, none⟩) la.length d1) (.slice (some ⟨g2, 0, none⟩) lb.length d2) (la.take n) (lb.take n) (W1.setCell ⟨p, 1, none⟩ (.slice (some ⟨g2, 0, none⟩) n d2)) from
    ⟨_, _, hV2, by rw [hW1]; exact ((Only.refl (fun k => k = p ∨ _ ∨ _) W).setCell (p := ⟨p, 0, none⟩) (fun _ => .inl rfl) _).setCell (p := ⟨p, 1, none⟩) (fun _ => .inl rfl) _, fun k _ e => e, fun k _ e => e⟩)
  have c0 := h.c0
  have lp := h.lp
  have f0 := h.fz 0
  have c1 := hV1.c1
  have l1' := hV1.lp
  have f1 := hV1.fz 1
  replace hW1 := Lib.hid hW1
  replace hn := Lib.hid hn
  clear h hV1 hV2 hnl k1 k2 l1 l2 hA
  rw [hl] at *
  clear hl h0
  generalize la.length = m at *
  go_enter Try.func24, Try.ntmps24
  go_upto_region 1 with (fail)
  simp only [e2]
  clear e2
  go_upto_region 2 with (refine wpList_slice_run rfl 36 (.tmp 19) none (some (.tmp 20)) none rfl (.slice (some ⟨g1, 0, none⟩) m d1) none (some (.int .i64 (n : Int))) none (.slice (some ⟨g1, 0, none⟩) n d1) rfl rfl rfl rfl (up1.out _) ?_)
  rw [← hW1.out]
  clear c0 f0 lp hW1
  go_wp2_with (refine wpList_slice_run rfl 36 (.tmp 28) none (some (.tmp 29)) none rfl (.slice (some ⟨g2, 0, none⟩) m d2) none (some (.int .i64 (n : Int))) none (.slice (some ⟨g2, 0, none⟩) n d2) rfl rfl rfl rfl (up2.out _) ?_)
  go_end0
  exact ⟨rfl, hP.out⟩
/-- A row of one. -/
theorem row_one (W : World) (r : Rw) (t : TypeId) : (W.alloc (.cells #[r.val] t)).ownsRow 0 39 1 (.slice (some ⟨W.heap.size, 0, none⟩) 1 1) [r].length (rowK csR [r]) ∨ t ≠ 39 := by
  by_cases ht : t = 39
  · subst ht
    exact .inl ⟨rfl, .inr ⟨W.heap.size, 1, #[r.val], rfl, Nat.zero_le _, by show (W.heap.push _)[W.heap.size]? = _; rw [Array.getElem?_push_size], Nat.le_refl _, by unfold maxLen; omega, rfl, rfl⟩⟩
  · exact .inr ht
theorem row_one' (W : World) (r : Rw) : (W.alloc (.cells #[r.val] 39)).ownsRow 0 39 1 (.slice (some ⟨W.heap.size, 0, none⟩) 1 1) [r].length (rowK csR [r]) := (row_one W r 39).elim id (fun h => (h rfl).elim)
set_option maxRecDepth 100000 in
set_option maxHeartbeats 2000000 in
theorem refclear_any (h : PastV W p vA vB (la ++ [ra]) (lb ++ [rb])) (hA : la.length ≤ 100000) (hB : lb.length ≤ 100000) :
    Calls Try.prog 25 #[.pointer (some ⟨p, 0, none⟩)] W fun e W' => e = .returned (.tuple #[]) ∧ PostP W p vA vB [ra] [rb] W' := by
  have hnow := Lib.hid (refnow_any h hA hB)
  go_enter Try.func25, Try.ntmps25
  go_wp2_with fail
  refine hnow.out.mono ?_
  rintro e w1 ⟨rfl, hb⟩
  have h1 := h.later hb
  clear hnow h hA hB
  have hO2 : Only (fun k => vA.ownBlock = some k) w1 (w1.alloc (.cells #[ra.val] 39)) := Only.of_below ((Below.refl _ _).alloc (Nat.le_refl _) _)
  have hV2 := h1.row0 (la' := [ra]) (fun r hr => by rw [List.mem_singleton.1 hr]; exact h1.apart (.inl (by simp))) hO2 (row_one' w1 ra) (fun k e => by
    have : w1.heap.size = k := by injection e
    exact .inr (by omega))
  have c0 := h1.c0
  have lp := h1.lp
  have c1 : (w1.alloc (.cells #[ra.val] 39)).cell? ⟨p, 0, none⟩ = some vA := (hO2.cell (p := ⟨p, 0, none⟩) lp h1.dA).trans c0
  have f1 : (w1.alloc (.cells #[ra.val] 39)).frozen? ⟨p, 0, none⟩ = false := (hO2.frozen (p := ⟨p, 0, none⟩) lp h1.dA).trans (h1.fz 0)
  have l1 : p < (w1.alloc (.cells #[ra.val] 39)).heap.size := Nat.lt_of_lt_of_le lp hO2.size
  have hO3 : Only (fun k => k = p ∨ vA.ownBlock = some k ∨ vB.ownBlock = some k) w1 ((w1.alloc (.cells #[ra.val] 39)).setCell ⟨p, 0, none⟩ (.slice (some ⟨w1.heap.size, 0, none⟩) 1 1)) :=
    Only.setCell (F := fun k => k = p ∨ vA.ownBlock = some k ∨ vB.ownBlock = some k) (p := ⟨p, 0, none⟩) (hO2.mono (fun _ _ e => .inr (.inl e))) (fun _ => .inl rfl) _
  rw [World.setCell_alloc_past _ _ _ _ lp] at hV2 hO3
  obtain ⟨W3, hW3⟩ : ∃ W3, W3 = (w1.setCell ⟨p, 0, none⟩ (.slice (some ⟨w1.heap.size, 0, none⟩) 1 1)).alloc (.cells #[ra.val] 39) := ⟨_, rfl⟩
  rw [← hW3] at hV2 hO3
  have hO4 : Only (fun k => vB.ownBlock = some k) W3 (W3.alloc (.cells #[rb.val] 39)) := Only.of_below ((Below.refl _ _).alloc (Nat.le_refl _) _)
  have hrb := h1.apart (r := rb) (.inr (by simp))
  have hrb3 : Apart W3 p (.slice (some ⟨w1.heap.size, 0, none⟩) 1 1) vB rb :=
    ⟨hO3.row hrb.reads (fun g e x => x.elim (fun y => hrb.p g e y) (fun x => x.elim (fun y => hrb.a g e y) (fun y => hrb.b g e y))), hrb.p, fun k e x => by
      have : w1.heap.size = k := by injection x
      have := hrb.lt e
      omega, hrb.b⟩
  have hV4 := hV2.row1 (lb' := [rb]) (fun r hr => by rw [List.mem_singleton.1 hr]; exact hrb3) hO4 (row_one' W3 rb) (fun k e => by
    have : W3.heap.size = k := by injection e
    exact .inr (by omega))
  have c2 := hV2.c1
  have l2 := hV2.lp
  have c3 : (W3.alloc (.cells #[rb.val] 39)).cell? ⟨p, 1, none⟩ = some vB := (hO4.cell (p := ⟨p, 1, none⟩) l2 hV2.dB).trans c2
  have f3 : (W3.alloc (.cells #[rb.val] 39)).frozen? ⟨p, 1, none⟩ = false := (hO4.frozen (p := ⟨p, 1, none⟩) l2 hV2.dB).trans (hV2.fz 1)
  have l3 : p < (W3.alloc (.cells #[rb.val] 39)).heap.size := Nat.lt_of_lt_of_le l2 hO4.size
  have hP := (PostP.below hb (show PostP w1 p vA vB [ra] [rb] ((W3.alloc (.cells #[rb.val] 39)).setCell ⟨p, 1, none⟩ (.slice (some ⟨W3.heap.size, 0, none⟩) 1 1)) from
    ⟨_, _, hV4, Only.setCell (F := fun k => k = p ∨ vA.ownBlock = some k ∨ vB.ownBlock = some k) (p := ⟨p, 1, none⟩) (hO3.trans hO4 (fun _ _ e => .inr (.inr e))) (fun _ => .inl rfl) _,
      fun k hk e => by
        have : w1.heap.size = k := by injection e
        omega, fun k hk e => by
        have : W3.heap.size = k := by injection e
        have := hO3.size
        omega⟩))
  rw [World.setCell_alloc_past _ _ _ _ l2] at hP
  replace hP := Lib.hid hP
  clear hV4 hrb3 hrb hO4 hV2 hO3 hO2 h1 hb
  unfold Rw.val at *
  replace hW3 := Lib.hid hW3
  go_upto_region 2 with (fail)
  rw [← hW3.out]
  clear hW3 c1 f1 l1 c0 lp
  go_wp2
  go_end0
  exact ⟨rfl, hP.out⟩
end
end Go.Proofs.Ytkahohgbcnchiaa
