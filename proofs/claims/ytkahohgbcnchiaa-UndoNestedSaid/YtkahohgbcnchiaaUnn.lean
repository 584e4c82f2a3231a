/- Stage 14: the document's put, Back, Clear, Add, Set and New, by its cells. No condition but sizes. -/
import Derived.Test.YtkahohgbcnchiaaUnm
namespace Go.Proofs.Ytkahohgbcnchiaa
open Go.RowKit Wm

section
variable {W W' W1 : World} {p : Nat} {vA vB : Value} {la lb : List Rw} {ra rb r : Rw}
theorem PostP.below (hb : Below W.heap.size W W1) (h : PostP W1 p vA vB la lb W') : PostP W p vA vB la lb W' := by
  obtain ⟨a, b, h1, h2, h3, h4⟩ := h
  exact ⟨a, b, h1, (Only.of_below (F := fun k => k = p ∨ vA.ownBlock = some k ∨ vB.ownBlock = some k) hb).trans h2 (fun _ _ x => x), fun k hk => h3 k (Nat.lt_of_lt_of_le hk hb.size), fun k hk => h4 k (Nat.lt_of_lt_of_le hk hb.size)⟩
theorem app_nil_src (B : Nat) (w : World) : (Builtin.append_ #[39, 39] 39 #[.slice (some ⟨B, 0, none⟩) 0 0, .slice none 0 0]).run Try.prog w = .ok (.slice (some ⟨B, 0, none⟩) 0 0) w := by
  have hu : Try.prog.underlying 39 = some (.slice 3) := by kernel_rfl
  obtain ⟨ie, z, h1, h2, h3, h4, h5⟩ := infoI.ex
  have hsz : (sizeOf 3).run Try.prog w = .ok 1 w := by simp [sizeOf, typeInfo, h1, h3]
  unfold Builtin.append_
  simp [run_underlying hu, hsz, Builtin.lenOf, Builtin.firstCells, storeCells]
/-- A new row of what a row reads. -/
theorem app_copy (h : r.reads W) (hr : r.xs.length ≤ 100000) : ∃ v' w', (Builtin.append_ #[39, 39] 39 #[.slice (some ⟨W.heap.size, 0, none⟩) 0 0, r.val]).run Try.prog (W.alloc (.cells #[] 3)) = .ok v' w' ∧ NewRow W w' v' r.xs ∧ v'.ownBlock ≠ none := by
  rcases own_spot h with ⟨e, h0⟩ | ⟨g, c, e, hg, hnc, hcm, hc, hf⟩
  · rw [e, List.eq_nil_of_length_eq_zero h0]
    exact ⟨_, _, app_nil_src _ _, ⟨⟨rfl, .inr ⟨W.heap.size, 0, #[], rfl, Nat.zero_le _, by show (W.heap.push _)[W.heap.size]? = _; rw [Array.getElem?_push_size], Nat.le_refl _, Nat.zero_le _, rfl, rfl⟩⟩, fun k e => by
      have : W.heap.size = k := by injection e
      omega, (Below.refl _ _).alloc (Nat.le_refl _) _⟩, fun e => by cases e⟩
  · rw [e]
    exact app_fresh W r.xs hr ⟨g, 0, none⟩ c hg (fun j u hj => by rw [Addr.add_mid, Nat.zero_add]; exact hc j u hj)
/-- .. and one more behind it. -/
theorem app_copy1 (h : r.reads W) (hr : r.xs.length ≤ 10000) (x : Int) : ∃ ao n c w1 w2 r', (Builtin.append_ #[39, 39] 39 #[.slice (some ⟨W.heap.size, 0, none⟩) 0 0, r.val]).run Try.prog (W.alloc (.cells #[] 3)) = .ok (.slice ao n c) w1 ∧
    (Builtin.append_ #[39, 39] 39 #[.slice ao n c, .slice (some ⟨w1.heap.size, 0, none⟩) 1 1]).run Try.prog (w1.alloc (.cells #[.int .i64 x] 3)) = .ok (Rw.val r') w2 ∧ NewRow W w2 (Rw.val r') (r.xs ++ [x]) ∧ r'.xs = r.xs ++ [x] := by
  obtain ⟨v1, w1, e1, ⟨o1, n1, b1⟩, -⟩ := app_copy h (by omega)
  obtain ⟨ao, n, c, rfl⟩ : ∃ ao n c, v1 = .slice ao n c := by
    rcases own_spot o1 with ⟨e, -⟩ | ⟨g, c, e, -⟩
    · exact ⟨_, _, _, e⟩
    · exact ⟨_, _, _, e⟩
  obtain ⟨g, c2, w2, e2, o2, hO, hd⟩ := app_oneK (P := Try.prog) (ty := 39) csIK (by kernel_rfl) infoI w1 _ r.xs x o1 (by omega) (by decide) 3
  have el : (r.xs ++ [x]).length = r.xs.length + 1 := by simp
  refine ⟨ao, n, c, w1, w2, ⟨some ⟨g, 0, none⟩, r.xs.length + 1, c2, r.xs ++ [x]⟩, e1, e2, ⟨?_, fun k hk => ?_, b1.trans (hO.to_below b1.size n1)⟩, rfl⟩
  · rw [← el]; exact o2
  · have : g = k := by injection hk
    subst this
    exact hd.elim (n1 g) (fun x => Nat.le_trans b1.size x)
set_option maxRecDepth 100000 in
set_option maxHeartbeats 1000000 in
theorem refput_any (h : r.reads W) (hr : r.xs.length ≤ 100000) (i x : Int) (hi : hasU r.xs i = true) : Calls Try.prog 36 #[r.val, .int .i64 i, .int .i64 x] W fun e W' => ∃ r', e = .returned (.tuple #[Rw.val r', .bool true]) ∧ NewRow W W' (Rw.val r') (r.xs.set i.toNat x) ∧ r'.xs = r.xs.set i.toNat x := by
  obtain ⟨v1, w1, e1, ⟨o1, n1, b1⟩, hn⟩ := app_copy h hr
  have hi2 := of_decide_eq_true hi
  obtain ⟨n, rfl⟩ := Int.eq_ofNat_of_zero_le hi2.1
  have hlt : n < r.xs.length := by omega
  rw [Int.toNat_natCast]
  obtain ⟨g, c, rfl, hcell, hfz, hg⟩ := csI_cell o1 hlt
  have hidx := Lib.hid (fun w => run_idx_I g r.xs.length c n hlt w)
  have hO : Only (fun k => k = g) w1 (w1.setCell ⟨g, n, none⟩ (.int .i64 x)) := (Only.refl (fun k => k = g) w1).setCell (p := ⟨g, n, none⟩) (fun _ => rfl) _
  have hst := setCell_one (x := x) csIK rfl o1 hlt
  have hfin := Lib.hid (show ∃ r', Ending.returned (Value.tuple #[.slice (some ⟨g, 0, none⟩) r.xs.length c, .bool true]) = .returned (.tuple #[Rw.val r', .bool true]) ∧ NewRow W (w1.setCell ⟨g, n, none⟩ (.int .i64 x)) (Rw.val r') (r.xs.set n x) ∧ r'.xs = r.xs.set n x from
    ⟨⟨some ⟨g, 0, none⟩, r.xs.length, c, r.xs.set n x⟩, rfl, ⟨hst, n1, b1.trans (hO.to_below b1.size (fun k e => by rw [e]; exact n1 g rfl))⟩, rfl⟩)
  have hlen := Rw.reads_len h
  have hrv : r.val = .slice r.ao r.xs.length r.cap := by unfold Rw.val; rw [hlen]
  rw [hrv] at e1 ⊢
  replace e1 := Lib.hid e1
  have t1 : decide ((n : Int) < 0) = false := decide_eq_false (by omega)
  have t2 : decide (r.xs.length ≤ n) = false := decide_eq_false (by omega)
  clear h hr o1 n1 b1 hn hi hi2 hO hst hlen hrv
  generalize r.xs[n] = old at *
  generalize r.xs.set n x = ys at *
  clear hlt
  generalize r.xs.length = m at *
  generalize r.ao = ao at *
  generalize r.cap = cap at *
  go_enter Try.func36, Try.ntmps36
  go_wp2_with (first
    | (at_builtin; refine Lib.wpList_append_run _ rfl _ _ _ _ rfl _ _ rfl rfl _ _ e1.out ?_)
    | (refine wpList_index_run rfl _ _ _ rfl (.slice (some ⟨g, 0, none⟩) m c) (.int .i64 (n : Int)) _ rfl rfl (hidx.out _) ?_))
  go_ret2
  exact hfin.out
set_option maxRecDepth 100000 in
theorem refput_out (h : r.reads W) (i x : Int) (hi : hasU r.xs i = false) : Calls Try.prog 36 #[r.val, .int .i64 i, .int .i64 x] W fun e W' => e = .returned (.tuple #[r.val, .bool false]) ∧ W = W' := by
  have hlen := Rw.reads_len h
  have hrv : r.val = .slice r.ao r.xs.length r.cap := by unfold Rw.val; rw [hlen]
  rw [hrv]
  have hi2 := of_decide_eq_false hi
  generalize r.xs.length = m at *
  clear h hi hlen hrv
  by_cases h0 : i < 0
  · have t1 : decide (i < 0) = true := decide_eq_true h0
    clear h0 hi2
    go_enter Try.func36, Try.ntmps36
    go_wp2
    go_ret2
    exact ⟨rfl, rfl⟩
  · have t1 : decide (i < 0) = false := decide_eq_false h0
    have t2 : decide ((m : Int) ≤ i) = true := decide_eq_true (by omega)
    clear h0 hi2
    go_enter Try.func36, Try.ntmps36
    go_wp2
    go_ret2
    exact ⟨rfl, rfl⟩
end
end Go.Proofs.Ytkahohgbcnchiaa
