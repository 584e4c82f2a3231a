/- Stage 14, landed: a row cut, what stands behind the place cleared. No condition but sizes. -/
import Derived.Test.YtkahohgbcnchiaaRows
import Derived.KernelRfl
import Derived.Test.YtkahohgbcnchiaaUna
import Derived.Test.YtkahohgbcnchiaaUnb
import Derived.Test.YtkahohgbcnchiaaIdx
import Derived.Lib.SliceRun
import Derived.Lib.Hide
namespace Go.Proofs.Ytkahohgbcnchiaa
open Go.RowKit

theorem setMany_take : ∀ (vs xs : List Value) (o : Nat), (setMany xs o vs).take o = xs.take o
  | [], _, _ => rfl
  | v :: r, xs, o => by
    unfold setMany
    have h := congrArg (List.take o) (setMany_take r (xs.set o v) (o + 1))
    rw [List.take_take, List.take_take, Nat.min_eq_left (by omega)] at h
    rw [h, List.take_set_of_le (Nat.le_refl _)]
/-- A row of one's own, cut. -/
theorem own_cut {W : World} {e : TypeId} {K g n c : Nat} {xs : List Value} (h : W.ownsRow 0 e K (.slice (some ⟨g, 0, none⟩) n c) n xs) (i : Nat) (hi : i ≤ n) : W.ownsRow 0 e K (.slice (some ⟨g, 0, none⟩) i c) i (xs.take (i * K)) := by
  have hl := h.1
  have hm := Nat.mul_le_mul_right K hi
  refine ⟨by rw [List.length_take, hl]; omega, ?_⟩
  rcases h.2 with ⟨e, -⟩ | ⟨g', cap, cur, e, hb, hh, hnc, hcm, hcs, ht⟩
  · cases e
  · obtain ⟨rfl, rfl⟩ : g = g' ∧ c = cap := by
      injection e with e1 _ e3
      injection e1 with e1
      injection e1 with e1
      exact ⟨e1, e3⟩
    refine .inr ⟨g, c, cur, rfl, hb, hh, by omega, hcm, hcs, ?_⟩
    rw [← ht, List.take_take]
    congr 1
    omega
/-- A row whose end was turned, cut ahead of that. -/
theorem own_cut_many {α : Type} {cs : α → List Value} {K : Nat} (hK : CellsK cs K) {W : World} {e : TypeId} {g c i : Nat} {s : List α} (h : W.ownsRow 0 e K (.slice (some ⟨g, 0, none⟩) s.length c) s.length (rowK cs s)) (hi : i ≤ s.length) (vs : List Value) :
    (W.setCells g (i * K) vs).ownsRow 0 e K (.slice (some ⟨g, 0, none⟩) (s.take i).length c) (s.take i).length (rowK cs (s.take i)) := by
  have h2 := own_cut (ownsRow_many vs (i * K) h) i hi
  rw [setMany_take, rowK_take hK] at h2
  have hl : (s.take i).length = i := by rw [List.length_take]; omega
  rw [hl]
  exact h2

section
variable {W : World} {g c i : Nat} {s : List Bk}
theorem zero_F (w : World) : (zeroValue 1).run Try.prog w = .ok Value.nilFunc w := by kernel_rfl
set_option maxRecDepth 100000 in
set_option maxHeartbeats 1000000 in
theorem uCutF_any (h : W.ownsRow 0 1 1 (.slice (some ⟨g, 0, none⟩) s.length c) s.length (rowK Bk.cells s)) (hi : i ≤ s.length) :
    Calls Try.prog 30 #[.slice (some ⟨g, 0, none⟩) s.length c, .int .i64 (i : Int)] W fun e W' => e = .returned (.slice (some ⟨g, 0, none⟩) i c) ∧ W.setCells g i (List.replicate (s.length - i) Value.nilFunc) = W' := by
  rcases own_spot h with ⟨e, -⟩ | ⟨g', c', e, hg, hnc, hcm, hc, hf⟩
  · cases e
  obtain ⟨rfl, rfl⟩ : g = g' ∧ c = c' := by
    injection e with e1 _ e3
    injection e1 with e1
    injection e1 with e1
    exact ⟨e1, e3⟩
  have hfr := run_from_K (P := Try.prog) (ty := 25) (e := 1) (by kernel_rfl) (K := 1) (by kernel_rfl) g s.length c i hi hnc
  have hup := Lib.hid (run_upto_K (P := Try.prog) (ty := 25) (e := 1) (by kernel_rfl) (K := 1) (by kernel_rfl) g s.length c i hi hnc)
  have hlen := rowK_length bkK s
  have hthere : ∀ j, j < s.length - i → (W.cell? ⟨g, i + j, none⟩).isSome = true := fun j hj => by
    obtain ⟨u, hu⟩ : ∃ u, (rowK Bk.cells s)[i + j]? = some u := ⟨_, List.getElem?_eq_getElem (by rw [hlen]; omega)⟩
    rw [hc _ _ hu]; rfl
  by_cases hz : s.length - i = 0
  · have hcl : ∀ ty (a : Addr) (cc : Nat), (Builtin.clear_ #[25] ty #[.slice (some a) 0 cc]).run Try.prog W = .ok (.tuple #[]) W := fun ty a cc => by
      have hu : Try.prog.underlying 25 = some (.slice 1) := by kernel_rfl
      unfold Builtin.clear_
      simp [run_underlying hu, Result.andThen]
    rw [hz] at hfr ⊢
    replace hfr := Lib.hid hfr
    generalize hq : (if i = c then 0 else i * 1) = q at *
    clear h hc hf hthere hz hlen hg e hq
    generalize s.length = n at *
    go_enter Try.func30, Try.ntmps30
    go_wp2_with (first
      | (refine wpList_slice_run rfl 25 (.tmp 5) (some (.tmp 6)) none none rfl (.slice (some ⟨g, 0, none⟩) n c) (some (.int .i64 (i : Int))) none none (.slice (some ⟨g, q, none⟩) 0 (c - i)) rfl rfl rfl rfl (hfr.out _) ?_)
      | (refine wpList_slice_run rfl 25 (.tmp 8) none (some (.tmp 9)) none rfl (.slice (some ⟨g, 0, none⟩) n c) none (some (.int .i64 (i : Int))) none (.slice (some ⟨g, 0, none⟩) i c) rfl rfl rfl rfl (hup.out _) ?_))
    go_ret
    exact ⟨rfl, rfl⟩
  · have hic : i ≠ c := by omega
    rw [if_neg hic, Nat.mul_one] at hfr
    have hcl : ∀ ty, (Builtin.clear_ #[25] ty #[.slice (some ⟨g, i, none⟩) (s.length - i) (c - i)]).run Try.prog W = .ok (.tuple #[]) (W.setCells g i (List.replicate (s.length - i) Value.nilFunc)) :=
      fun ty => Lib.run_clear_slice W _ _ ty _ (by kernel_rfl) zero_F rfl rfl g i _ _ (by omega) hthere (fun j hj => hf _)
    replace hfr := Lib.hid hfr
    clear h hc hf hthere hlen hg e hic
    generalize W.setCells g i (List.replicate (s.length - i) Value.nilFunc) = W2 at *
    generalize hm : s.length - i = m at *
    clear hm
    generalize s.length = n at *
    go_enter Try.func30, Try.ntmps30
    go_wp2_with (first
      | (refine wpList_slice_run rfl 25 (.tmp 5) (some (.tmp 6)) none none rfl (.slice (some ⟨g, 0, none⟩) n c) (some (.int .i64 (i : Int))) none none (.slice (some ⟨g, i, none⟩) m (c - i)) rfl rfl rfl rfl (hfr.out _) ?_)
      | (refine wpList_slice_run rfl 25 (.tmp 8) none (some (.tmp 9)) none rfl (.slice (some ⟨g, 0, none⟩) n c) none (some (.int .i64 (i : Int))) none (.slice (some ⟨g, 0, none⟩) i c) rfl rfl rfl rfl (hup.out _) ?_))
    go_ret
    exact ⟨rfl, rfl⟩
set_option maxRecDepth 100000 in
theorem uCutF_nil (W : World) : Calls Try.prog 30 #[.slice none 0 0, .int .i64 0] W fun e W' => e = .returned (.slice none 0 0) ∧ W = W' := by
  have hcl : ∀ ty (cc : Nat), (Builtin.clear_ #[25] ty #[.slice none 0 cc]).run Try.prog W = .ok (.tuple #[]) W := fun ty cc => by
    have hu : Try.prog.underlying 25 = some (.slice 1) := by kernel_rfl
    unfold Builtin.clear_
    simp [run_underlying hu, Result.andThen]
  go_enter Try.func30, Try.ntmps30
  go_wp2
  go_ret
  exact ⟨rfl, rfl⟩
end

def csI (x : Int) : List Value := [.int .i64 x]
theorem csIK : CellsK csI 1 := ⟨fun _ => rfl, fun x v hv => by
  unfold csI at hv
  rw [List.mem_singleton.1 hv]; rfl, by decide⟩

section
variable {W : World} {g c i : Nat} {s : List Int}
theorem zero_I (w : World) : (zeroValue 3).run Try.prog w = .ok (Value.int .i64 0) w := by kernel_rfl
set_option maxRecDepth 100000 in
set_option maxHeartbeats 1000000 in
theorem uCutI_any (h : W.ownsRow 0 3 1 (.slice (some ⟨g, 0, none⟩) s.length c) s.length (rowK csI s)) (hi : i ≤ s.length) :
    Calls Try.prog 33 #[.slice (some ⟨g, 0, none⟩) s.length c, .int .i64 (i : Int)] W fun e W' => e = .returned (.slice (some ⟨g, 0, none⟩) i c) ∧ W.setCells g i (List.replicate (s.length - i) (Value.int .i64 0)) = W' := by
  rcases own_spot h with ⟨e, -⟩ | ⟨g', c', e, hg, hnc, hcm, hc, hf⟩
  · cases e
  obtain ⟨rfl, rfl⟩ : g = g' ∧ c = c' := by
    injection e with e1 _ e3
    injection e1 with e1
    injection e1 with e1
    exact ⟨e1, e3⟩
  have hfr := run_from_K (P := Try.prog) (ty := 39) (e := 3) (by kernel_rfl) (K := 1) (by kernel_rfl) g s.length c i hi hnc
  have hup := Lib.hid (run_upto_K (P := Try.prog) (ty := 39) (e := 3) (by kernel_rfl) (K := 1) (by kernel_rfl) g s.length c i hi hnc)
  have hlen := rowK_length csIK s
  have hthere : ∀ j, j < s.length - i → (W.cell? ⟨g, i + j, none⟩).isSome = true := fun j hj => by
    obtain ⟨u, hu⟩ : ∃ u, (rowK csI s)[i + j]? = some u := ⟨_, List.getElem?_eq_getElem (by rw [hlen]; omega)⟩
    rw [hc _ _ hu]; rfl
  by_cases hz : s.length - i = 0
  · have hcl : ∀ ty (a : Addr) (cc : Nat), (Builtin.clear_ #[39] ty #[.slice (some a) 0 cc]).run Try.prog W = .ok (.tuple #[]) W := fun ty a cc => by
      have hu : Try.prog.underlying 39 = some (.slice 3) := by kernel_rfl
      unfold Builtin.clear_
      simp [run_underlying hu, Result.andThen]
    rw [hz] at hfr ⊢
    replace hfr := Lib.hid hfr
    generalize hq : (if i = c then 0 else i * 1) = q at *
    clear h hc hf hthere hz hlen hg e hq
    generalize s.length = n at *
    go_enter Try.func33, Try.ntmps33
    go_wp2_with (first
      | (refine wpList_slice_run rfl 39 (.tmp 5) (some (.tmp 6)) none none rfl (.slice (some ⟨g, 0, none⟩) n c) (some (.int .i64 (i : Int))) none none (.slice (some ⟨g, q, none⟩) 0 (c - i)) rfl rfl rfl rfl (hfr.out _) ?_)
      | (refine wpList_slice_run rfl 39 (.tmp 8) none (some (.tmp 9)) none rfl (.slice (some ⟨g, 0, none⟩) n c) none (some (.int .i64 (i : Int))) none (.slice (some ⟨g, 0, none⟩) i c) rfl rfl rfl rfl (hup.out _) ?_))
    go_ret
    exact ⟨rfl, rfl⟩
  · have hic : i ≠ c := by omega
    rw [if_neg hic, Nat.mul_one] at hfr
    have hcl : ∀ ty, (Builtin.clear_ #[39] ty #[.slice (some ⟨g, i, none⟩) (s.length - i) (c - i)]).run Try.prog W = .ok (.tuple #[]) (W.setCells g i (List.replicate (s.length - i) (Value.int .i64 0))) :=
      fun ty => Lib.run_clear_slice W _ _ ty _ (by kernel_rfl) zero_I rfl rfl g i _ _ (by omega) hthere (fun j hj => hf _)
    replace hfr := Lib.hid hfr
    clear h hc hf hthere hlen hg e hic
    generalize W.setCells g i (List.replicate (s.length - i) (Value.int .i64 0)) = W2 at *
    generalize hm : s.length - i = m at *
    clear hm
    generalize s.length = n at *
    go_enter Try.func33, Try.ntmps33
    go_wp2_with (first
      | (refine wpList_slice_run rfl 39 (.tmp 5) (some (.tmp 6)) none none rfl (.slice (some ⟨g, 0, none⟩) n c) (some (.int .i64 (i : Int))) none none (.slice (some ⟨g, i, none⟩) m (c - i)) rfl rfl rfl rfl (hfr.out _) ?_)
      | (refine wpList_slice_run rfl 39 (.tmp 8) none (some (.tmp 9)) none rfl (.slice (some ⟨g, 0, none⟩) n c) none (some (.int .i64 (i : Int))) none (.slice (some ⟨g, 0, none⟩) i c) rfl rfl rfl rfl (hup.out _) ?_))
    go_ret
    exact ⟨rfl, rfl⟩
set_option maxRecDepth 100000 in
theorem uCutI_nil (W : World) : Calls Try.prog 33 #[.slice none 0 0, .int .i64 0] W fun e W' => e = .returned (.slice none 0 0) ∧ W = W' := by
  have hcl : ∀ ty (cc : Nat), (Builtin.clear_ #[39] ty #[.slice none 0 cc]).run Try.prog W = .ok (.tuple #[]) W := fun ty cc => by
    have hu : Try.prog.underlying 39 = some (.slice 3) := by kernel_rfl
    unfold Builtin.clear_
    simp [run_underlying hu, Result.andThen]
  go_enter Try.func33, Try.ntmps33
  go_wp2
  go_ret
  exact ⟨rfl, rfl⟩
end
end Go.Proofs.Ytkahohgbcnchiaa
