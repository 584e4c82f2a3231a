/- TapeJoins' walk, out of the landed contracts. -/
import Derived.Test.YtpccoachpilfkaaTc
import Derived.OwnWalk
import Derived.Lib.AppendZeros
namespace Go.Proofs.Ytpccoachpilfkaa
open Go.RowKit Wm

theorem item_info : (Try.prog.info? 36).map (fun i => (i.zero, i.size, i.bytes)) = some (some (.agg #[.int .i64 0, .int .i64 0, .int .i64 0, .int .u64 0, .int .u64 0, .bool false, .string ⟨#[]⟩]), 7, 64) := by kernel_rfl
def cellsL (l : List Item) : List Value := l.flatMap Item.cells
theorem cellsL_length : ∀ (l : List Item), (cellsL l).length = l.length * 7
  | [] => rfl
  | x :: l => by
    have := cellsL_length l
    unfold cellsL at *
    rw [List.flatMap_cons, List.length_append, this, Item.cells_length, List.length_cons]
    omega
theorem cellsL_append (a b : List Item) : cellsL (a ++ b) = cellsL a ++ cellsL b := List.flatMap_append
theorem cellsL_get : ∀ (l : List Item) (k : Nat) (h : k < l.length) (j : Nat), j < 7 → (cellsL l)[k * 7 + j]? = (l[k]).cells[j]?
  | x :: l, 0, _, j, hj => by
    unfold cellsL
    rw [List.flatMap_cons, List.getElem?_append_left (by rw [Item.cells_length]; omega), Nat.zero_mul, Nat.zero_add]; rfl
  | x :: l, k + 1, h, j, hj => by
    have := cellsL_get l k (by simpa using h) j hj
    unfold cellsL at *
    rw [List.flatMap_cons, List.getElem?_append_right (by rw [Item.cells_length]; omega), Item.cells_length, show (k + 1) * 7 + j - 7 = k * 7 + j by omega, this]; rfl
theorem cellsL_one (l : List Item) : ∀ u ∈ cellsL l, u.oneCell' = true := by
  intro u hu
  unfold cellsL at hu
  obtain ⟨x, _, hx⟩ := List.mem_flatMap.mp hu
  unfold Item.cells at hx
  simp only [List.mem_cons, List.not_mem_nil, or_false] at hx
  rcases hx with rfl | rfl | rfl | rfl | rfl | rfl | rfl <;> rfl
theorem ItemsAt.of_row {W : World} {base n cap g : Nat} {l : List Item} (h : W.ownsRow base 36 7 (.slice (some ⟨g, 0, none⟩) n cap) n (cellsL l)) : ItemsAt W (some ⟨g, 0, none⟩) l := by
  refine ⟨fun k hk => ⟨g, 0, rfl, (h.lt g rfl).2, fun j v hj => ?_⟩⟩
  have hj7 : j < 7 := by have := (List.getElem?_eq_some_iff.1 hj).1; rw [Item.cells_length] at this; exact this
  have := h.cells (g := g) rfl (k * 7 + j) v (by rw [cellsL_get l k hk j hj7]; exact hj)
  unfold Addr.add at this
  split at this
  · rename_i h0; rw [show 0 + k * 7 + j = 0 by omega]; exact this
  · rw [show 0 + k * 7 + j = 0 + (k * 7 + j) by omega]; exact this
/-- 'append(v, l..)', v a row of one's own. -/
theorem app_items (W : World) (base : Nat) (hbase : base ≤ W.heap.size) (v : Value) (n : Nat) (xs : List Value) (hown : W.ownsRow base 36 7 v n xs)
    (ao : Option Addr) (cap : Nat) (l : List Item) (hS : ItemsAt W ao l) (hn : n + l.length ≤ 1000) :
    ∃ v' w', (Builtin.append_ #[22, 22] 22 #[v, .slice ao l.length cap]).run Try.prog W = .ok v' w' ∧
      w'.ownsRow base 36 7 v' (n + l.length) (xs ++ cellsL l) ∧ W.grownBy w' v.ownBlock := by
  obtain ⟨i0, hi0, hz0, hz1, hz2⟩ := info_parts item_info
  by_cases h0 : l.length = 0
  · obtain rfl : l = [] := List.eq_nil_of_length_eq_zero h0
    refine ⟨v, W, ?_, by simpa [cellsL] using hown, ⟨rfl, rfl, rfl, Nat.le_refl _, fun _ _ _ => rfl⟩⟩
    obtain ⟨_, hf⟩ := hown
    rcases hf with ⟨rfl, rfl⟩ | ⟨g, c, cur, rfl, _, _, hle, _⟩
    · cases ao <;> simp [Builtin.append_, run_underlying Try.underlying22, run_underlying Try.underlying36, sizeOf, typeInfo, hi0, Builtin.lenOf, Builtin.firstCells, loadCells, loadCellsFrom]
    · cases ao <;> simp [Builtin.append_, run_underlying Try.underlying22, run_underlying Try.underlying36, sizeOf, typeInfo, hi0, Builtin.lenOf, Builtin.firstCells, loadCells, loadCellsFrom, hle, storeCells]
  · obtain ⟨b, off, rfl, _, _⟩ := hS.spot 0 (by omega)
    obtain ⟨v', w', h1, h2, h3, _⟩ := run_append_own (P := Try.prog) W base 22 22 36 i0 _ 7 64 Try.underlying22 hi0 hz0 hz1 hz2 rfl (by omega) v n xs hown ⟨b, off, none⟩ l.length cap (cellsL l) (cellsL_length l)
      (fun j u hj => by
        have hjl : j < l.length * 7 := by have := (List.getElem?_eq_some_iff.1 hj).1; rw [cellsL_length] at this; exact this
        obtain ⟨b', off', e, _, hc⟩ := hS.spot (j / 7) (by omega)
        simp only [Option.some.injEq, Addr.mk.injEq, and_true] at e
        obtain ⟨rfl, rfl⟩ := e
        have hj2 := cellsL_get l (j / 7) (by omega) (j % 7) (by omega)
        rw [show j / 7 * 7 + j % 7 = j by omega, hj] at hj2
        have := hc (j % 7) u hj2.symm
        unfold Addr.add
        split
        · rename_i h0; rw [show off + j / 7 * 7 + j % 7 = off by omega] at this; exact this
        · rw [show off + j / 7 * 7 + j % 7 = off + j by omega] at this; exact this)
      (cellsL_one l) (by unfold maxLen; omega) (by omega) hbase
    exact ⟨v', w', h1, h2, h3⟩

set_option maxRecDepth 100000 in
set_option maxHeartbeats 4000000 in
theorem tapeJoins_any {Wr : (Nat → Prop) → World → Nat → ByteArray → Prop} (K : LandedWr Wr) {Rd : (Nat → Prop) → World → Nat → Option ByteArray → Prop} (R : LandedRd Rd)
    (ao : Option Addr) (cap : Nat) (a : List Item) (hwa : ∀ x ∈ a, x.Wf) (hla : a.length ≤ 140737488351232)
    (bo : Option Addr) (capb : Nat) (b : List Item) (hwb : ∀ x ∈ b, x.Wf) (hlb : b.length ≤ 140737488351232) (w : World) (hA : ItemsAt w ao a) (hB : ItemsAt w bo b) :
    Calls Try.prog 6 #[.slice ao a.length cap, .slice bo b.length capb] w fun e w' => e = .returned (.bool true) ∧ Below w.heap.size w w' := by
  have hal := Lib.hid (tapeAlive_any K R)
  have hga := Lib.hid (great_any ao cap a hwa hla)
  have hgb := Lib.hid (great_any bo capb b hwb hlb)
  by_cases hq : greatB a = false ∧ greatB b = false ∧ a.length + b.length ≤ 60
  · obtain ⟨g1, g2, g3⟩ := hq
    have sa : a.length ≤ 60 ∧ textSum a ≤ 4096 := by unfold greatB at g1; simp at g1; omega
    have sb : b.length ≤ 60 ∧ textSum b ≤ 4096 := by unfold greatB at g2; simp at g2; omega
    rw [g1] at hga
    rw [g2] at hgb
    clear g1 g2
    have hpa := Lib.hid (put_any K ao cap a hwa sa.1 (by omega))
    have hpb := Lib.hid (put_any K bo capb b hwb sb.1 (by omega))
    have n1 : ¬ (60 : Int) < ((a.length : Nat) : Int) + ((b.length : Nat) : Int) := by omega
    go_enter Try.func6, Try.ntmps6
    go_wp2_with fail
    refine (hal.out _).mono ?_
    rintro e w1 ⟨rfl, hb1⟩
    replace hA := hA.later hb1
    replace hB := hB.later hb1
    go_wp2_with fail
    refine (hga.out _ hA).mono ?_
    rintro e w2 ⟨rfl, hb2⟩
    replace hb1 := hb1.trans (hb2.mono hb1.size)
    replace hA := hA.later hb2
    replace hB := hB.later hb2
    clear hb2
    go_wp2_with fail
    refine (hgb.out _ hB).mono ?_
    rintro e w3 ⟨rfl, hb2⟩
    replace hb1 := hb1.trans (hb2.mono hb1.size)
    replace hA := hA.later hb2
    replace hB := hB.later hb2
    clear hb2
    go_wp2_with fail
    refine (hpa.out _ hA).mono ?_
    rintro e w4 ⟨rfl, hP⟩
    obtain ⟨⟨F1, hF1, -⟩, hb2⟩ := hP
    rw [List.take_length] at hF1
    replace hb1 := hb1.trans (hb2.mono hb1.size)
    replace hA := hA.later hb2
    replace hB := hB.later hb2
    clear hb2
    go_wp2_with fail
    refine (hpb.out _ hB).mono ?_
    rintro e w5 ⟨rfl, hP⟩
    obtain ⟨⟨F2, hF2, -⟩, hb2⟩ := hP
    rw [List.take_length] at hF2
    replace hb1 := hb1.trans (hb2.mono hb1.size)
    replace hA := hA.later hb2
    replace hB := hB.later hb2
    replace hF1 := K.later hF1 hb2
    clear hb2
    have hO0 : (w5.alloc (.cells #[] 36)).ownsRow w5.heap.size 36 7 (.slice (some ⟨w5.heap.size, 0, none⟩) 0 0) 0 [] := World.ownsRow_made w5 #[] 0 (Nat.le_refl _) (Nat.zero_le _) rfl
    have hb6 : Below w5.heap.size w5 (w5.alloc (.cells #[] 36)) := (Below.refl _ _).alloc (Nat.le_refl _) _
    obtain ⟨v1, w7, hr1, ho1, hgr1⟩ := app_items _ w5.heap.size (by simp) _ 0 [] hO0 ao cap a (hA.later hb6) (by omega)
    have hb7 : Below w5.heap.size w5 w7 := hb6.grown hgr1 (by simp) (fun k hk => by simp [Value.ownBlock] at hk; omega)
    rw [Nat.zero_add, List.nil_append] at ho1
    obtain ⟨v2, w8, hr2, ho2, hgr2⟩ := app_items w7 w5.heap.size hb7.size v1 a.length (cellsL a) ho1 bo capb b (hB.later hb7) (by omega)
    have hb8 : Below w5.heap.size w5 w8 := hb7.grown hgr2 hb7.size (fun k hk => (ho1.lt k hk).1)
    rw [← cellsL_append, ← List.length_append] at ho2
    have hv2 : ∃ ao2 cap2, v2 = .slice ao2 (a ++ b).length cap2 ∧ ItemsAt w8 ao2 (a ++ b) := by
      rcases ho2.2 with ⟨rfl, h0⟩ | ⟨g, cap2, cur, rfl, _⟩
      · exact ⟨none, 0, by rw [h0], ⟨fun k hk => by omega⟩⟩
      · exact ⟨_, cap2, rfl, ItemsAt.of_row ho2⟩
    obtain ⟨ao2, cap2, rfl, hC⟩ := hv2
    have hpc := Lib.hid (put_any K ao2 cap2 (a ++ b) (fun x hx => (List.mem_append.mp hx).elim (hwa x) (hwb x)) (by rw [List.length_append]; exact g3) (by
      have e : textSum (a ++ b) = textSum a + textSum b := by unfold textSum; rw [List.map_append, List.sum_append]
      omega))
    have hab := Lib.hid (show itemsB (a ++ b) = itemsB a ++ itemsB b by unfold itemsB; rw [List.foldl_append, foldl_app])
    rw [hab.out, List.length_append] at hpc
    have z1 := itemsB_size a a.length (Nat.le_refl _)
    have z2 := itemsB_size b b.length (Nat.le_refl _)
    rw [List.take_length] at z1 z2
    clear ho1 ho2 hO0 hgr1 hgr2 hb6 hb7
    replace hb1 := hb1.trans (hb8.mono hb1.size)
    replace hF1 := K.later hF1 hb8
    replace hF2 := K.later hF2 hb8
    clear hb8 hA hB
    go_wp2_with (at_builtin; first
      | refine Lib.wpList_append_run _ rfl _ _ _ _ rfl _ _ rfl rfl _ _ hr1 ?_
      | refine Lib.wpList_append_run _ rfl _ _ _ _ rfl _ _ rfl rfl _ _ hr2 ?_)
    refine (hpc.out _ hC).mono ?_
    rintro e w9 ⟨rfl, hP⟩
    obtain ⟨⟨F3, hF3, -⟩, hb2⟩ := hP
    rw [List.take_length, hab.out] at hF3
    replace hb1 := hb1.trans (hb2.mono hb1.size)
    replace hF1 := K.later hF1 hb2
    replace hF2 := K.later hF2 hb2
    clear hb2
    have hS := Lib.hid (fun F W p bs h b => K.str F W p bs h b)
    have hL := Lib.hid (fun F W p bs h b => K.len F W p bs h b)
    have zz : (itemsB a ++ itemsB b).size = (itemsB a).size + (itemsB b).size := ByteArray.size_append
    generalize itemsB a = tA at *
    generalize itemsB b = tB at *
    clear hab hpc hr1 hr2 hC
    go_wp2_with fail
    refine (hS.out _ _ _ _ hF3 (by omega)).mono ?_
    rintro e w10 ⟨rfl, hb2⟩
    replace hb1 := hb1.trans (hb2.mono hb1.size)
    replace hF1 := K.later hF1 hb2
    replace hF2 := K.later hF2 hb2
    replace hF3 := K.later hF3 hb2
    clear hb2
    go_wp2_with fail
    refine (hS.out _ _ _ _ hF1 (by omega)).mono ?_
    rintro e w11 ⟨rfl, hb2⟩
    replace hb1 := hb1.trans (hb2.mono hb1.size)
    replace hF1 := K.later hF1 hb2
    replace hF2 := K.later hF2 hb2
    replace hF3 := K.later hF3 hb2
    clear hb2
    go_wp2_with fail
    refine (hS.out _ _ _ _ hF2 (by omega)).mono ?_
    rintro e w12 ⟨rfl, hb2⟩
    replace hb1 := hb1.trans (hb2.mono hb1.size)
    replace hF1 := K.later hF1 hb2
    replace hF2 := K.later hF2 hb2
    replace hF3 := K.later hF3 hb2
    clear hb2
    go_wp2_with fail
    refine (hL.out _ _ _ _ hF3 (by omega)).mono ?_
    rintro e w13 ⟨rfl, hb2⟩
    replace hb1 := hb1.trans (hb2.mono hb1.size)
    replace hF1 := K.later hF1 hb2
    replace hF2 := K.later hF2 hb2
    clear hb2
    go_wp2_with fail
    refine (hL.out _ _ _ _ hF1 (by omega)).mono ?_
    rintro e w14 ⟨rfl, hb2⟩
    replace hb1 := hb1.trans (hb2.mono hb1.size)
    replace hF2 := K.later hF2 hb2
    clear hb2
    go_wp2_with fail
    refine (hL.out _ _ _ _ hF2 (by omega)).mono ?_
    rintro e w15 ⟨rfl, hb2⟩
    replace hb1 := hb1.trans (hb2.mono hb1.size)
    go_wp2
    go_ret
    exact ⟨by simp, hb1⟩
  · have hq2 : greatB a = true ∨ (greatB a = false ∧ greatB b = true) ∨ (greatB a = false ∧ greatB b = false ∧ 60 < a.length + b.length) := by
      by_cases x1 : greatB a = true
      · exact .inl x1
      · have y1 := Bool.eq_false_iff.mpr x1
        by_cases x2 : greatB b = true
        · exact .inr (.inl ⟨y1, x2⟩)
        · have y2 := Bool.eq_false_iff.mpr x2
          exact .inr (.inr ⟨y1, y2, by
            rcases Nat.lt_or_ge 60 (a.length + b.length) with h | h
            · exact h
            · exact absurd ⟨y1, y2, h⟩ hq⟩)
    clear hq
    rcases hq2 with g1 | ⟨g1, g2⟩ | ⟨g1, g2, g3⟩
    · rw [g1] at hga
      clear g1
      go_enter Try.func6, Try.ntmps6
      go_wp2_with fail
      refine (hal.out _).mono ?_
      rintro e w1 ⟨rfl, hb1⟩
      replace hA := hA.later hb1
      replace hB := hB.later hb1
      go_wp2_with fail
      refine (hga.out _ hA).mono ?_
      rintro e w2 ⟨rfl, hb2⟩
      replace hb1 := hb1.trans (hb2.mono hb1.size)
      go_wp2
      go_ret
      exact ⟨rfl, hb1⟩
    · rw [g1] at hga
      rw [g2] at hgb
      clear g1 g2
      go_enter Try.func6, Try.ntmps6
      go_wp2_with fail
      refine (hal.out _).mono ?_
      rintro e w1 ⟨rfl, hb1⟩
      replace hA := hA.later hb1
      replace hB := hB.later hb1
      go_wp2_with fail
      refine (hga.out _ hA).mono ?_
      rintro e w2 ⟨rfl, hb2⟩
      replace hb1 := hb1.trans (hb2.mono hb1.size)
      replace hB := hB.later hb2
      clear hb2
      go_wp2_with fail
      refine (hgb.out _ hB).mono ?_
      rintro e w3 ⟨rfl, hb2⟩
      replace hb1 := hb1.trans (hb2.mono hb1.size)
      go_wp2
      go_ret
      exact ⟨rfl, hb1⟩
    · have sa : a.length ≤ 60 := by unfold greatB at g1; simp at g1; omega
      have sb : b.length ≤ 60 := by unfold greatB at g2; simp at g2; omega
      rw [g1] at hga
      rw [g2] at hgb
      clear g1 g2
      have n1 : (60 : Int) < ((a.length : Nat) : Int) + ((b.length : Nat) : Int) := by omega
      go_enter Try.func6, Try.ntmps6
      go_wp2_with fail
      refine (hal.out _).mono ?_
      rintro e w1 ⟨rfl, hb1⟩
      replace hA := hA.later hb1
      replace hB := hB.later hb1
      go_wp2_with fail
      refine (hga.out _ hA).mono ?_
      rintro e w2 ⟨rfl, hb2⟩
      replace hb1 := hb1.trans (hb2.mono hb1.size)
      replace hB := hB.later hb2
      clear hb2
      go_wp2_with fail
      refine (hgb.out _ hB).mono ?_
      rintro e w3 ⟨rfl, hb2⟩
      replace hb1 := hb1.trans (hb2.mono hb1.size)
      go_wp2
      go_ret
      exact ⟨rfl, hb1⟩
end Go.Proofs.Ytpccoachpilfkaa
