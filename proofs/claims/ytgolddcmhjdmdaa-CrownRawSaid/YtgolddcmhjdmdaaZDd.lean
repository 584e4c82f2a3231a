/- The landed disk: a write. No condition but sizes. -/
import Derived.Test.YtgolddcmhjdmdaaZDc
import Derived.Lib.LazyBuf
import Derived.StillTailTactics
import Derived.Great.BuildSlice
namespace Go.Proofs.Ytgolddcmhjdmdaa
open Go.RowKit

theorem zerosB_list (n : Nat) : (zerosB n).data.toList = List.replicate n (0 : UInt8) := rfl
theorem cellsB_zeros (n : Nat) : cellsB (zerosB n) = List.replicate n (.int .u8 0) := by
  unfold cellsB; rw [zerosB_list, List.map_replicate]; rfl
theorem zero_write : ∃ Z : Array Value, (∀ w, (zeroValue 78).run Try.prog w = .ok (.agg Z) w) ∧ Z ≠ #[] ∧ (∀ k : Nat, Z.setIfInBounds 0 (.int .i64 (k : Int)) = (cellsW (k, zerosB 128)).toArray) ∧ Z.size = 129 ∧ (Try.prog.info? 78).map (·.size) = some 129 := by
  have h : (Try.prog.info? 78).map (fun i => (i.zero, i.size)) = some (some (.agg (Value.int .i64 0 :: List.replicate 128 (.int .u8 0)).toArray), 129) := by kernel_rfl
  obtain ⟨h1, h2⟩ := zero_of_info h
  refine ⟨_, h1, by simp, fun k => ?_, by simp, h2⟩
  unfold cellsW
  rw [cellsB_zeros]
  simp
theorem info_sec : (Try.prog.info? 76).map (·.size) = some 128 := by kernel_rfl
theorem und_sec : Try.prog.underlying 76 = some (.array 128 5) := by kernel_rfl
theorem setCells_alloc_new (w : World) (t : TypeId) : ∀ (vs : List Value) (o : Nat) (C : Array Value), o + vs.length ≤ C.size →
    (w.alloc (.cells C t)).setCells w.heap.size o vs = w.alloc (.cells (C.toList.take o ++ vs ++ C.toList.drop (o + vs.length)).toArray t)
  | [], o, C, _ => by simp [World.setCells]
  | v :: r, o, C, h => by
    rw [List.length_cons] at h
    rw [World.setCells, World.setCell_alloc_at C t w.heap.size o v rfl, setCells_alloc_new w t r (o + 1) _ (by simp; omega)]
    congr 2
    apply congrArg List.toArray
    have ho : o < C.size := by omega
    apply List.ext_getElem?
    intro j
    simp only [Array.toList_setIfInBounds, List.append_assoc, List.length_cons]
    rcases Nat.lt_trichotomy j o with hj | rfl | hj
    · rw [List.getElem?_append_left (by simp; omega), List.getElem?_append_left (by simp; omega), List.getElem?_take, List.getElem?_take, if_pos (by omega), if_pos hj, List.getElem?_set_ne (by omega)]
    · rw [List.getElem?_append_left (by simp; omega), List.getElem?_take, if_pos (by omega), List.getElem?_set_self (by simpa using ho), List.getElem?_append_right (by simp; omega)]
      simp [Nat.min_eq_left (Nat.le_of_lt ho)]
    · have e1 : (List.take (o + 1) (C.toList.set o v)).length = o + 1 := by
        rw [List.length_take, List.length_set, Array.length_toList]; omega
      have e2 : (List.take o C.toList).length = o := by
        rw [List.length_take, Array.length_toList]; omega
      rw [List.getElem?_append_right (l₁ := List.take (o + 1) (C.toList.set o v)) (by rw [e1]; omega), List.getElem?_append_right (l₁ := List.take o C.toList) (by rw [e2]; omega), e1, e2, show j - o = (j - (o + 1)) + 1 by omega, List.cons_append, List.getElem?_cons_succ]
      by_cases hr : j - (o + 1) < r.length
      · rw [List.getElem?_append_left hr, List.getElem?_append_left hr]
      · rw [List.getElem?_append_right (by omega), List.getElem?_append_right (by omega), List.getElem?_drop, List.getElem?_drop, List.getElem?_set_ne (by omega)]
        congr 1
        omega
theorem cellsB_append (s r : ByteArray) : cellsB (s ++ r) = cellsB s ++ cellsB r := by
  unfold cellsB
  rw [ByteArray.data_append, Array.toList_append, List.map_append]
theorem cellsB_zeros_from (n a : Nat) : cellsB ((zerosB n).extract a n) = List.replicate (n - a) (.int .u8 0) := by
  unfold cellsB
  rw [ByteArray.data_extract, Array.toList_extract, zerosB_list, List.extract_eq_take_drop, List.drop_replicate, List.take_replicate, Nat.min_self, List.map_replicate]
  rfl
theorem cellsB_pad (s : ByteArray) : cellsB (padB s) = cellsB s ++ List.replicate (128 - s.size) (.int .u8 0) := by
  unfold padB
  rw [cellsB_append, cellsB_zeros_from]
/-- What lies there once the bytes have gone over. -/
theorem write_laid (w : World) (k : Nat) (s : ByteArray) (hs : s.size ≤ 128) :
    (w.alloc (.cells (cellsW (k, zerosB 128)).toArray 78)).setCells w.heap.size 1 (cellsB s) = w.alloc (.cells (cellsW (k, padB s)).toArray 78) := by
  rw [setCells_alloc_new _ _ _ _ _ (by rw [List.size_toArray, cellsW_length, zerosB_size, cellsB_length]; omega)]
  congr 2
  apply congrArg List.toArray
  unfold cellsW
  dsimp only
  rw [cellsB_pad s, cellsB_zeros, cellsB_length]
  rw [show 1 + s.size = s.size + 1 by omega, List.drop_succ_cons, List.drop_replicate]
  rfl
theorem laid_range (w : World) (k : Nat) (s : ByteArray) : (w.alloc (.cells (cellsW (k, s)).toArray 78)).rangeAt w.heap.size 1 (cellsB s) := fun j v hv => by
  rw [cell_of_row _ _ _ _ _ _ (heap_alloc_last w _)]
  unfold cellsW
  rw [List.getElem?_toArray, show 1 + j = j + 1 by omega, List.getElem?_cons_succ]
  exact hv
theorem laid_range0 (w : World) (C : List Value) (t : TypeId) : (w.alloc (.cells C.toArray t)).rangeAt w.heap.size 0 C := fun j v hv => by
  rw [cell_of_row _ _ _ _ _ _ (heap_alloc_last w _), List.getElem?_toArray, Nat.zero_add]
  exact hv
/-- A load of one cell. -/
theorem wp_load_cell {P : Program} {o : Oper} {a : Act} {w : World} {K : Act → World → Prop} {Q : Exit → Act → World → Prop} (ty : TypeId) (x : Operand) (ho : o.op = .load ty x)
    (b off : Nat) (hx : a.eval x = .pointer (some ⟨b, off, none⟩)) (v : Value) (hag : (match P.underlying ty with | some (.struct _) => false | some (.array _ _) => false | some _ => true | none => false) = true) (hc : w.cell? ⟨b, off, none⟩ = some v)
    (h : K (a.put o.dst v) w) : o.wp P a w K Q := by
  have hu : ∃ d, P.underlying ty = some d ∧ d.isRow = false := by
    cases hq : P.underlying ty with
    | none => simp [hq] at hag
    | some d => refine ⟨d, rfl, ?_⟩; cases d <;> simp_all [TypeDesc.isRow]
  obtain ⟨d, hu, hd⟩ := hu
  have hagg : (isAgg ty).run P w = .ok false w := by
    unfold isAgg
    rw [Sem.run_bind, run_underlying hu w]
    cases d <;> simp_all [TypeDesc.isRow]
  have hl : (loadVar ty ⟨b, off, none⟩).run P w = .ok v w := by
    simp [loadVar, Sem.run_bind, hagg, run_load, hc]
  unfold Oper.wp execOp
  simp only [ho, hx, Instr.loadAt, Instr.sureAddr, Sem.run_bind, Sem.run_pure, Result.andThen_ok, hl]
  exact h
/-- A load of many cells, among those that a region that draws begins with. -/
theorem still_load {P : Program} {ops : Array Oper} {w : World} {Q : Act → Prop} {a : Act} {o : Oper} {rest : List Oper} (hg : o.guard = none) (ty : TypeId) (x : Operand) (ho : o.op = .load ty x)
    (b off : Nat) (hx : a.eval x = .pointer (some ⟨b, off, none⟩)) (cs : List Value) (d : TypeDesc) (hc : w.rangeAt b off cs)
    (hu : P.underlying ty = some d) (hd : d.isRow = true) (hi : (P.info? ty).map (·.size) = some cs.length)
    (h : wpStill P ops w Q rest (a.put o.dst (.agg cs.toArray))) : wpStill P ops w Q (o :: rest) a := by
  have hw : Region.wanted o (yielded ops a.tmps) = true := by simp [Region.wanted, hg]
  unfold wpStill
  rw [if_pos hw]
  unfold Oper.still execOp
  simp only [ho, hx, Instr.loadAt, Instr.sureAddr, Sem.run_bind, Sem.run_pure, Result.andThen_ok, run_loadVar_mid w b off ty cs d hc hu hd hi]
  exact ⟨rfl, h⟩
theorem info_write : ∃ ie, Try.prog.info? 78 = some ie ∧ ie.zero = some (.agg (Value.int .i64 0 :: List.replicate 128 (.int .u8 0)).toArray) ∧ ie.size = 129 ∧ ie.bytes = 136 := by
  have h : (Try.prog.info? 78).map (fun i => (i.zero, i.size, i.bytes)) = some (some (.agg (Value.int .i64 0 :: List.replicate 128 (.int .u8 0)).toArray), 129, 136) := by kernel_rfl
  cases hq : Try.prog.info? 78 with
  | none => simp [hq] at h
  | some ie =>
    rw [hq] at h
    simp only [Option.map_some, Option.some.injEq, Prod.mk.injEq] at h
    exact ⟨ie, rfl, h.1, h.2.1, h.2.2⟩
theorem und_writes : Try.prog.underlying 67 = some (.slice 78) := by kernel_rfl
theorem und_write : ∃ d, Try.prog.underlying 78 = some d ∧ d.isRow = true := by
  have h : (Try.prog.underlying 78).any TypeDesc.isRow = true := by kernel_rfl
  cases hq : Try.prog.underlying 78 with
  | none => simp [hq] at h
  | some d => rw [hq] at h; exact ⟨d, rfl, h⟩
/-- '[]write{w}' laid in a block of its own. -/
theorem build_op {o : Oper} {a : Act} {w : World} {K : Act → World → Prop} {Q : Exit → Act → World → Prop} (x : Operand) (ho : o.op = .buildSlice 67 1 #[(0, x)])
    (cs : List Value) (hx : a.eval x = .agg cs.toArray) (hn : cs.length = 129)
    (h : K (a.put o.dst (.slice (some ⟨w.heap.size, 0, none⟩) 1 1)) (w.alloc (.cells cs.toArray 78))) : o.wp Try.prog a w K Q := by
  obtain ⟨ie, h1, h2, h3, h4⟩ := info_write
  refine wp_buildSlice 67 78 1 _ ho cs.toArray ie _ und_writes h1 h2 (by rw [h3]; decide) (by rw [h3]; decide) ?_ h
  have := Great.fill_whole (s := 129) (by decide) [Value.agg cs.toArray] ((Array.range (1 * 129)).map ((Value.agg (Value.int .i64 0 :: List.replicate 128 (.int .u8 0)).toArray).cells[· % (Value.agg (Value.int .i64 0 :: List.replicate 128 (.int .u8 0)).toArray).cells.size]!))
    (fun v hv => by rw [List.mem_singleton.1 hv]; show cs.toArray.size = 129; rw [List.size_toArray, hn]) (by simp only [Array.size_map, Array.size_range]; rfl)
  rw [h3]
  rw [show (Array.map (fun (x : Nat × Operand) => match x with | (i, x) => (i, a.eval x)) #[(0, x)]).toList = [(0, Value.agg cs.toArray)] from by rw [← hx]; simp]
  refine Eq.trans this ?_
  simp [Value.cells]
/-- 'append(v, w)': w laid in a block of its own ahead of it. -/
theorem app_write (W : World) (v : Value) (l : List (Nat × ByteArray)) (hown : W.ownsRow 0 78 129 v l.length (rowW l)) (x : Nat × ByteArray) (hx : x.2.size = 128) (hn : l.length ≤ 100000) :
    ∃ g cap w', (Builtin.append_ #[67, 67] 67 #[v, .slice (some ⟨W.heap.size, 0, none⟩) 1 1]).run Try.prog (W.alloc (.cells (cellsW x).toArray 78)) = .ok (.slice (some ⟨g, 0, none⟩) (l.length + 1) cap) w' ∧
      w'.ownsRow 0 78 129 (.slice (some ⟨g, 0, none⟩) (l.length + 1) cap) (l ++ [x]).length (rowW (l ++ [x])) ∧ (W.alloc (.cells (cellsW x).toArray 78)).grownBy w' v.ownBlock ∧ (v.ownBlock = some g ∨ g = W.heap.size + 1) := by
  obtain ⟨ie, h1, h2, h3, h4⟩ := info_write
  obtain ⟨v', w', e1, e2, e3, _, e4⟩ := run_append_own_at (P := Try.prog) (W.alloc (.cells (cellsW x).toArray 78)) 0 67 67 78 ie _ 129 136 und_writes h1 h2 h3 h4 (by simp [Value.cells]) (by decide) v l.length _ (hown.alloc _)
    ⟨W.heap.size, 0, none⟩ 1 1 (cellsW x) (by rw [cellsW_length, hx])
    (fun j u hj => by rw [Addr.add_mid]; exact laid_range0 W (cellsW x) _ j u hj)
    (cellsW_one x) (by unfold maxLen; omega) (by omega) (Nat.zero_le _)
  have e5 : rowW (l ++ [x]) = rowW l ++ cellsW x := by rw [rowW_append]; unfold rowW; simp
  rcases e2.2 with ⟨_, h0⟩ | ⟨g, cap, cur, rfl, _⟩
  · omega
  · refine ⟨g, cap, w', e1, ?_, e3, ?_⟩
    · rw [List.length_append, e5]; exact e2
    · rcases e4 with e4 | e4
      · exact .inl e4.symm
      · right
        simpa [Value.ownBlock] using e4
end Go.Proofs.Ytgolddcmhjdmdaa
