/- Copy on rows whose elements are structs, plain and as one step of a region. Over whatever program. No condition. -/
import Derived.Laws.CopyRow
import Derived.Laws.IdiomCopy
import Derived.Laws.CopyOwn
import Derived.Lib.SlBuf
import Derived.WalkKit
import Derived.StillTailTactics
namespace Go.Proofs.Ytkahohgbcnchiaa
open Go Go.RowKit

theorem run_copy_rowK {P : Program} (w : World) (dT sT ty elem : TypeId) (k g o dLen dCap : Nat) (a : Addr) (sLen sCap : Nat) (cur : Array Value) (t : TypeId) (cs : List Value)
    (hu : P.underlying dT = some (.slice elem)) (hs : (P.info? elem).map (·.size) = some k)
    (hg : w.heap[g]? = some (.cells cur t (0, 0))) (hn : cs.length = Nat.min sLen dLen * k)
    (hsrc : ∀ j v, cs[j]? = some v → w.cell? (a.add j) = some v) (hfit : o + cs.length ≤ cur.size) (h1 : ∀ v ∈ cs, v.oneCell' = true) :
    (Builtin.copy_ #[dT, sT] ty #[.slice (some ⟨g, o, none⟩) dLen dCap, .slice (some a) sLen sCap]).run P w =
      .ok (goInt (Nat.min sLen dLen)) (w.setRow g (cur.toList.take o ++ cs ++ cur.toList.drop (o + cs.length)).toArray) := by
  have hl := run_loadCells_list (P := P) w a cs hsrc
  have hst := run_storeCells_at P g o t cs 0 cur w hg (by simpa using hfit) h1
  cases hq : P.info? elem with
  | none => simp [hq] at hs
  | some i =>
    have hi : i.size = k := by simpa [hq] using hs
    simp [Builtin.copy_, run_underlying hu, Builtin.lenOf, Builtin.firstCells, sizeOf, typeInfo, hq, hi, ← hn, hl, hst]
theorem run_copy_noneK {P : Program} (w : World) (dT sT ty elem : TypeId) (k : Nat) (d a : Option Addr) (dLen dCap sLen sCap : Nat) (hu : P.underlying dT = some (.slice elem)) (hs : (P.info? elem).map (·.size) = some k) (hn : Nat.min sLen dLen = 0) :
    (Builtin.copy_ #[dT, sT] ty #[.slice d dLen dCap, .slice a sLen sCap]).run P w = .ok (goInt 0) w := by
  cases hq : P.info? elem with
  | none => simp [hq] at hs
  | some i =>
    have hi : i.size = k := by simpa [hq] using hs
    cases d <;> cases a <;> simp [Builtin.copy_, run_underlying hu, Builtin.lenOf, Builtin.firstCells, sizeOf, typeInfo, hq, hn, storeCells, loadCells, loadCellsFrom]
/-- A copy into a row of one's own. -/
theorem copy_own {P : Program} (W : World) (dT sT ty elem : TypeId) (k base g c n : Nat) (xs : List Value) (hu : P.underlying dT = some (.slice elem)) (hs : (P.info? elem).map (·.size) = some k)
    (h : W.ownsRow base elem k (.slice (some ⟨g, 0, none⟩) n c) n xs) (i m : Nat) (hi : i + m ≤ n) (cs : List Value) (hcs : cs.length = m * k) (a : Addr) (hsrc : ∀ j u, cs[j]? = some u → W.cell? (a.add j) = some u) (h1 : ∀ v ∈ cs, v.oneCell' = true)
    (dLen dCap sLen sCap : Nat) (hm : Nat.min sLen dLen = m) :
    ∃ W', (Builtin.copy_ #[dT, sT] ty #[.slice (some ⟨g, i * k, none⟩) dLen dCap, .slice (some a) sLen sCap]).run P W = .ok (goInt m) W' ∧ W'.ownsRow base elem k (.slice (some ⟨g, 0, none⟩) n c) n (xs.take (i * k) ++ (cs ++ xs.drop ((i + m) * k))) ∧
      W.grownBy W' (some g) := by
  rcases h.2 with ⟨e, -⟩ | ⟨g', c', cur, e, hb, hh, hnc, hcm, hsz, htk⟩
  · cases e
  · obtain ⟨rfl, rfl⟩ : g = g' ∧ c = c' := by
      injection e with e1 e2 e3
      injection e1 with e1
      injection e1 with e1
      exact ⟨e1, e3⟩
    have hik : (i + m) * k ≤ n * k := Nat.mul_le_mul_right k hi
    have hnk : n * k ≤ c * k := Nat.mul_le_mul_right k hnc
    have hmk : (i + m) * k = i * k + cs.length := by rw [Nat.add_mul, hcs]
    have hfit : i * k + cs.length ≤ cur.size := by rw [← hmk, hsz]; omega
    have hxl : xs.length = n * k := h.1
    refine ⟨_, (run_copy_rowK (P := P) W dT sT ty elem k g (i * k) dLen dCap a sLen sCap cur elem cs hu hs hh (by rw [hm]; exact hcs) hsrc hfit h1).trans (by rw [hm]), ⟨?_, .inr ⟨g, c, _, rfl, hb, setRow_heap W g cur _ elem _ hh, hnc, hcm, ?_, ?_⟩⟩, ⟨rfl, rfl, rfl, by simp [World.setRow], fun j _ hj => setRow_other W g j _ (fun e => hj (by rw [e]))⟩⟩
    · simp only [List.length_append, List.length_take, List.length_drop]
      omega
    · simp only [List.size_toArray, List.length_append, List.length_take, List.length_drop, Array.length_toList]
      omega
    · rw [List.toList_toArray, ← htk, List.append_assoc]
      apply List.ext_getElem?
      intro j
      have e1 : (cur.toList.take (i * k)).length = i * k := by rw [List.length_take, Array.length_toList]; omega
      have e2 : ((cur.toList.take (n * k)).take (i * k)).length = i * k := by rw [List.length_take, List.length_take, Array.length_toList]; omega
      rw [List.getElem?_take]
      by_cases hj : j < n * k
      · rw [if_pos hj]
        by_cases hj1 : j < i * k
        · rw [List.getElem?_append_left (by omega), List.getElem?_append_left (by omega), List.getElem?_take, if_pos hj1, List.getElem?_take, if_pos hj1, List.getElem?_take, if_pos hj]
        · rw [List.getElem?_append_right (l₁ := cur.toList.take (i * k)) (by omega), List.getElem?_append_right (l₁ := (cur.toList.take (n * k)).take (i * k)) (by omega), e1, e2]
          by_cases hj2 : j - i * k < cs.length
          · rw [List.getElem?_append_left hj2, List.getElem?_append_left hj2]
          · rw [List.getElem?_append_right (by omega), List.getElem?_append_right (by omega), List.getElem?_drop, List.getElem?_drop, List.getElem?_take, if_pos (by omega)]
            congr 1
            omega
      · rw [if_neg hj]
        symm
        apply List.getElem?_eq_none
        simp only [List.length_append, List.length_take, List.length_drop, Array.length_toList]
        omega
/-- A cut whose run is known, as one operation: alone, in a list, among those that a region begins with. -/
theorem wp_slice_run {P : Program} {op : Oper} {a : Act} {w : World} {K : Act → World → Prop} {Q : Exit → Act → World → Prop} (ty : TypeId) (x : Operand) (lo hi mx : Option Operand) (ho : op.op = .slice ty x lo hi mx)
    (vx : Value) (vl vh vm : Option Value) (v : Value) (hx : a.eval x = vx) (hl : lo.map a.eval = vl) (hh : hi.map a.eval = vh) (hm : mx.map a.eval = vm) (hr : (Instr.sliceAt ty vx vl vh vm).run P w = .ok v w) (h : K (a.put op.dst v) w) : op.wp P a w K Q := by
  unfold Oper.wp execOp
  subst hl hh hm
  simp only [ho, hx, Sem.run_bind, hr, Result.andThen_ok, Sem.run_pure]
  exact h
theorem wpList_slice_run {P : Program} {ops : Array Oper} {rest : List Oper} {op : Oper} {a : Act} {w : World} {Q : Exit → Act → World → Prop} (hgd : op.guard = none) (ty : TypeId) (x : Operand) (lo hi mx : Option Operand) (ho : op.op = .slice ty x lo hi mx)
    (vx : Value) (vl vh vm : Option Value) (v : Value) (hx : a.eval x = vx) (hl : lo.map a.eval = vl) (hh : hi.map a.eval = vh) (hm : mx.map a.eval = vm) (hr : (Instr.sliceAt ty vx vl vh vm).run P w = .ok v w)
    (h : wpList P ops Q rest (a.put op.dst v) w) : wpList P ops Q (op :: rest) a w :=
  wpList_plain hgd fun _ hK => wp_slice_run ty x lo hi mx ho vx vl vh vm v hx hl hh hm hr (hK _ _ h)
theorem still_slice {P : Program} {ops : Array Oper} {w : World} {Q : Act → Prop} {a : Act} {o : Oper} {rest : List Oper} (hg : o.guard = none) (ty : TypeId) (x : Operand) (lo hi mx : Option Operand) (ho : o.op = .slice ty x lo hi mx)
    (vx : Value) (vl vh vm : Option Value) (v : Value) (hx : a.eval x = vx) (hl : lo.map a.eval = vl) (hh : hi.map a.eval = vh) (hm : mx.map a.eval = vm) (hr : (Instr.sliceAt ty vx vl vh vm).run P w = .ok v w)
    (h : wpStill P ops w Q rest (a.put o.dst v)) : wpStill P ops w Q (o :: rest) a := by
  have hw : Region.wanted o (yielded ops a.tmps) = true := by simp [Region.wanted, hg]
  subst hl hh hm
  unfold wpStill
  rw [if_pos hw]
  unfold Oper.still execOp
  simp only [ho, hx, Sem.run_bind, hr, Result.andThen_ok, Sem.run_pure]
  exact ⟨rfl, h⟩
end Go.Proofs.Ytkahohgbcnchiaa
