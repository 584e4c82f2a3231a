/- Rows of structs of one's own, whatever their type: read, stored into, appended to, cut. Plain, over whatever program. No condition. -/
import Derived.Test.YtfdanlfiaoedfaaZCalb
import Derived.Deep.MidRow
import Derived.Maps.AppendAt
import Derived.Laws.OwnMore
import Derived.Great.BuildSlice
import Derived.Great.FillDense
import Derived.WalkKit
import Derived.Laws.CopyRow
import Derived.Laws.IdiomCopy
import Derived.Laws.CopyOwn
import Derived.Lib.SlBuf
import Derived.StillTailTactics
namespace Go.Proofs.Ytfdanlfiaoedfaa
open Go Go.RowKit

/-- Each value has K cells. -/
structure CellsK {α : Type} (cs : α → List Value) (K : Nat) : Prop where
  len : ∀ x, (cs x).length = K
  one : ∀ x v, v ∈ cs x → v.oneCell' = true
  pos : 0 < K
def rowK {α : Type} (cs : α → List Value) (l : List α) : List Value := l.flatMap cs
section
variable {α : Type} {cs : α → List Value} {K : Nat}
theorem rowK_nil : rowK cs [] = [] := rfl
theorem rowK_cons (x : α) (l : List α) : rowK cs (x :: l) = cs x ++ rowK cs l := rfl
theorem rowK_app (l m : List α) : rowK cs (l ++ m) = rowK cs l ++ rowK cs m := by unfold rowK; rw [List.flatMap_append]
theorem rowK_length (h : CellsK cs K) : ∀ l : List α, (rowK cs l).length = l.length * K
  | [] => by simp [rowK]
  | x :: r => by rw [rowK_cons, List.length_append, h.len, rowK_length h r, List.length_cons, Nat.add_mul, Nat.one_mul, Nat.add_comm]
theorem rowK_at (h : CellsK cs K) : ∀ (l : List α) (k j : Nat) (hk : k < l.length), j < K → (rowK cs l)[k * K + j]? = (cs l[k])[j]?
  | [], k, j, hk, _ => by simp at hk
  | x :: r, 0, j, _, hj => by
    rw [rowK_cons, Nat.zero_mul, Nat.zero_add, List.getElem?_append_left (by rw [h.len]; exact hj)]
    rfl
  | x :: r, k + 1, j, hk, hj => by
    rw [rowK_cons, List.getElem?_append_right (by rw [h.len, Nat.add_mul]; omega), show (k + 1) * K + j - (cs x).length = k * K + j by rw [h.len, Nat.add_mul]; omega]
    exact rowK_at h r k j (by simpa using hk) hj
theorem rowK_one (h : CellsK cs K) (l : List α) : ∀ v ∈ rowK cs l, v.oneCell' = true := by
  intro v hv
  unfold rowK at hv
  obtain ⟨x, _, hx⟩ := List.mem_flatMap.1 hv
  exact h.one x v hx
/-- Cells stored one behind the other. -/
def setMany : List Value → Nat → List Value → List Value
  | xs, _, [] => xs
  | xs, o, v :: r => setMany (xs.set o v) (o + 1) r
section
variable {W W' : World} {e : TypeId} {g c n : Nat}
theorem own_spot {v : Value} {xs : List Value} (h : W.ownsRow 0 e K v n xs) :
    (v = .slice none 0 0 ∧ n = 0) ∨ ∃ g cap, v = .slice (some ⟨g, 0, none⟩) n cap ∧ g < W.heap.size ∧ n ≤ cap ∧ cap ≤ maxLen ∧ (∀ j u, xs[j]? = some u → W.cell? ⟨g, j, none⟩ = some u) ∧ ∀ j, W.frozen? ⟨g, j, none⟩ = false := by
  rcases h.2 with h2 | ⟨g, cap, cur, rfl, hb, hh, hnc, hcm, _⟩
  · exact .inl h2
  · refine .inr ⟨g, cap, rfl, (h.lt g rfl).2, hnc, hcm, fun j u hj => ?_, fun j => h.frozenAt j⟩
    have := h.cells (g := g) rfl j u hj
    rw [Addr.add_mid, Nat.zero_add] at this
    exact this
theorem only_setCells {F : Nat → Prop} {a : World} (g : Nat) (hg : g < a.heap.size → F g) : ∀ (vs : List Value) (o : Nat) {b : World}, Only F a b → Only F a (b.setCells g o vs)
  | [], _, _, h => h
  | v :: r, o, b, h => by
    rw [World.setCells]
    exact only_setCells g hg r (o + 1) (h.setCell (p := ⟨g, o, none⟩) hg v)
end
/-- An index into such a slice. -/
theorem run_idx_K {P : Program} {ty e : TypeId} (hu : P.underlying ty = some (.slice (P.elem ty))) (he : P.elem ty = e) (hs : (P.info? e).map (·.size) = some K) (g o n c i : Nat) (h : i < n) (w : World) :
    (Instr.indexAt ty (.slice (some ⟨g, o, none⟩) n c) (.int .i64 (i : Int))).run P w = .ok (.pointer (some ⟨g, o + i * K, none⟩)) w := by
  rw [run_indexAt_slice w ty ⟨g, o, none⟩ n c .i64 (i : Int) hu, if_pos (by omega), he]
  have hs2 : (sizeOf e).run P w = .ok K w := by
    cases hq : P.info? e with
    | none => simp [hq] at hs
    | some ie =>
      have hi : ie.size = K := by simpa [hq] using hs
      simp [sizeOf, typeInfo, hq, hi]
  rw [hs2]
  simp [Result.andThen, Addr.add_mid]
/-- What is known of an element's type. -/
structure InfoK (P : Program) (e : TypeId) (K bytes : Nat) : Prop where
  ex : ∃ ie z, P.info? e = some ie ∧ ie.zero = some z ∧ ie.size = K ∧ ie.bytes = bytes ∧ z.cells.size = K
theorem InfoK.mk' {P : Program} {e : TypeId} {K bytes : Nat} (h : (P.info? e).map (fun i => (i.zero.map (fun z => z.cells.size), i.size, i.bytes)) = some (some K, K, bytes)) : InfoK P e K bytes := ⟨by
  cases hq : P.info? e with
  | none => simp [hq] at h
  | some ie =>
    rw [hq] at h
    simp only [Option.map_some, Option.some.injEq, Prod.mk.injEq] at h
    obtain ⟨h1, h2, h3⟩ := h
    cases hz : ie.zero with
    | none => simp [hz] at h1
    | some z => exact ⟨ie, z, rfl, hz, h2, h3, by simpa [hz] using h1⟩⟩
/-- A row, and one behind it, wherever that one lies. -/
theorem app_rowK {P : Program} {e ty : TypeId} {bytes : Nat} (hK : CellsK cs K) (hu : P.underlying ty = some (.slice e)) (hi : InfoK P e K bytes) (W : World) (v : Value) (l m : List α) (hown : W.ownsRow 0 e K v l.length (rowK cs l)) (a : Addr) (c : Nat)
    (hsrc : ∀ j u, (rowK cs m)[j]? = some u → W.cell? (a.add j) = some u) (hn : l.length + m.length ≤ 1000000) (hb : bytes ≤ 1000000) :
    ∃ v' w', (Builtin.append_ #[ty, ty] ty #[v, .slice (some a) m.length c]).run P W = .ok v' w' ∧ w'.ownsRow 0 e K v' (l ++ m).length (rowK cs (l ++ m)) ∧ W.grownBy w' v.ownBlock ∧ (v'.ownBlock = v.ownBlock ∨ v'.ownBlock = some W.heap.size) := by
  obtain ⟨ie, z, h1, h2, h3, h4, h5⟩ := hi.ex
  have hbb : (l.length + m.length) * bytes ≤ 140737488355328 := Nat.le_trans (Nat.mul_le_mul hn hb) (by decide)
  obtain ⟨v', w', e1, e2, e3, _, e4⟩ := run_append_own_at (P := P) W 0 ty ty e ie z K bytes hu h1 h2 h3 h4 h5 hK.pos v l.length (rowK cs l) hown
    a m.length c (rowK cs m) (rowK_length hK m) hsrc (rowK_one hK m) (by unfold maxLen; omega) hbb (Nat.zero_le _)
  refine ⟨v', w', e1, ?_, e3, e4⟩
  rw [List.length_append, rowK_app]
  exact e2
/-- One more, laid in a block of its own first. -/
theorem app_oneK {P : Program} {e ty : TypeId} {bytes : Nat} (hK : CellsK cs K) (hu : P.underlying ty = some (.slice e)) (hi : InfoK P e K bytes) (W : World) (v : Value) (l : List α) (x : α) (hown : W.ownsRow 0 e K v l.length (rowK cs l)) (hn : l.length + 1 ≤ 1000000) (hb : bytes ≤ 1000000) (t : TypeId) :
    ∃ g c w', (Builtin.append_ #[ty, ty] ty #[v, .slice (some ⟨W.heap.size, 0, none⟩) 1 1]).run P (W.alloc (.cells (cs x).toArray t)) = .ok (.slice (some ⟨g, 0, none⟩) (l.length + 1) c) w' ∧
      w'.ownsRow 0 e K (.slice (some ⟨g, 0, none⟩) (l ++ [x]).length c) (l ++ [x]).length (rowK cs (l ++ [x])) ∧ Only (fun k => v.ownBlock = some k) W w' ∧ (v.ownBlock = some g ∨ W.heap.size ≤ g) := by
  have hal : Below W.heap.size W (W.alloc (.cells (cs x).toArray t)) := (Below.refl _ _).alloc (Nat.le_refl _) _
  have hown2 : (W.alloc (.cells (cs x).toArray t)).ownsRow 0 e K v l.length (rowK cs l) := (Only.of_below (F := fun _ => False) hal).row hown (fun _ _ e => e)
  have hsb : BoxAt (W.alloc (.cells (cs x).toArray t)) W.heap.size (cs x) := BoxAt.new W _ _
  have hone : rowK cs [x] = cs x := by rw [rowK_cons, rowK_nil, List.append_nil]
  obtain ⟨v3, w4, hr, ho, hg, hd⟩ := app_rowK hK hu hi _ v l [x] hown2 ⟨W.heap.size, 0, none⟩ 1 (fun j u hj => by
    rw [Addr.add_mid, Nat.zero_add]
    rw [hone] at hj
    exact hsb.spot j u hj) (by simp only [List.length_singleton]; omega) hb
  have hO : Only (fun k => v.ownBlock = some k) W w4 := (Only.of_below (F := fun k => v.ownBlock = some k) hal).trans (Only.of_grown hg (fun k _ hk => hk)) (fun j hj hf => hf)
  have hl : (l ++ [x]).length = l.length + 1 := by simp
  have ho2 := ho
  rw [hl] at ho2
  rcases own_spot ho2 with ⟨-, hz⟩ | ⟨g, c, rfl, -⟩
  · omega
  · refine ⟨g, c, w4, hr, by rw [hl] at *; exact ho, hO, ?_⟩
    rcases hd with e | e
    · exact .inl e.symm
    · right
      have : some g = some (W.alloc (.cells (cs x).toArray t)).heap.size := e
      injection this with this
      rw [this]
      exact hal.size
end
/-- A store into one of a block's own cells. -/
theorem cell_putR {W : World} {m j i : Nat} {x u : Value} (h : W.cell? ⟨m, j, none⟩ = some u) : (W.setCell ⟨m, j, none⟩ x).cell? ⟨m, i, none⟩ = if i = j then some x else W.cell? ⟨m, i, none⟩ := by
  by_cases e : i = j
  · subst e; rw [if_pos rfl]; exact World.cell?_setCell_same _ _ _ h
  · rw [if_neg e, World.cell?_setCell_other]
    intro e2; injection e2 with _ e3 _; omega
/-- A slice of one, laid in a block of its own. -/
theorem run_build_one {P : Program} {e ty : TypeId} {K bytes : Nat} (hu : P.underlying ty = some (.slice e)) (hi : InfoK P e K bytes) (hp : 0 < K) (hK : K ≤ 10000) (cs : List Value) (hn : cs.length = K) (w : World) :
    (Instr.buildSlice ty 1 #[(0, .agg cs.toArray)]).run P w = .ok (.slice (some ⟨w.heap.size, 0, none⟩) 1 1) (w.alloc (.cells cs.toArray e)) := by
  obtain ⟨ie, z, h1, h2, h3, h4, h5⟩ := hi.ex
  refine run_buildSlice w ty e 1 _ cs.toArray ie z hu h1 h2 (by rw [h3]; omega) (by rw [h3]; omega) ?_
  have := Great.fill_whole (s := K) hp [Value.agg cs.toArray] ((Array.range (1 * K)).map (z.cells[· % z.cells.size]!))
    (fun v hv => by rw [List.mem_singleton.1 hv]; show cs.toArray.size = K; rw [List.size_toArray, hn]) (by simp only [Array.size_map, Array.size_range]; simp)
  rw [h3]
  refine Eq.trans this ?_
  simp [Value.cells]
theorem wp_build_one {P : Program} {e ty : TypeId} {K bytes : Nat} {o : Oper} {a : Act} {w : World} {N : Act → World → Prop} {Q : Exit → Act → World → Prop} (x : Operand) (ho : o.op = .buildSlice ty 1 #[(0, x)])
    (hu : P.underlying ty = some (.slice e)) (hi : InfoK P e K bytes) (hp : 0 < K) (hK : K ≤ 10000) (cs : List Value) (hx : a.eval x = .agg cs.toArray) (hn : cs.length = K)
    (h : N (a.put o.dst (.slice (some ⟨w.heap.size, 0, none⟩) 1 1)) (w.alloc (.cells cs.toArray e))) : o.wp P a w N Q := by
  unfold Oper.wp execOp
  have e1 : (Array.map (fun (y : Nat × Operand) => match y with | (i, y) => (i, a.eval y)) #[(0, x)]) = #[(0, Value.agg cs.toArray)] := by rw [← hx]; simp
  simp only [ho, e1, Sem.run_bind, run_build_one hu hi hp hK cs hn w, Result.andThen_ok]
  exact h
theorem wpList_build_one {P : Program} {e ty : TypeId} {K bytes : Nat} {ops : Array Oper} {rest : List Oper} {o : Oper} {a : Act} {w : World} {Q : Exit → Act → World → Prop} (hgd : o.guard = none) (x : Operand) (ho : o.op = .buildSlice ty 1 #[(0, x)])
    (hu : P.underlying ty = some (.slice e)) (hi : InfoK P e K bytes) (hp : 0 < K) (hK : K ≤ 10000) (cs : List Value) (hx : a.eval x = .agg cs.toArray) (hn : cs.length = K)
    (h : wpList P ops Q rest (a.put o.dst (.slice (some ⟨w.heap.size, 0, none⟩) 1 1)) (w.alloc (.cells cs.toArray e))) : wpList P ops Q (o :: rest) a w :=
  wpList_plain hgd fun _ hN => wp_build_one x ho hu hi hp hK cs hx hn (hN _ _ h)
end Go.Proofs.Ytfdanlfiaoedfaa
