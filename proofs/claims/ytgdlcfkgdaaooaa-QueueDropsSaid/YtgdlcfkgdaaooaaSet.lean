/- A set of ints of the call's own: a map[int]bool. No condition. -/
import Derived.Test.YtgdlcfkgdaaooaaAsr
import Derived.Test.YtgdlcfkgdaaooaaRows
import Derived.KernelRfl
import Derived.OpenShut
import Derived.Maps.OwnOps
import Derived.Maps.OwnSet
import Derived.Maps.RangeWalk
import Derived.Maps.Views
namespace Go.Proofs.Ytgdlcfkgdaaooaa
open Go Go.RowKit Go.Maps

/-- The key of a number. -/
abbrev keyI (x : Int) : Lit := .int .i64 x
theorem intLaw : Keyed Try.prog 3 := int_keyed Try.underlying3
theorem wfI {x : Int} (h1 : -9223372036854775808 ≤ x) (h2 : x ≤ 9223372036854775807) : (Lit.int .i64 x).wf = true := by
  simp [Lit.wf, IntKind.min, IntKind.max, IntKind.bits, IntKind.signed]
  omega
theorem keyI_of {x : Int} (h : (keyI x).wf = true) : keyOf Try.prog 3 (.int .i64 x) = some (keyI x) := keyOf_int_mk Try.underlying3 h
theorem keyI_same {x y : Int} (hx : (keyI x).wf = true) : (keyI x).sameKey (keyI y) = decide (x = y) := by
  by_cases h : x = y
  · subst h
    rw [decide_eq_true rfl]
    exact WideAt.sameKey_self (intLaw.key (keyI_of hx))
  · rw [decide_eq_false h]
    exact sameKey_ne (fun e => h (by injection e))
/-- How its elements read. -/
theorem readB_inv {v : Value} {z : DataW Unit × List MemPlace} (h : plainElem (H := Unit) Try.prog 4 v = some z) : ∃ x, v = .bool x ∧ z = (.lit (.bool x), []) := by
  have hu := Try.underlying4
  unfold plainElem at h
  rw [hu] at h
  cases v <;> simp at h
  exact ⟨_, rfl, h.symm⟩
/-- What a map tells as a set. -/
structure SetD (D : DataW Unit) (S : Int → Bool) : Prop where
  has_ : ∀ x, (keyI x).wf = true → Maps.has D (keyI x) = S x
  at_ : ∀ x, (keyI x).wf = true → S x = true → ∀ z, D.atKey (keyI x) z = .lit (.bool true)
theorem SetD.start : SetD (.map []) (fun _ => false) := ⟨fun _ _ => rfl, fun _ _ h => by cases h⟩
theorem SetD.put {D : DataW Unit} {S : Int → Bool} (h : SetD D S) (hD : IsMap D) {y : Int} (hy : (keyI y).wf = true) : SetD (D.put (keyI y) (.lit (.bool true))) (fun x => S x || decide (x = y)) where
  has_ := fun x hx => by
    by_cases e : x = y
    · subst e
      rw [has_put_same hD (intLaw.key (keyI_of hx)), decide_eq_true rfl, Bool.or_true]
    · rw [has_put_other (fun z => e (by injection z)), h.has_ x hx, decide_eq_false e, Bool.or_false]
  at_ := fun x hx hs z => by
    by_cases e : x = y
    · subst e
      exact atKey_put_same hD (intLaw.key (keyI_of hx)) _ _
    · rw [atKey_put_other (fun z => e (by injection z))]
      rw [decide_eq_false e, Bool.or_false] at hs
      exact h.at_ x hx hs z
/-- The map in memory. -/
def setA (b n : Nat) (S : Int → Bool) : Asr := fun F W => (∃ D, W.ownsMap Try.prog 3 (plainElem (H := Unit) Try.prog 4) b n D ∧ IsMap D ∧ SetD D S) ∧ ∀ k, F k ↔ k = b
theorem ownsMap_block {P : Program} {k : TypeId} {R : Value → Option (DataW Unit × List MemPlace)} {w w2 : World} {b n : Nat} {D : DataW Unit} (h : w.ownsMap P k R b n D) (hb : w2.heap[b]? = w.heap[b]?) : w2.ownsMap P k R b n D := by
  obtain ⟨es, clock, h1, r⟩ := h
  exact ⟨es, clock, hb.trans h1, r⟩
theorem ranges_block {P : Program} {k : TypeId} {R : Value → Option (DataW Unit × List MemPlace)} {w w2 : World} {b r n cnt : Nat} {D : DataW Unit} {left : Lit → Bool} (h : w.ranges P k R b r n D left cnt) (hb : w2.heap[b]? = w.heap[b]?) (hr : w2.heap[r]? = w.heap[r]?) : w2.ranges P k R b r n D left cnt := by
  obtain ⟨es, clock, since, seen, c0, h1, h2, h3, h4, h5, rest⟩ := h
  exact ⟨es, clock, since, seen, c0, hb.trans h1, h2, h3, h4, hr.trans h5, rest⟩
theorem isAsr_set (b n : Nat) (S : Int → Bool) : IsAsr (setA b n S) where
  near := fun F W ⟨⟨D, h, _, _⟩, e⟩ k hk => by rw [(e k).1 hk]; exact h.lt
  keep := fun F G W W' ⟨⟨D, h, hm, hs⟩, e⟩ hO hG => ⟨⟨D, ownsMap_block h (hO.block b h.lt (hG b ((e b).2 rfl))), hm, hs⟩, e⟩
/-- The map, and the loop over it. -/
def rangeA (b r n cnt : Nat) (S left : Int → Bool) : Asr := fun F W => (∃ D lf, W.ranges Try.prog 3 (plainElem (H := Unit) Try.prog 4) b r n D lf cnt ∧ SetD D S ∧ ∀ x, (keyI x).wf = true → lf (keyI x) = left x) ∧ ∀ k, F k ↔ k = b ∨ k = r
theorem isAsr_range (b r n cnt : Nat) (S left : Int → Bool) : IsAsr (rangeA b r n cnt S left) where
  near := fun F W ⟨⟨D, lf, h, _, _⟩, e⟩ k hk => by
    rcases (e k).1 hk with rfl | rfl
    · exact h.owns.lt
    · exact h.lt
  keep := fun F G W W' ⟨⟨D, lf, h, hs, hl⟩, e⟩ hO hG => ⟨⟨D, lf, ranges_block h (hO.block b h.owns.lt (hG b ((e b).2 (.inl rfl)))) (hO.block r h.lt (hG r ((e r).2 (.inr rfl)))), hs, hl⟩, e⟩
section
variable {w wr w2 : World} {B : Asr} {b n : Nat} {S : Int → Bool}
theorem Held.newset (L : IsAsr B) (h : Held w wr B) : Held w (wr.alloc (.map #[] 0)) (star (setA wr.heap.size 0 (fun _ => false)) B) :=
  h.more L ((Below.refl _ _).alloc (Nat.le_refl _) _) ⟨fun k => k = wr.heap.size, ⟨⟨.map [], World.ownsMap_made _ _ _ _, ⟨_, rfl⟩, SetD.start⟩, fun _ => Iff.rfl⟩, fun k e => by omega⟩
/-- One more. -/
theorem Held.setPut (L : IsAsr B) (h : Held w wr (star (setA b n S) B)) (hn : n < 1000000) {x : Int} (hx : (keyI x).wf = true) :
    ∃ w', (Instr.mapUpdate 52 (.map (some b)) (.int .i64 x) (.bool true)).run Try.prog wr = .ok () w' ∧ Held w w' (star (setA b (n + 1) (fun y => S y || decide (y = x))) B) := by
  have h' := h
  obtain ⟨⟨F, ⟨F1, F2, ⟨⟨D, ho, hm, hs⟩, e1⟩, b2, d, e⟩, h2⟩, h3⟩ := h'
  obtain ⟨w', hr, ho', hg⟩ := ho.update (d := .lit (.bool true)) (ps := []) intLaw Try.underlying52 (by unfold maxLen; omega) (keyI_of hx) (plainElem_bool Try.underlying4 true)
  refine ⟨w', hr, Held.step (isAsr_set _ _ _) L h (fun G hG => ?_)⟩
  obtain ⟨⟨D2, ho2, hm2, hs2⟩, e2⟩ := hG
  have hDD : D2 = D := by
    obtain ⟨es, c, q1, q2, q3, q4⟩ := ho
    obtain ⟨es', c', r1, r2, r3, r4⟩ := ho2
    rw [q1] at r1
    injection r1 with r1
    injection r1 with r1 _
    rw [q4, r4, r1]
  subst hDD
  exact ⟨fun k => k = b, ⟨⟨_, ho', IsMap.put hm _ _, hs.put hm hx⟩, fun _ => Iff.rfl⟩, Only.of_grown hg (fun k _ hk => (e2 k).2 (by injection hk with hk; exact hk.symm)), fun k _ x => (e2 k).2 x⟩
/-- Is one there? -/
theorem Held.setAsk (h : Held w wr (star (setA b n S) B)) {x : Int} (hx : (keyI x).wf = true) : (Instr.lookup 52 (.map (some b)) (.int .i64 x) false).run Try.prog wr = .ok (.bool (S x)) wr := by
  obtain ⟨⟨F, ⟨F1, F2, ⟨⟨D, ho, hm, hs⟩, e1⟩, b2, d, e⟩, h2⟩, h3⟩ := h
  have hz : (zeroValue 4).run Try.prog wr = .ok (.bool false) wr := by
    have hi : (Try.prog.info? 4).map (·.zero) = some (some (.bool false)) := by kernel_rfl
    cases hq : Try.prog.info? 4 with
    | none => simp [hq] at hi
    | some ie =>
      rw [hq] at hi
      simp at hi
      simp [zeroValue, typeInfo, hq, hi]
  obtain ⟨v, ps, hr, hv⟩ := ho.lookup intLaw Try.underlying52 hz (plainElem_bool Try.underlying4 false) (keyI_of hx)
  obtain ⟨y, rfl, hy⟩ := readB_inv hv
  rw [hr]
  have h1 : D.atKey (keyI x) (.lit (.bool false)) = .lit (.bool y) := by injection hy
  cases hsx : S x with
  | true =>
    rw [hs.at_ x hx hsx] at h1
    injection h1 with h1
    injection h1 with h1
    rw [← h1]
  | false =>
    have h2 := hs.has_ x hx
    rw [hsx] at h2
    rw [atKey_of_not_has h2] at h1
    injection h1 with h1
    injection h1 with h1
    rw [← h1]
/-- A loop over it. -/
theorem Held.setRange (L : IsAsr B) (h : Held w wr (star (setA b n S) B)) :
    ∃ w' cnt, (Instr.range 52 (.map (some b))).run Try.prog wr = .ok (.pointer (some ⟨wr.heap.size, 0, none⟩)) w' ∧ Held w w' (star (rangeA b wr.heap.size n cnt S S) B) := by
  have h' := h
  obtain ⟨⟨F, ⟨F1, F2, ⟨⟨D, ho, hm, hs⟩, e1⟩, b2, d, e⟩, h2⟩, h3⟩ := h'
  obtain ⟨w', hr, hrg, hg, hsz⟩ := ho.range intLaw Try.underlying52
  refine ⟨w', Maps.size D, hr, Held.step (isAsr_set _ _ _) L h (fun G hG => ?_)⟩
  obtain ⟨⟨D2, ho2, hm2, hs2⟩, e2⟩ := hG
  have hDD : D2 = D := by
    obtain ⟨es, c, q1, q2, q3, q4⟩ := ho
    obtain ⟨es', c', r1, r2, r3, r4⟩ := ho2
    rw [q1] at r1
    injection r1 with r1
    injection r1 with r1 _
    rw [q4, r4, r1]
  subst hDD
  exact ⟨fun k => k = b ∨ k = wr.heap.size, ⟨⟨_, _, hrg, hs2, fun x hx => hs2.has_ x hx⟩, fun _ => Iff.rfl⟩, Only.of_grown hg (fun k _ hk => by cases hk), fun k hk x => by
    rcases x with x | x
    · exact (e2 k).2 x
    · omega⟩
/-- Its next round: nothing is left, or one that was left. -/
theorem Held.setNext {r cnt : Nat} {left : Int → Bool} (L : IsAsr B) (h : Held w wr (star (rangeA b r n cnt S left) B)) (ty : TypeId) :
    (cnt = 0 ∧ (∀ x, (keyI x).wf = true → left x = false) ∧ (Instr.next (.pointer (some ⟨r, 0, none⟩)) false ty).run Try.prog wr = .ok (.tuple #[.bool false]) wr) ∨
    ∃ x w' cnt', (keyI x).wf = true ∧ left x = true ∧ S x = true ∧ (Instr.next (.pointer (some ⟨r, 0, none⟩)) false ty).run Try.prog wr = .ok (.tuple #[.bool true, .int .i64 x, .bool true]) w' ∧ cnt' < cnt ∧
      (Instr.entry (.pointer (some ⟨r, 0, none⟩))).run Try.prog w' = .ok (.tuple #[.int .i64 x, .bool true]) w' ∧ Held w w' (star (rangeA b r n cnt' S (fun y => left y && !decide (y = x))) B) := by
  have h' := h
  obtain ⟨⟨F, ⟨F1, F2, ⟨⟨D, lf, hrg, hs, hl⟩, e1⟩, b2, d, e⟩, h2⟩, h3⟩ := h'
  rcases hrg.next intLaw ty with ⟨h0, hle, hrun⟩ | ⟨key, v, kl, y, w', cnt', hkey, hlk, hv, hat, hrun, hrg', hlt, hgr, hsz, hen⟩
  · exact .inl ⟨h0, fun x hx => by rw [← hl x hx]; exact hle _, hrun⟩
  · right
    obtain ⟨x, rfl, rfl, hx⟩ := Maps.keyOf_int_inv Try.underlying3 hkey
    obtain ⟨z, rfl, rfl⟩ := readB_inv hv
    have hSx : S x = true := by rw [← hs.has_ x hx]; exact has_true_of_atKey hat
    have hz : z = true := by
      have h1 := hat (.lit (.bool false))
      rw [hs.at_ x hx hSx] at h1
      injection h1 with h1
      injection h1 with h1
      exact h1.symm
    subst hz
    refine ⟨x, w', cnt', hx, by rw [← hl x hx]; exact hlk, hSx, hrun, hlt, hen, Held.step (isAsr_range _ _ _ _ _ _) L h (fun G hG => ?_)⟩
    obtain ⟨-, e2⟩ := hG
    refine ⟨fun k => k = b ∨ k = r, ⟨⟨D, _, hrg', hs, fun t ht => ?_⟩, fun _ => Iff.rfl⟩, Only.of_grown hgr (fun k _ hk => (e2 k).2 (.inr (by injection hk with hk; exact hk.symm))), fun k _ z => (e2 k).2 z⟩
    dsimp only
    rw [hl t ht, keyI_same ht]
theorem Held.rangeLeft {r cnt : Nat} {left : Int → Bool} (h : Held w wr (star (rangeA b r n cnt S left) B)) : wr.rangeLeft b r = cnt := by
  obtain ⟨⟨F, ⟨F1, F2, ⟨⟨D, lf, hrg, hs, hl⟩, e1⟩, b2, d, e⟩, h2⟩, h3⟩ := h
  exact hrg.left_eq
end
section
variable {P : Program} {w w' : World} {ops : Array Oper} {rest : List Oper} {o : Oper} {a : Act} {Q : Exit → Act → World → Prop}
/-- Operations on a map whose runs are known. -/
theorem wpList_mapUpdate_run (hg : o.guard = none) (m x v : Operand) (t : TypeId) (hop : o.op = Op.mapUpdate t m x v) (vm vx vv : Value) (hm : a.eval m = vm) (hx : a.eval x = vx) (hv : a.eval v = vv)
    (hr : (Instr.mapUpdate t vm vx vv).run P w = .ok () w') (h : wpList P ops Q rest (a.put o.dst undef) w') : wpList P ops Q (o :: rest) a w := by
  refine wpList_plain hg fun K' hK' => ?_
  unfold Oper.wp
  simp [execOp, hop, hm, hx, hv, hr, Result.andThen]
  exact hK' _ _ h
theorem wpList_range_run (hg : o.guard = none) (m : Operand) (t : TypeId) (hop : o.op = Op.range t m) (vm v : Value) (hm : a.eval m = vm)
    (hr : (Instr.range t vm).run P w = .ok v w') (h : wpList P ops Q rest (a.put o.dst v) w') : wpList P ops Q (o :: rest) a w := by
  refine wpList_plain hg fun K' hK' => ?_
  unfold Oper.wp
  simp [execOp, hop, hm, hr, Result.andThen]
  exact hK' _ _ h
theorem wpList_next_run (hg : o.guard = none) (it : Operand) (hop : o.op = Op.next it false) (vi v : Value) (hi : a.eval it = vi)
    (hr : (Instr.next vi false o.type).run P w = .ok v w') (h : wpList P ops Q rest (a.put o.dst v) w') : wpList P ops Q (o :: rest) a w := by
  refine wpList_plain hg fun K' hK' => ?_
  unfold Oper.wp
  simp [execOp, hop, hi, hr, Result.andThen]
  exact hK' _ _ h
/-- The step of the loop over a set. -/
theorem wpList_next_set {ops : Array Oper} {rest : List Oper} {o : Oper} {a : Act} {Q : Exit → Act → World → Prop} {w wr : World} {B : Asr} {b n r cnt : Nat} {S left : Int → Bool} (hg : o.guard = none) (it : Operand) (hop : o.op = Op.next it false)
    (hi : a.eval it = .pointer (some ⟨r, 0, none⟩)) (L : IsAsr B) (h : Held w wr (star (rangeA b r n cnt S left) B))
    (hDone : cnt = 0 → (∀ x, (keyI x).wf = true → left x = false) → wpList Try.prog ops Q rest (a.put o.dst (.tuple #[.bool false])) wr)
    (hMore : ∀ x w' cnt', (keyI x).wf = true → left x = true → S x = true → cnt' < cnt → (Instr.entry (.pointer (some ⟨r, 0, none⟩))).run Try.prog w' = .ok (.tuple #[.int .i64 x, .bool true]) w' →
      Held w w' (star (rangeA b r n cnt' S (fun y => left y && !decide (y = x))) B) → wpList Try.prog ops Q rest (a.put o.dst (.tuple #[.bool true, .int .i64 x, .bool true])) w') : wpList Try.prog ops Q (o :: rest) a wr := by
  rcases h.setNext L o.type with ⟨h0, hl, hr⟩ | ⟨x, w', cnt', hx, hlx, hS, hr, hlt, hen, hh⟩
  · exact wpList_next_run hg it hop _ _ hi hr (hDone h0 hl)
  · exact wpList_next_run hg it hop _ _ hi hr (hMore x w' cnt' hx hlx hS hlt hen hh)
end
end Go.Proofs.Ytgdlcfkgdaaooaa
