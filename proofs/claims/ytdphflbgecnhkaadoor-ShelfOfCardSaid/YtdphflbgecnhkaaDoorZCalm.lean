/- A region that draws its order, of operations that each yield one value in every world that meets a condition, and keep the condition (loads, arithmetic, calls of known answers): it is walked in the order of its list. Plain: over whatever program. -/
import Derived.OrdersHeld
import Derived.RowKit
import Derived.Deep.MidRow
namespace Go.Proofs.YtdphflbgecnhkaaDoor
open Go

section
variable {P : Program} {ops : Array Oper} {Q : Exit → Act → World → Prop} {md : Region.Mode} {S : World → Prop}
/-- What an operation's run comes to: the value v, and the condition holds behind it. -/
def calmEnd (P : Program) (S : World → Prop) (v : Value) : Result Next → Prop
  | .ok (.value u) w' => u = v ∧ S w'
  | .ok .skip w' => undef = v ∧ S w'
  | .ok (.enter f args) w' => Calls P f args w' fun e w'' => e = .returned v ∧ S w''
  | _ => False
/-- In every world that meets S the operation yields v, and keeps S. -/
def CalmIf (P : Program) (ops : Array Oper) (S : World → Prop) (o : Oper) (v : Value) (a : Act) : Prop :=
  (Region.wanted o (yielded ops a.tmps) = true ∧ ∀ w, S w → calmEnd P S v ((execOp a.eval o).run P w)) ∨
  (Region.wanted o (yielded ops a.tmps) = false ∧ v = undef)
theorem CalmIf.wpOp {i : Nat} {o : Oper} {v : Value} {a : Act} (hi : ops[i]? = some o) (hy : CalmIf P ops S o v a)
    {K : Act → World → Prop} {w : World} (hS : S w) (h : ∀ w', S w' → K (a.put o.dst v) w') : wpOp P ops Q i K a w := by
  unfold Go.wpOp
  simp only [hi]
  rcases hy with ⟨hw, hv⟩ | ⟨hw, rfl⟩
  · simp only [hw, if_true, Oper.wp]
    left
    have h1 := hv w hS
    generalize (execOp a.eval o).run P w = r at *
    cases r with
    | ok n w' =>
      cases n <;> simp only [Oper.upon, calmEnd] at h1 ⊢
      case value u => exact h1.1 ▸ h w' h1.2
      case skip => exact h1.1 ▸ h w' h1.2
      case enter f args =>
        refine Calls.mono h1 fun e w'' he => ?_
        obtain ⟨rfl, hs⟩ := he
        exact h w'' hs
    | halt x w' => cases x <;> exact h1.elim
  · simp only [hw, Bool.false_eq_true, if_false]; exact h w hS
theorem CalmIf.of_same {o : Oper} {v : Value} {a a' : Act} (hy : CalmIf P ops S o v a) (he : execOp a'.eval o = execOp a.eval o)
    (hw : Region.wanted o (yielded ops a'.tmps) = Region.wanted o (yielded ops a.tmps)) : CalmIf P ops S o v a' := by
  unfold CalmIf at *
  rw [he, hw]
  exact hy
/-- Whatever order is picked, each operation is calm when it comes up. -/
def wpU (P : Program) (md : Region.Mode) (ops : Array Oper) (Q : Exit → Act → World → Prop) (S : World → Prop) : Nat → Array Bool → Act → Prop
  | 0, listed, a => Region.ready md ops listed = [] ∧ ∀ w, S w → Q .normal a w
  | fuel + 1, listed, a =>
    (Region.ready md ops listed = [] → ∀ w, S w → Q .normal a w) ∧
    ∀ i ∈ Region.ready md ops listed, ∃ o v, ops[i]? = some o ∧ CalmIf P ops S o v a ∧ wpU P md ops Q S fuel (listed.setIfInBounds i true) (a.put o.dst v)
theorem wpAny_of_calm : ∀ (fuel : Nat) (listed : Array Bool) (a : Act), wpU P md ops Q S fuel listed a → ∀ w, S w → wpAny P md ops Q fuel listed a w
  | 0, _, _, h, w, hS => ⟨h.1, h.2 w hS⟩
  | fuel + 1, listed, a, h, w, hS => ⟨fun he => h.1 he w hS, fun i hi => by
    obtain ⟨o, v, ho, hc, hr⟩ := h.2 i hi
    exact hc.wpOp ho hS (fun w' hS' => wpAny_of_calm fuel _ _ hr w' hS')⟩
/-- An operation that may come up, is calm, and that the others wait for or stand apart from, may be taken first. -/
theorem wpU_first {i : Nat} {oi : Oper} {v : Value} (hi : ops[i]? = some oi) (hsel : ∀ (j : Nat) (o : Oper) cs b, ops[j]? = some o → o.op ≠ .select cs b) :
    ∀ (fuel : Nat) (listed : Array Bool) (a : Act),
      (∀ j oj, ops[j]? = some oj → j ≠ i → listed.getD j true = false → (∀ e ∈ oj.after, Region.binds md e = true → e.on ≠ i) → oi.apart ops oj = true) →
      i ∈ Region.ready md ops listed → CalmIf P ops S oi v a →
      wpU P md ops Q S fuel (listed.setIfInBounds i true) (a.put oi.dst v) → wpU P md ops Q S (fuel + 1) listed a := by
  intro fuel
  induction fuel with
  | zero =>
    intro listed a _ hr hy H
    refine ⟨fun h => (by rw [h] at hr; cases hr), fun j hj => ?_⟩
    by_cases hji : j = i
    · subst hji; exact ⟨oi, v, hi, hy, H⟩
    · have := ready_mono hj hji
      rw [H.1] at this
      cases this
  | succ fuel ih =>
    intro listed a hfree hr hy H
    refine ⟨fun h => (by rw [h] at hr; cases hr), fun j hj => ?_⟩
    by_cases hji : j = i
    · subst hji; exact ⟨oi, v, hi, hy, H⟩
    · obtain ⟨oj, u, hoj, hcj, hrj⟩ := H.2 j (ready_mono hj hji)
      obtain ⟨hjun, oj', hoj', hall⟩ := mem_ready.1 hj
      obtain rfl : oj = oj' := Option.some.inj (hoj.symm.trans hoj')
      have hnot : ∀ e ∈ oj.after, Region.binds md e = true → e.on ≠ i := fun e he hb heq => by
        have h1 := hall e he hb
        have h0 := (mem_ready.1 hr).1
        rw [heq] at h1
        rcases Nat.lt_or_ge i listed.size with h' | h'
        · simp [h'] at h0 h1; rw [h0] at h1; cases h1
        · simp [Array.getElem?_eq_none h'] at h1
      have hap := hfree j oj hoj hji hjun hnot
      obtain ⟨h1, h2, h3⟩ := Oper.apart_spec hap
      have cj : CalmIf P ops S oj u a := hcj.of_same (execOp_put oj (fun cs b => hsel j oj cs b hoj) a oi.dst v h1).symm (wanted_put oj a oi.dst v h1).symm
      have ci : CalmIf P ops S oi v (a.put oj.dst u) := hy.of_same (execOp_put oi (fun cs b => hsel i oi cs b hi) a oj.dst u h3) (wanted_put oi a oj.dst u h3)
      refine ⟨oj, u, hoj, cj, ih (listed.setIfInBounds j true) (a.put oj.dst u) ?_ (ready_mono hr (Ne.symm hji)) ci ?_⟩
      · intro k ok hk hki hun hno
        refine hfree k ok hk hki ?_ hno
        by_cases hjk : j = k
        · subst hjk; exact hjun
        · rw [getD_set_ne true hjk] at hun; exact hun
      · rw [Array.setIfInBounds_comm _ _ hji, ← Act.put_comm a v u h2]
        exact hrj
/-- The first so many have come up. -/
def upToL (n k : Nat) : Array Bool := Array.ofFn (fun i : Fin n => decide (i.val < k))
theorem upToL_zero (n : Nat) : upToL n 0 = Array.replicate n false := by
  unfold upToL
  apply Array.ext
  · simp
  · intro i h1 h2
    simp
theorem upToL_get (n k j : Nat) (d : Bool) : (upToL n k).getD j d = if j < n then decide (j < k) else d := by
  unfold upToL
  by_cases h : j < n
  · simp [h]
  · simp [h]
theorem upToL_set (n k : Nat) : (upToL n k).setIfInBounds k true = upToL n (k + 1) := by
  unfold upToL
  apply Array.ext
  · simp
  · intro i h1 h2
    have h3 : i < n := by simpa using h2
    have h4 : i < (Array.ofFn (fun i : Fin n => decide (i.val < k))).size := by simpa using h3
    by_cases e : k = i
    · subst e; simp
    · rw [Array.getElem_setIfInBounds_ne h4 e, Array.getElem_ofFn, Array.getElem_ofFn]
      have e2 : i < k ↔ i < k + 1 := ⟨fun h => Nat.lt_succ_of_lt h, fun h => Nat.lt_of_le_of_ne (Nat.le_of_lt_succ h) (fun x => e x.symm)⟩
      exact decide_eq_decide.2 e2
/-- Each waits only for what stands ahead of it, and is apart from all behind it that don't wait for it. -/
def linedB (md : Region.Mode) (ops : Array Oper) : Bool :=
  Region.noSelect ops && (List.range ops.size).all fun i => (match ops[i]? with
    | some oi => oi.after.all (fun e => !Region.binds md e || decide (e.on < i)) && (List.range ops.size).all fun j => decide (j ≤ i) || (match ops[j]? with
        | some oj => oj.after.any (fun e => Region.binds md e && e.on == i) || oi.apart ops oj
        | none => true)
    | none => true)
/-- A list of operations, each calm behind those ahead of it. -/
def calmList (P : Program) (ops : Array Oper) (Q : Exit → Act → World → Prop) (S : World → Prop) : List Oper → Act → Prop
  | [], a => ∀ w, S w → Q .normal a w
  | o :: r, a => ∃ v, CalmIf P ops S o v a ∧ calmList P ops Q S r (a.put o.dst v)
theorem wpU_lined (hl : linedB md ops = true) : ∀ (l : List Oper) (k : Nat) (a : Act), ops.toList.drop k = l → calmList P ops Q S l a → wpU P md ops Q S l.length (upToL ops.size k) a
  | [], k, a, hd, h => by
    have hk : ops.size ≤ k := by
      have := congrArg List.length hd
      simp at this
      omega
    refine ⟨?_, h⟩
    cases e : Region.ready md ops (upToL ops.size k) with
    | nil => rfl
    | cons j r =>
      have hj : j ∈ Region.ready md ops (upToL ops.size k) := by rw [e]; exact List.mem_cons_self ..
      obtain ⟨h1, o, ho, _⟩ := mem_ready.1 hj
      have hlt : j < ops.size := (Array.getElem?_eq_some_iff.1 ho).1
      rw [upToL_get, if_pos hlt, decide_eq_true (by omega)] at h1
      cases h1
  | o :: r, k, a, hd, h => by
    obtain ⟨v, hc, hr⟩ := h
    have hk : k < ops.size := by
      have := congrArg List.length hd
      simp at this
      omega
    have ho : ops[k]? = some o := by
      have h0 : (ops.toList.drop k)[0]? = some o := by rw [hd]; rfl
      rw [List.getElem?_drop] at h0
      simpa using h0
    have hdr : ops.toList.drop (k + 1) = r := by
      have := congrArg List.tail hd
      simpa [List.tail_drop] using this
    unfold linedB at hl
    rw [Bool.and_eq_true] at hl
    obtain ⟨hns, hl⟩ := hl
    have hlk := List.all_eq_true.1 hl k (List.mem_range.2 hk)
    simp only [ho, Bool.and_eq_true] at hlk
    obtain ⟨hw, ha⟩ := hlk
    refine wpU_first ho (Region.noSelect_spec hns) r.length (upToL ops.size k) a ?_ ?_ hc ?_
    · intro j oj hj hjk hun hno
      have hlt : j < ops.size := (Array.getElem?_eq_some_iff.1 hj).1
      rw [upToL_get, if_pos hlt, decide_eq_false_iff_not] at hun
      have h1 := List.all_eq_true.1 ha j (List.mem_range.2 hlt)
      simp only [hj, Bool.or_eq_true, decide_eq_true_eq] at h1
      rcases h1 with h1 | h1 | h1
      · omega
      · obtain ⟨e, he, hb⟩ := Array.any_eq_true'.1 h1
        simp only [Bool.and_eq_true, beq_iff_eq] at hb
        exact absurd hb.2 (hno e he hb.1)
      · exact h1
    · refine mem_ready.2 ⟨by rw [upToL_get, if_pos hk, decide_eq_false (by omega)], o, ho, fun e he hb => ?_⟩
      have h1 := Array.all_eq_true_iff_forall_mem.1 hw e he
      rw [hb] at h1
      simp only [Bool.not_true, Bool.false_or, decide_eq_true_eq] at h1
      rw [upToL_get, if_pos (by omega), decide_eq_true h1]
    · rw [upToL_set]
      refine wpU_lined (by unfold linedB; rw [Bool.and_eq_true]; exact ⟨hns, hl⟩) r (k + 1) _ hdr hr
/-- THE BEGINNING. -/
theorem wp_region_calm (S : World → Prop) {l : List Oper} {id : Nat} {a : Act} {w : World} (hm : P.follows .mixedOrders = true) (hl : linedB .any l.toArray = true) (hS : S w.drew)
    (h : calmList P l.toArray Q S l a) : (Code.region id l.toArray true).wp P Q a w := by
  refine wp_region_any hm ?_
  have h1 := wpU_lined (P := P) (Q := Q) (S := S) hl l 0 a (by simp) h
  rw [upToL_zero] at h1
  have h2 := wpAny_of_calm _ _ _ h1 w.drew hS
  simpa using h2
/-! The steps. -/
theorem calm_pure {o : Oper} {r : List Oper} {a : Act} {v : Value} (hw : Region.wanted o (yielded ops a.tmps) = true) (hv : ∀ w, (execOp a.eval o).run P w = .ok (.value v) w)
    (h : calmList P ops Q S r (a.put o.dst v)) : calmList P ops Q S (o :: r) a := ⟨v, .inl ⟨hw, fun w hS => by rw [hv w]; exact ⟨rfl, hS⟩⟩, h⟩
theorem calm_read {o : Oper} {r : List Oper} {a : Act} {v : Value} (hw : Region.wanted o (yielded ops a.tmps) = true) (hv : ∀ w, S w → (execOp a.eval o).run P w = .ok (.value v) w)
    (h : calmList P ops Q S r (a.put o.dst v)) : calmList P ops Q S (o :: r) a := ⟨v, .inl ⟨hw, fun w hS => by rw [hv w hS]; exact ⟨rfl, hS⟩⟩, h⟩
theorem calm_call {o : Oper} {r : List Oper} {a : Act} {v : Value} (f : FuncId) (args : Array Value) (hw : Region.wanted o (yielded ops a.tmps) = true) (hv : ∀ w, (execOp a.eval o).run P w = .ok (.enter f args) w)
    (hc : ∀ w, S w → Calls P f args w fun e w' => e = .returned v ∧ S w')
    (h : calmList P ops Q S r (a.put o.dst v)) : calmList P ops Q S (o :: r) a := ⟨v, .inl ⟨hw, fun w hS => by rw [hv w]; exact hc w hS⟩, h⟩
theorem calm_load {o : Oper} {r : List Oper} {a : Act} (ty : TypeId) (x : Operand) (b k : Nat) (cs : List Value) (d : TypeDesc) (hw : Region.wanted o (yielded ops a.tmps) = true) (ho : o.op = .load ty x)
    (hx : a.eval x = .pointer (some ⟨b, k, none⟩)) (hS : ∀ w, S w → w.rangeAt b k cs) (hu : P.underlying ty = some d) (hd : d.isRow = true) (hi : (P.info? ty).map (·.size) = some cs.length)
    (h : calmList P ops Q S r (a.put o.dst (.agg cs.toArray))) : calmList P ops Q S (o :: r) a :=
  calm_read hw (fun w hSw => by
    unfold execOp
    simp only [ho, hx, Instr.loadAt, Instr.sureAddr, Sem.run_bind, Sem.run_pure, Result.andThen_ok, run_loadVar_mid w b k ty cs d (hS w hSw) hu hd hi]) h
end
end Go.Proofs.YtdphflbgecnhkaaDoor
