/- A region that draws: a load, a load whose value is laid in new memory at once, and then what must follow in order: three orders, one goal. Plain, over whatever program. No condition. -/
import Derived.RegionTactic
import Derived.StillTail
import Derived.WalkKit
namespace Go.Proofs.Ytgdlcfkgdaaooaa
open Go

theorem put_comm (a : Act) {i j : Nat} (h : i ≠ j) (v u : Value) : (a.put (some i) v).put (some j) u = (a.put (some j) u).put (some i) v := by
  unfold Act.put
  simp only [Array.setIfInBounds_comm v u h]
theorem wpAny_fork {P : Program} {md : Region.Mode} {ops : Array Oper} {Q : Exit → Act → World → Prop} {i : Nat} {listed : Array Bool} {a : Act} {w w1 : World} {oa ob oc : Oper} {va vb vc : Value} {fuel da db dc : Nat}
    (ha : ops[i]? = some oa) (hb : ops[i + 1]? = some ob) (hc : ops[i + 2]? = some oc) (ga : oa.guard = none) (gb : ob.guard = none) (gc : oc.guard = none)
    (_ea : oa.dst = some da) (_eb : ob.dst = some db) (_ec : oc.dst = some dc) (nab : da ≠ db) (nac : da ≠ dc)
    (hf : fuel = (ops.toList.drop (i + 3)).length + 3)
    (r0 : Region.ready md ops listed = [i, i + 1])
    (r1 : Region.ready md ops (listed.setIfInBounds i true) = [i + 1])
    (r2 : Region.ready md ops ((listed.setIfInBounds i true).setIfInBounds (i + 1) true) = [i + 2])
    (s2 : Region.seqB md ops (ops.toList.drop (i + 3)).length (i + 3) (((listed.setIfInBounds i true).setIfInBounds (i + 1) true).setIfInBounds (i + 2) true) = true)
    (r3 : Region.ready md ops (listed.setIfInBounds (i + 1) true) = [i, i + 2])
    (r4 : Region.ready md ops ((listed.setIfInBounds (i + 1) true).setIfInBounds (i + 2) true) = [i])
    (xa1 : ∀ K : Act → World → Prop, K (a.put (some da) va) w → oa.wp P a w K Q)
    (xa2 : ∀ K : Act → World → Prop, K ((a.put (some db) vb).put (some da) va) w → oa.wp P (a.put (some db) vb) w K Q)
    (xa3 : ∀ K : Act → World → Prop, K (((a.put (some db) vb).put (some dc) vc).put (some da) va) w1 → oa.wp P ((a.put (some db) vb).put (some dc) vc) w1 K Q)
    (xb1 : ∀ K : Act → World → Prop, K (a.put (some db) vb) w → ob.wp P a w K Q)
    (xb2 : ∀ K : Act → World → Prop, K ((a.put (some da) va).put (some db) vb) w → ob.wp P (a.put (some da) va) w K Q)
    (xc1 : ∀ K : Act → World → Prop, K (((a.put (some da) va).put (some db) vb).put (some dc) vc) w1 → oc.wp P ((a.put (some da) va).put (some db) vb) w K Q)
    (xc2 : ∀ K : Act → World → Prop, K ((a.put (some db) vb).put (some dc) vc) w1 → oc.wp P (a.put (some db) vb) w K Q)
    (h : wpList P ops Q (ops.toList.drop (i + 3)) (((a.put (some da) va).put (some db) vb).put (some dc) vc) w1) : wpAny P md ops Q fuel listed a w := by
  subst hf
  have c1 : (a.put (some db) vb).put (some da) va = (a.put (some da) va).put (some db) vb := put_comm _ (Ne.symm nab) _ _
  have c2 : ((a.put (some db) vb).put (some dc) vc).put (some da) va = ((a.put (some da) va).put (some db) vb).put (some dc) vc := by
    rw [put_comm _ (Ne.symm nac), c1]
  have wa : ∀ a' : Act, Region.wanted oa (yielded ops a'.tmps) = true := fun a' => by simp [Region.wanted, ga]
  have wb : ∀ a' : Act, Region.wanted ob (yielded ops a'.tmps) = true := fun a' => by simp [Region.wanted, gb]
  have wc : ∀ a' : Act, Region.wanted oc (yielded ops a'.tmps) = true := fun a' => by simp [Region.wanted, gc]
  have one : ∀ {k f : Nat} {ls : Array Bool} {a' : Act} {w' : World} {o : Oper}, ops[k]? = some o → (∀ a' : Act, Region.wanted o (yielded ops a'.tmps) = true) → Region.ready md ops ls = [k] → o.wp P a' w' (wpAny P md ops Q f (ls.setIfInBounds k true)) Q → wpAny P md ops Q (f + 1) ls a' w' := fun {k f ls a' w' o} ho hw hr hx => by
    refine wpAny_ready hr (by simp) (AllReady.cons ho (fun K hK => ?_) AllReady.nil)
    rw [if_pos (hw _)]
    exact Oper.wp_mono (fun a w h => hK a w h) hx
  have tail : wpAny P md ops Q (ops.toList.drop (i + 3)).length (((listed.setIfInBounds i true).setIfInBounds (i + 1) true).setIfInBounds (i + 2) true) (((a.put (some da) va).put (some db) vb).put (some dc) vc) w1 := wpAny_of_seq _ (i + 3) _ _ _ (fun j => by rw [List.getElem?_drop, Array.getElem?_toList]) s2 h
  have e1 : (listed.setIfInBounds (i + 1) true).setIfInBounds i true = (listed.setIfInBounds i true).setIfInBounds (i + 1) true := Array.setIfInBounds_comm _ _ (by omega)
  have e2 : ((listed.setIfInBounds (i + 1) true).setIfInBounds (i + 2) true).setIfInBounds i true = ((listed.setIfInBounds i true).setIfInBounds (i + 1) true).setIfInBounds (i + 2) true := by
    rw [Array.setIfInBounds_comm _ _ (show i + 2 ≠ i by omega), e1]
  refine wpAny_ready r0 (by simp) (AllReady.cons ha (fun K hK => ?_) (AllReady.cons hb (fun K hK => ?_) AllReady.nil))
  · rw [if_pos (wa _)]
    refine xa1 K (hK _ _ ?_)
    refine one hb wb r1 (xb2 _ ?_)
    exact one hc wc r2 (xc1 _ tail)
  · rw [if_pos (wb _)]
    refine xb1 K (hK _ _ ?_)
    refine wpAny_ready r3 (by simp) (AllReady.cons ha (fun K hK => ?_) (AllReady.cons hc (fun K hK => ?_) AllReady.nil))
    · rw [if_pos (wa _)]
      refine xa2 K (hK _ _ ?_)
      rw [e1]
      refine one hc wc r2 ?_
      rw [c1]
      exact xc1 _ tail
    · rw [if_pos (wc _)]
      refine xc2 K (hK _ _ ?_)
      refine one ha wa r4 ?_
      rw [e2]
      refine xa3 _ ?_
      rw [c2]
      exact tail
/-- What is left follows in the text's order. -/
theorem wpAny_seq {P : Program} {md : Region.Mode} {ops : Array Oper} {Q : Exit → Act → World → Prop} (k : Nat) {fuel : Nat} {listed : Array Bool} {a : Act} {w : World}
    (hf : fuel = (ops.toList.drop k).length) (hs : Region.seqB md ops (ops.toList.drop k).length k listed = true) (h : wpList P ops Q (ops.toList.drop k) a w) : wpAny P md ops Q fuel listed a w := by
  subst hf
  exact wpAny_of_seq _ k _ _ _ (fun j => by rw [List.getElem?_drop, Array.getElem?_toList]) hs h
/-- A make whose run is known. -/
theorem wpList_make_run {P : Program} (w : World) {ops : Array Oper} {rest : List Oper} {o : Oper} {a : Act} {Q : Exit → Act → World → Prop} (hg : o.guard = none) (l c : Operand) (t : TypeId)
    (hop : o.op = Op.makeSlice t l c) (vl vc : Value) (hl : a.eval l = vl) (hc : a.eval c = vc) (v' : Value) (w' : World) (hr : (Instr.makeSlice t vl vc).run P w = .ok v' w') (h : wpList P ops Q rest (a.put o.dst v') w') :
    wpList P ops Q (o :: rest) a w := by
  refine wpList_plain hg fun K hK' => ?_
  unfold Oper.wp
  simp [execOp, hop, hl, hc, hr, Result.andThen]
  exact hK' _ _ h
end Go.Proofs.Ytgdlcfkgdaaooaa
