/- A block that ends in a slice with a row of its own (whatever the row's type), ahead of it cells that stay: kept, stored into, made. Plain, over whatever program. No condition. -/
import Derived.Test.YtkahohgbcnchiaaAsr
namespace Go.Proofs.Ytkahohgbcnchiaa
open Go Go.RowKit

section
variable {α : Type} (cs : α → List Value) (t : TypeId) (K : Nat)
structure SlV (pre : List Value) (W : World) (p : Nat) (v : Value) (s : List α) : Prop where
  pr : ∀ j u, pre[j]? = some u → W.cell? ⟨p, j, none⟩ = some u
  c0 : W.cell? ⟨p, pre.length, none⟩ = some v
  fp : W.frozen? ⟨p, pre.length, none⟩ = false
  lp : p < W.heap.size
  own : W.ownsRow 0 t K v s.length (rowK cs s)
  ne : v.ownBlock ≠ some p
def footS (p : Nat) (v : Value) : Nat → Prop := fun k => k = p ∨ v.ownBlock = some k
def SlO (pre : List Value) : Kind (List α) := fun F W p s => ∃ v, SlV cs t K pre W p v s ∧ ∀ k, F k ↔ footS p v k
end
section
variable {α : Type} {cs : α → List Value} {t : TypeId} {K : Nat} {pre : List Value} {W W' : World} {p : Nat} {v : Value} {s : List α}
theorem SlV.near (h : SlV cs t K pre W p v s) : ∀ k, footS p v k → k < W.heap.size := by
  rintro k (rfl | e)
  · exact h.lp
  · exact (h.own.lt k e).2
theorem SlV.keep {G : Nat → Prop} (h : SlV cs t K pre W p v s) (hO : Only G W W') (hG : ∀ k, footS p v k → ¬ G k) : SlV cs t K pre W' p v s := by
  have hp : ¬ G p := hG p (.inl rfl)
  refine ⟨fun j u hj => ?_, ?_, ?_, Nat.lt_of_lt_of_le h.lp hO.size, hO.row h.own (fun g e => hG g (.inr e)), h.ne⟩
  · rw [hO.cell (p := ⟨p, j, none⟩) h.lp hp]; exact h.pr j u hj
  · rw [hO.cell (p := ⟨p, pre.length, none⟩) h.lp hp]; exact h.c0
  · rw [hO.frozen (p := ⟨p, pre.length, none⟩) h.lp hp]; exact h.fp
theorem SlV.later (h : SlV cs t K pre W p v s) (hb : Below W.heap.size W W') : SlV cs t K pre W' p v s := h.keep (G := fun _ => False) (Only.of_below hb) (fun _ _ e => e)
/-- Its slice, as a value. -/
theorem SlV.slice (h : SlV cs t K pre W p v s) : (v = .slice none 0 0 ∧ s = []) ∨ ∃ g c, v = .slice (some ⟨g, 0, none⟩) s.length c ∧ g < W.heap.size ∧ s.length ≤ c ∧ g ≠ p := by
  rcases own_spot h.own with ⟨rfl, h0⟩ | ⟨g, c, rfl, hg, hc1, _, _, _⟩
  · exact .inl ⟨rfl, List.eq_nil_of_length_eq_zero h0⟩
  · exact .inr ⟨g, c, rfl, hg, hc1, fun e => h.ne (by rw [e]; rfl)⟩
theorem SlV.asSlice (h : SlV cs t K pre W p v s) : ∃ ao c, v = .slice ao s.length c := by
  rcases h.slice with ⟨rfl, rfl⟩ | ⟨g, c, rfl, _⟩
  · exact ⟨none, 0, rfl⟩
  · exact ⟨_, c, rfl⟩
variable (cs t K pre) in
theorem slO_kind : IsKind (SlO cs t K pre) where
  near := fun _F _W _p _s ⟨_v, h, e⟩ k hk => h.near k ((e k).1 hk)
  keep := fun _F _G _W _W' _p _s ⟨v, h, e⟩ hO hG => ⟨v, h.keep hO (fun k hk => hG k ((e k).2 hk)), e⟩
/-- Behind a call that turned its row. -/
def PostS (cs : α → List Value) (t : TypeId) (K : Nat) (pre : List Value) (W : World) (p : Nat) (v : Value) (s' : List α) (W' : World) : Prop := ∃ v', SlV cs t K pre W' p v' s' ∧ Only (footS p v) W W' ∧ ∀ k, k < W.heap.size → footS p v' k → footS p v k
theorem PostS.postO {F : Nat → Prop} {s' : List α} (hF : ∀ k, F k ↔ footS p v k) (h : PostS cs t K pre W p v s' W') : PostO (SlO cs t K pre) F p s' W W' := by
  obtain ⟨v', h1, h2, h3⟩ := h
  exact ⟨footS p v', ⟨v', h1, fun _ => Iff.rfl⟩, h2.mono (fun k _ x => (hF k).2 x), fun k hk x => (hF k).2 (h3 k hk x)⟩
/-- A slice stored into it. -/
theorem SlV.stored {s' : List α} {v' : Value} (h : SlV cs t K pre W p v s) (hO : Only (fun k => v.ownBlock = some k) W W') (ho : W'.ownsRow 0 t K v' s'.length (rowK cs s')) (hg : ∀ k, v'.ownBlock = some k → v.ownBlock = some k ∨ W.heap.size ≤ k) :
    PostS cs t K pre W p v s' (W'.setCell ⟨p, pre.length, none⟩ v') := by
  have hpg : v'.ownBlock ≠ some p := by
    intro e
    rcases hg p e with e2 | e2
    · exact h.ne e2
    · exact Nat.lt_irrefl _ (Nat.lt_of_lt_of_le h.lp e2)
  have hcj : ∀ j, W'.cell? ⟨p, j, none⟩ = W.cell? ⟨p, j, none⟩ := fun j => hO.cell (p := ⟨p, j, none⟩) h.lp h.ne
  have hc : W'.cell? ⟨p, pre.length, none⟩ = some v := (hcj _).trans h.c0
  have hf : W'.frozen? ⟨p, pre.length, none⟩ = false := (hO.frozen (p := ⟨p, pre.length, none⟩) h.lp h.ne).trans h.fp
  refine ⟨v', ⟨fun j u hj => ?_, by rw [cell_putR hc, if_pos rfl], by simpa using hf, by simpa using Nat.lt_of_lt_of_le h.lp hO.size, ?_, hpg⟩,
    (hO.mono (fun j _ e => .inr e)).setCell (p := ⟨p, pre.length, none⟩) (fun _ => .inl rfl) _, fun k hk e => ?_⟩
  · have hl := (List.getElem?_eq_some_iff.1 hj).1
    rw [cell_putR hc, if_neg (by omega), hcj]
    exact h.pr j u hj
  · exact ((Only.refl (fun k => k = p) W').setCell (p := ⟨p, pre.length, none⟩) (fun _ => rfl) _).row ho (fun k e1 e2 => hpg (by rw [← e2]; exact e1))
  · rcases e with e | e
    · exact .inl e
    · rcases hg k e with e2 | e2
      · exact .inr e2
      · omega
/-- Its row written into, in place. -/
theorem SlV.written {s' : List α} (h : SlV cs t K pre W p v s) (hO : Only (fun k => v.ownBlock = some k) W W') (ho : W'.ownsRow 0 t K v s'.length (rowK cs s')) : PostS cs t K pre W p v s' W' := by
  refine ⟨v, ⟨fun j u hj => ?_, ?_, ?_, Nat.lt_of_lt_of_le h.lp hO.size, ho, h.ne⟩, hO.mono (fun j _ e => .inr e), fun k _ x => x⟩
  · rw [hO.cell (p := ⟨p, j, none⟩) h.lp h.ne]; exact h.pr j u hj
  · rw [hO.cell (p := ⟨p, pre.length, none⟩) h.lp h.ne]; exact h.c0
  · rw [hO.frozen (p := ⟨p, pre.length, none⟩) h.lp h.ne]; exact h.fp
theorem SlV.new (cs : α → List Value) (t : TypeId) (K : Nat) (pre : List Value) (W : World) (ty : TypeId) : SlV cs t K pre (W.alloc (.cells (pre ++ [Value.slice none 0 0]).toArray ty)) W.heap.size (.slice none 0 0) [] := by
  have hb := BoxAt.new W (pre ++ [Value.slice none 0 0]) ty
  refine ⟨fun j u hj => hb.spot j u ?_, hb.spot _ _ ?_, by simp [go_sem], hb.lt, ⟨by simp [rowK], .inl ⟨rfl, rfl⟩⟩, fun e => by cases e⟩
  · have hl := (List.getElem?_eq_some_iff.1 hj).1
    rw [List.getElem?_append_left hl]; exact hj
  · rw [List.getElem?_append_right (Nat.le_refl _), Nat.sub_self]; rfl
theorem SlO.new (cs : α → List Value) (t : TypeId) (K : Nat) (pre : List Value) (W : World) (ty : TypeId) : SlO cs t K pre (fun k => k = W.heap.size) (W.alloc (.cells (pre ++ [Value.slice none 0 0]).toArray ty)) W.heap.size [] :=
  ⟨_, SlV.new cs t K pre W ty, fun _ => ⟨.inl, fun e => e.elim id (fun e => by cases e)⟩⟩
end
end Go.Proofs.Ytkahohgbcnchiaa
