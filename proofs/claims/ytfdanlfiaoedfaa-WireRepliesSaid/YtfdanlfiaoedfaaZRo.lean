/- Objects of whatever kind: a footprint of blocks, kept where others turn; one, and two apart, of a call's own. Plain, over whatever program. No condition. -/
import Derived.Test.YtfdanlfiaoedfaaZCalb
namespace Go.Proofs.Ytfdanlfiaoedfaa
open Go.RowKit

/-- A kind of objects: where one lies, and what it stands for. -/
abbrev Kind (α : Type) := (Nat → Prop) → World → Nat → α → Prop
structure IsKind {α : Type} (O : Kind α) : Prop where
  near : ∀ F W p m, O F W p m → ∀ k, F k → k < W.heap.size
  keep : ∀ F G W W' p m, O F W p m → Only G W W' → (∀ k, F k → ¬ G k) → O F W' p m
/-- Behind a call that turned it. -/
def PostO {α : Type} (O : Kind α) (F : Nat → Prop) (p : Nat) (m : α) (W W' : World) : Prop := ∃ F', O F' W' p m ∧ Only F W W' ∧ ∀ k, k < W.heap.size → F' k → F k
/-- Behind a call that made it. -/
def MadeO {α : Type} (O : Kind α) (m : α) (W : World) (e : Ending) (W' : World) : Prop :=
  ∃ p F, e = .returned (.pointer (some ⟨p, 0, none⟩)) ∧ O F W' p m ∧ (∀ k, F k → W.heap.size ≤ k) ∧ Below W.heap.size W W'
/-- One that was made behind the world w. -/
structure On {α : Type} (O : Kind α) (w wr : World) (p : Nat) (m : α) : Prop where
  ex : ∃ F, O F wr p m ∧ ∀ k, F k → w.heap.size ≤ k
  below : Below w.heap.size w wr
section
variable {α β : Type} {O : Kind α} {R : Kind β} {w wr w2 : World} {p q : Nat} {m m2 : α} {n n2 : β} {P : Program}
theorem IsKind.later (K : IsKind O) {F : Nat → Prop} (h : O F wr p m) (hb : Below wr.heap.size wr w2) : O F w2 p m := K.keep F (fun _ => False) wr w2 p m h (Only.of_below hb) (fun _ _ e => e)
theorem On.later (K : IsKind O) (h : On O w wr p m) (hb : Below wr.heap.size wr w2) : On O w w2 p m := by
  obtain ⟨⟨F, h1, h2⟩, h3⟩ := h
  exact ⟨⟨F, K.later h1 hb, h2⟩, h3.trans (hb.mono h3.size)⟩
theorem On.post {F : Nat → Prop} (hF : ∀ k, F k → w.heap.size ≤ k) (hb : Below w.heap.size w wr) (h : PostO O F p m2 wr w2) : On O w w2 p m2 := by
  obtain ⟨F', h1, h2, h3⟩ := h
  refine ⟨⟨F', h1, fun j hj => ?_⟩, hb.trans (h2.to_below hb.size hF)⟩
  by_cases e : j < wr.heap.size
  · exact hF j (h3 j e hj)
  · have := hb.size; omega
theorem On.made (hb : Below w.heap.size w wr) (h : MadeO O m wr (.returned (.pointer (some ⟨p, 0, none⟩))) w2) : On O w w2 p m := by
  obtain ⟨p2, F, he, h1, h2, h3⟩ := h
  have hp : p = p2 := by
    injection he with he
    injection he with he
    injection he with he
    injection he
  subst hp
  exact ⟨⟨F, h1, fun k hk => by have := h2 k hk; have := hb.size; omega⟩, hb.trans (h3.mono hb.size)⟩
/-- A call that asks it. -/
theorem On.ask (K : IsKind O) (h : On O w wr p m) {f : FuncId} {args : Array Value} {S : Ending → Prop} (hc : ∀ F, O F wr p m → Calls P f args wr fun e W' => S e ∧ Below wr.heap.size wr W') :
    Calls P f args wr fun e w2 => S e ∧ On O w w2 p m := by
  have h' := h
  obtain ⟨⟨F, h3, _⟩, _⟩ := h'
  refine (hc F h3).mono ?_
  rintro e w2 ⟨hr, hb⟩
  exact ⟨hr, h.later K hb⟩
/-- A call that turns it. -/
theorem On.op (h : On O w wr p m) {f : FuncId} {args : Array Value} {S : Ending → Prop} (hc : ∀ F, O F wr p m → Calls P f args wr fun e W' => S e ∧ PostO O F p m2 wr W') :
    Calls P f args wr fun e w2 => S e ∧ On O w w2 p m2 := by
  obtain ⟨⟨F, h3, h4⟩, h5⟩ := h
  refine (hc F h3).mono ?_
  rintro e w2 ⟨hr, hp⟩
  exact ⟨hr, On.post h4 h5 hp⟩
/-- Two objects apart, made behind the world w. -/
structure On2 (O : Kind α) (R : Kind β) (w wr : World) (p : Nat) (m : α) (q : Nat) (n : β) : Prop where
  ex : ∃ F G, O F wr p m ∧ R G wr q n ∧ (∀ k, F k → ¬ G k) ∧ (∀ k, F k → w.heap.size ≤ k) ∧ ∀ k, G k → w.heap.size ≤ k
  below : Below w.heap.size w wr
theorem On2.later (K : IsKind O) (L : IsKind R) (h : On2 O R w wr p m q n) (hb : Below wr.heap.size wr w2) : On2 O R w w2 p m q n := by
  obtain ⟨⟨F, G, h1, h2, h3, h4, h5⟩, h6⟩ := h
  exact ⟨⟨F, G, K.later h1 hb, L.later h2 hb, h3, h4, h5⟩, h6.trans (hb.mono h6.size)⟩
theorem On2.ask (K : IsKind O) (L : IsKind R) (h : On2 O R w wr p m q n) {f : FuncId} {args : Array Value} {S : Ending → Prop} (hc : ∀ F G, O F wr p m → R G wr q n → Calls P f args wr fun e W' => S e ∧ Below wr.heap.size wr W') :
    Calls P f args wr fun e w2 => S e ∧ On2 O R w w2 p m q n := by
  have h' := h
  obtain ⟨⟨F, G, h1, h2, _⟩, _⟩ := h'
  refine (hc F G h1 h2).mono ?_
  rintro e w2 ⟨hr, hb⟩
  exact ⟨hr, h.later K L hb⟩
theorem On2.left (L : IsKind R) (h : On2 O R w wr p m q n) {f : FuncId} {args : Array Value} {S : Ending → Prop} (hc : ∀ F, O F wr p m → Calls P f args wr fun e W' => S e ∧ PostO O F p m2 wr W') :
    Calls P f args wr fun e w2 => S e ∧ On2 O R w w2 p m2 q n := by
  obtain ⟨⟨F, G, h1, h2, h3, h4, h5⟩, h6⟩ := h
  refine (hc F h1).mono ?_
  rintro e w2 ⟨hr, F', k1, k2, k3⟩
  have nG := L.near _ _ _ _ h2
  refine ⟨hr, ⟨F', G, k1, L.keep _ _ _ _ _ _ h2 k2 (fun k hg hf => h3 k hf hg), fun k hf hg => h3 k (k3 k (nG k hg) hf) hg, fun k hf => ?_, h5⟩, h6.trans (k2.to_below h6.size h4)⟩
  by_cases e : k < wr.heap.size
  · exact h4 k (k3 k e hf)
  · have := h6.size; omega
theorem On2.right (K : IsKind O) (h : On2 O R w wr p m q n) {f : FuncId} {args : Array Value} {S : Ending → Prop} (hc : ∀ G, R G wr q n → Calls P f args wr fun e W' => S e ∧ PostO R G q n2 wr W') :
    Calls P f args wr fun e w2 => S e ∧ On2 O R w w2 p m q n2 := by
  obtain ⟨⟨F, G, h1, h2, h3, h4, h5⟩, h6⟩ := h
  refine (hc G h2).mono ?_
  rintro e w2 ⟨hr, G', k1, k2, k3⟩
  have nF := K.near _ _ _ _ h1
  refine ⟨hr, ⟨F, G', K.keep _ _ _ _ _ _ h1 k2 h3, k1, fun k hf hg => h3 k hf (k3 k (nF k hf) hg), h4, fun k hg => ?_⟩, h6.trans (k2.to_below h6.size h5)⟩
  by_cases e : k < wr.heap.size
  · exact h5 k (k3 k e hg)
  · have := h6.size; omega
/-- A second one is made behind the first. -/
theorem On.second (K : IsKind O) (h : On O w wr p m) (hm : MadeO R n wr (.returned (.pointer (some ⟨q, 0, none⟩))) w2) : On2 O R w w2 p m q n := by
  obtain ⟨⟨F, h1, h2⟩, h3⟩ := h
  obtain ⟨⟨G, g1, g2⟩, g3⟩ := On.made (Below.refl _ _) hm
  have nF := K.near _ _ _ _ h1
  exact ⟨⟨F, G, K.later h1 g3, g1, fun k hf hg => by have := nF k hf; have := g2 k hg; omega, h2, fun k hg => Nat.le_trans h3.size (g2 k hg)⟩, h3.trans (g3.mono h3.size)⟩
end
/-- Two objects apart, and a block beside them. -/
structure On2x {α β : Type} (O : Kind α) (R : Kind β) (w wr : World) (p : Nat) (m : α) (q : Nat) (n : β) (b : Nat) (cs : List Value) : Prop where
  ex : ∃ F G, O F wr p m ∧ R G wr q n ∧ (∀ k, F k → ¬ G k) ∧ (∀ k, F k → w.heap.size ≤ k) ∧ (∀ k, G k → w.heap.size ≤ k) ∧ ¬ F b ∧ ¬ G b
  below : Below w.heap.size w wr
  box : BoxAt wr b cs
section
variable {α β : Type} {O : Kind α} {R : Kind β} {w wr w2 : World} {p q b : Nat} {m m2 : α} {n n2 : β} {cs : List Value} {P : Program}
theorem On2x.start (K : IsKind O) (L : IsKind R) (h : On2 O R w wr p m q n) (cs : List Value) (t : TypeId) : On2x O R w (wr.alloc (.cells cs.toArray t)) p m q n wr.heap.size cs := by
  have hb : Below wr.heap.size wr (wr.alloc (.cells cs.toArray t)) := (Below.refl _ _).alloc (Nat.le_refl _) _
  obtain ⟨⟨F, G, h1, h2, h3, h4, h5⟩, h6⟩ := h
  exact ⟨⟨F, G, K.later h1 hb, L.later h2 hb, h3, h4, h5, fun e => Nat.lt_irrefl _ (K.near _ _ _ _ h1 _ e), fun e => Nat.lt_irrefl _ (L.near _ _ _ _ h2 _ e)⟩, h6.trans (hb.mono h6.size), BoxAt.new wr cs t⟩
theorem On2x.later (K : IsKind O) (L : IsKind R) (h : On2x O R w wr p m q n b cs) (hb : Below wr.heap.size wr w2) : On2x O R w w2 p m q n b cs := by
  obtain ⟨⟨F, G, h1, h2, h3, h4, h5, h7, h8⟩, h6, h9⟩ := h
  exact ⟨⟨F, G, K.later h1 hb, L.later h2 hb, h3, h4, h5, h7, h8⟩, h6.trans (hb.mono h6.size), h9.later hb⟩
theorem On2x.ask (K : IsKind O) (L : IsKind R) (h : On2x O R w wr p m q n b cs) {f : FuncId} {args : Array Value} {S : Ending → Prop} (hc : ∀ F G, O F wr p m → R G wr q n → Calls P f args wr fun e W' => S e ∧ Below wr.heap.size wr W') :
    Calls P f args wr fun e w2 => S e ∧ On2x O R w w2 p m q n b cs := by
  have h' := h
  obtain ⟨⟨F, G, h1, h2, _⟩, _⟩ := h'
  refine (hc F G h1 h2).mono ?_
  rintro e w2 ⟨hr, hb⟩
  exact ⟨hr, h.later K L hb⟩
theorem On2x.left (L : IsKind R) (h : On2x O R w wr p m q n b cs) {f : FuncId} {args : Array Value} {S : Ending → Prop} (hc : ∀ F, O F wr p m → Calls P f args wr fun e W' => S e ∧ PostO O F p m2 wr W') :
    Calls P f args wr fun e w2 => S e ∧ On2x O R w w2 p m2 q n b cs := by
  obtain ⟨⟨F, G, h1, h2, h3, h4, h5, h7, h8⟩, h6, h9⟩ := h
  refine (hc F h1).mono ?_
  rintro e w2 ⟨hr, F', k1, k2, k3⟩
  have nG := L.near _ _ _ _ h2
  refine ⟨hr, ⟨F', G, k1, L.keep _ _ _ _ _ _ h2 k2 (fun k hg hf => h3 k hf hg), fun k hf hg => h3 k (k3 k (nG k hg) hf) hg, fun k hf => ?_, h5, fun e => h7 (k3 b h9.lt e), h8⟩, h6.trans (k2.to_below h6.size h4), h9.only k2 h7⟩
  by_cases e : k < wr.heap.size
  · exact h4 k (k3 k e hf)
  · have := h6.size; omega
theorem On2x.right (K : IsKind O) (h : On2x O R w wr p m q n b cs) {f : FuncId} {args : Array Value} {S : Ending → Prop} (hc : ∀ G, R G wr q n → Calls P f args wr fun e W' => S e ∧ PostO R G q n2 wr W') :
    Calls P f args wr fun e w2 => S e ∧ On2x O R w w2 p m q n2 b cs := by
  obtain ⟨⟨F, G, h1, h2, h3, h4, h5, h7, h8⟩, h6, h9⟩ := h
  refine (hc G h2).mono ?_
  rintro e w2 ⟨hr, G', k1, k2, k3⟩
  have nF := K.near _ _ _ _ h1
  refine ⟨hr, ⟨F, G', K.keep _ _ _ _ _ _ h1 k2 h3, k1, fun k hf hg => h3 k hf (k3 k (nF k hf) hg), h4, fun k hg => ?_, h7, fun e => h8 (k3 b h9.lt e)⟩, h6.trans (k2.to_below h6.size h5), h9.only k2 h8⟩
  by_cases e : k < wr.heap.size
  · exact h5 k (k3 k e hg)
  · have := h6.size; omega
end
end Go.Proofs.Ytfdanlfiaoedfaa
