/- What a call holds of its own, apart: objects, blocks of known cells, rows; a call turns one and keeps the others. Plain, over whatever program. No condition. -/
import Derived.Test.YtfdanlfiaoedfaaZRwk
import Derived.Test.YtfdanlfiaoedfaaZRo
namespace Go.Proofs.Ytfdanlfiaoedfaa
open Go Go.RowKit

/-- What is said of some blocks. -/
abbrev Asr := (Nat → Prop) → World → Prop
structure IsAsr (A : Asr) : Prop where
  near : ∀ F W, A F W → ∀ k, F k → k < W.heap.size
  keep : ∀ F G W W', A F W → Only G W W' → (∀ k, F k → ¬ G k) → A F W'
/-- Both, apart. -/
def star (A B : Asr) : Asr := fun F W => ∃ F1 F2, A F1 W ∧ B F2 W ∧ (∀ k, F1 k → ¬ F2 k) ∧ ∀ k, F k ↔ F1 k ∨ F2 k
/-- Nothing. -/
def nilA : Asr := fun F _ => ∀ k, ¬ F k
/-- An object. -/
def objA {α : Type} (O : Kind α) (p : Nat) (m : α) : Asr := fun F W => O F W p m
/-- A block of known cells, that may be written. -/
def boxA (b : Nat) (cs : List Value) : Asr := fun F W => BoxAt W b cs ∧ (∀ j, W.frozen? ⟨b, j, none⟩ = false) ∧ ∀ k, F k ↔ k = b
/-- A row of its own. -/
def rowA (e : TypeId) (K : Nat) (v : Value) (n : Nat) (xs : List Value) : Asr := fun F W => W.ownsRow 0 e K v n xs ∧ ∀ k, F k ↔ v.ownBlock = some k
theorem IsAsr.star {A B : Asr} (h : IsAsr A) (k : IsAsr B) : IsAsr (star A B) where
  near := fun F W ⟨F1, F2, a, b, _, e⟩ j hj => by
    rcases (e j).1 hj with x | x
    · exact h.near _ _ a j x
    · exact k.near _ _ b j x
  keep := fun F G W W' ⟨F1, F2, a, b, d, e⟩ hO hG => ⟨F1, F2, h.keep _ _ _ _ a hO (fun j x => hG j ((e j).2 (.inl x))), k.keep _ _ _ _ b hO (fun j x => hG j ((e j).2 (.inr x))), d, e⟩
theorem isAsr_nil : IsAsr nilA := ⟨fun _ _ h k hk => (h k hk).elim, fun _ _ _ _ h _ _ => h⟩
theorem isAsr_box (b : Nat) (cs : List Value) : IsAsr (boxA b cs) where
  near := fun F W ⟨h, _, e⟩ k hk => by rw [(e k).1 hk]; exact h.lt
  keep := fun F G W W' ⟨h, f, e⟩ hO hG => ⟨h.only hO (hG b ((e b).2 rfl)), fun j => by rw [hO.frozen (p := ⟨b, j, none⟩) h.lt (hG b ((e b).2 rfl))]; exact f j, e⟩
theorem isAsr_row (t : TypeId) (K : Nat) (v : Value) (n : Nat) (xs : List Value) : IsAsr (rowA t K v n xs) where
  near := fun _F _W ⟨h, e⟩ k hk => (h.lt k ((e k).1 hk)).2
  keep := fun _F _G _W _W' ⟨h, e⟩ hO hG => ⟨hO.row h (fun g hg => hG g ((e g).2 hg)), e⟩
/-- Held of one's own, behind the world w. -/
structure Held (w wr : World) (A : Asr) : Prop where
  ex : ∃ F, A F wr ∧ ∀ k, F k → w.heap.size ≤ k
  below : Below w.heap.size w wr
/-- What a step has made of it. -/
def PostA (F : Nat → Prop) (A : Asr) (W W' : World) : Prop := ∃ F', A F' W' ∧ Only F W W' ∧ ∀ k, k < W.heap.size → F' k → F k
section
variable {A A' B C D : Asr} {w wr w2 : World} {P : Program}
theorem Held.start (w : World) : Held w w nilA := ⟨⟨fun _ => False, fun _ e => e, fun _ e => e.elim⟩, Below.refl _ _⟩
theorem Held.later (K : IsAsr A) (h : Held w wr A) (hb : Below wr.heap.size wr w2) : Held w w2 A := by
  obtain ⟨⟨F, h1, h2⟩, h3⟩ := h
  exact ⟨⟨F, K.keep F (fun _ => False) wr w2 h1 (Only.of_below hb) (fun _ _ e => e), h2⟩, h3.trans (hb.mono h3.size)⟩
/-- A step that turned the first. -/
theorem Held.step (_K : IsAsr A) (L : IsAsr B) (h : Held w wr (star A B)) (hp : ∀ F, A F wr → PostA F A' wr w2) : Held w w2 (star A' B) := by
  obtain ⟨⟨F, ⟨F1, F2, a, b, d, e⟩, h2⟩, h3⟩ := h
  obtain ⟨F', a', hO, hF⟩ := hp F1 a
  have nB := L.near _ _ b
  refine ⟨⟨fun k => F' k ∨ F2 k, ⟨F', F2, a', L.keep _ _ _ _ b hO (fun k x y => d k y x), fun k x y => d k (hF k (nB k y) x) y, fun _ => Iff.rfl⟩, fun k x => ?_⟩, h3.trans (hO.to_below h3.size (fun k x => h2 k ((e k).2 (.inl x))))⟩
  rcases x with x | x
  · by_cases hk : k < wr.heap.size
    · exact h2 k ((e k).2 (.inl (hF k hk x)))
    · have := h3.size; omega
  · exact h2 k ((e k).2 (.inr x))
/-- A call that turns the first. -/
theorem Held.turn (_K : IsAsr A) (L : IsAsr B) (h : Held w wr (star A B)) {f : FuncId} {args : Array Value} {S : Ending → Prop} (hc : ∀ F, A F wr → Calls P f args wr fun e W' => S e ∧ PostA F A' wr W') :
    Calls P f args wr fun e w2 => S e ∧ Held w w2 (star A' B) := by
  have h' := h
  obtain ⟨⟨F, ⟨F1, F2, a, b, d, e⟩, h2⟩, h3⟩ := h
  refine (hc F1 a).mono ?_
  rintro x w2 ⟨hs, hp⟩
  refine ⟨hs, ?_⟩
  obtain ⟨F', a', hO, hF⟩ := hp
  have nB := L.near _ _ b
  refine ⟨⟨fun k => F' k ∨ F2 k, ⟨F', F2, a', L.keep _ _ _ _ b hO (fun k x y => d k y x), fun k x y => d k (hF k (nB k y) x) y, fun _ => Iff.rfl⟩, fun k x => ?_⟩, h3.trans (hO.to_below h3.size (fun k x => h2 k ((e k).2 (.inl x))))⟩
  rcases x with x | x
  · by_cases hk : k < wr.heap.size
    · exact h2 k ((e k).2 (.inl (hF k hk x)))
    · have := h3.size; omega
  · exact h2 k ((e k).2 (.inr x))
/-- A call that asks the first. -/
theorem Held.ask (K : IsAsr A) (L : IsAsr B) (h : Held w wr (star A B)) {f : FuncId} {args : Array Value} {S : Ending → World → Prop} (hc : ∀ F, A F wr → Calls P f args wr fun e W' => S e W' ∧ Below wr.heap.size wr W') :
    Calls P f args wr fun e w2 => S e w2 ∧ Held w w2 (star A B) := by
  have h' := h
  obtain ⟨⟨F, ⟨F1, F2, a, b, d, e⟩, h2⟩, h3⟩ := h
  refine (hc F1 a).mono ?_
  rintro x w2 ⟨hs, hb⟩
  exact ⟨hs, h'.later (K.star L) hb⟩
/-- One more. -/
theorem Held.more (L : IsAsr B) (h : Held w wr B) (hb : Below wr.heap.size wr w2) (ha : ∃ F, A F w2 ∧ ∀ k, F k → wr.heap.size ≤ k) : Held w w2 (star A B) := by
  obtain ⟨⟨F, h1, h2⟩, h3⟩ := h
  obtain ⟨G, g1, g2⟩ := ha
  have nB := L.near _ _ h1
  have hs := h3.size
  refine ⟨⟨fun k => G k ∨ F k, ⟨G, F, g1, L.keep F (fun _ => False) wr w2 h1 (Only.of_below hb) (fun _ _ e => e), fun k x y => by have := g2 k x; have := nB k y; omega, fun _ => Iff.rfl⟩, fun k x => ?_⟩, h3.trans (hb.mono h3.size)⟩
  rcases x with x | x
  · have := g2 k x; omega
  · exact h2 k x
theorem Held.box (L : IsAsr B) (h : Held w wr B) (cs : List Value) (t : TypeId) : Held w (wr.alloc (.cells cs.toArray t)) (star (boxA wr.heap.size cs) B) :=
  h.more L ((Below.refl _ _).alloc (Nat.le_refl _) _) ⟨fun k => k = wr.heap.size, ⟨BoxAt.new wr cs t, fun j => by simp [go_sem], fun _ => Iff.rfl⟩, fun k e => by omega⟩
theorem Held.obj {α : Type} {O : Kind α} {m : α} {cs : List Value} {t : TypeId} (L : IsAsr B) (h : Held w wr B) (ho : O (fun k => k = wr.heap.size) (wr.alloc (.cells cs.toArray t)) wr.heap.size m) : Held w (wr.alloc (.cells cs.toArray t)) (star (objA O wr.heap.size m) B) :=
  h.more L ((Below.refl _ _).alloc (Nat.le_refl _) _) ⟨_, ho, fun k e => by omega⟩
theorem Held.nilrow (L : IsAsr B) (h : Held w wr B) (e : TypeId) (K : Nat) : Held w wr (star (rowA e K (.slice none 0 0) 0 []) B) :=
  h.more L (Below.refl _ _) ⟨fun _ => False, ⟨⟨by simp, .inl ⟨rfl, rfl⟩⟩, fun k => ⟨fun e => e.elim, fun e => by cases e⟩⟩, fun _ e => e.elim⟩
/-- Others first. -/
theorem Held.swap (h : Held w wr (star A B)) : Held w wr (star B A) := by
  obtain ⟨⟨F, ⟨F1, F2, a, b, d, e⟩, h2⟩, h3⟩ := h
  exact ⟨⟨F, ⟨F2, F1, b, a, fun k x y => d k y x, fun k => (e k).trans Or.comm⟩, h2⟩, h3⟩
theorem Held.pull (h : Held w wr (star A (star B C))) : Held w wr (star B (star A C)) := by
  obtain ⟨⟨F, ⟨F1, F2, a, ⟨G1, G2, b, c, dd, ee⟩, d, e⟩, h2⟩, h3⟩ := h
  refine ⟨⟨F, ⟨G1, fun k => F1 k ∨ G2 k, b, ⟨F1, G2, a, c, fun k x y => d k x ((ee k).2 (.inr y)), fun _ => Iff.rfl⟩, fun k x y => ?_, fun k => ?_⟩, h2⟩, h3⟩
  · rcases y with y | y
    · exact d k y ((ee k).2 (.inl x))
    · exact dd k x y
  · rw [e k, ee k]
    constructor
    · rintro (x | x | x)
      · exact .inr (.inl x)
      · exact .inl x
      · exact .inr (.inr x)
    · rintro (x | x | x)
      · exact .inr (.inl x)
      · exact .inl x
      · exact .inr (.inr x)
/-- The third, the fourth first. -/
theorem Held.under {X : Asr} (h : Held w wr (star X A)) (g : ∀ F W, A F W → B F W) : Held w wr (star X B) := by
  obtain ⟨⟨F, ⟨F1, F2, a, b, d, e⟩, h2⟩, h3⟩ := h
  exact ⟨⟨F, ⟨F1, F2, a, g _ _ b, d, e⟩, h2⟩, h3⟩
theorem star_pull {F : Nat → Prop} {W : World} (h : (star A (star B C)) F W) : (star B (star A C)) F W := by
  obtain ⟨F1, F2, a, ⟨G1, G2, b, c, dd, ee⟩, d, e⟩ := h
  refine ⟨G1, fun k => F1 k ∨ G2 k, b, ⟨F1, G2, a, c, fun k x y => d k x ((ee k).2 (.inr y)), fun _ => Iff.rfl⟩, fun k x y => ?_, fun k => ?_⟩
  · rcases y with y | y
    · exact d k y ((ee k).2 (.inl x))
    · exact dd k x y
  · rw [e k, ee k]
    constructor
    · rintro (x | x | x)
      · exact .inr (.inl x)
      · exact .inl x
      · exact .inr (.inr x)
    · rintro (x | x | x)
      · exact .inr (.inl x)
      · exact .inl x
      · exact .inr (.inr x)
theorem Held.pull3 (h : Held w wr (star A (star B (star C D)))) : Held w wr (star C (star A (star B D))) := (h.under (fun _ _ x => star_pull x)).pull
theorem Held.push3 (h : Held w wr (star C (star A (star B D)))) : Held w wr (star A (star B (star C D))) := h.pull.under (fun _ _ x => star_pull x)
theorem Held.map (h : Held w wr A) (g : ∀ F W, A F W → B F W) : Held w wr B := by
  obtain ⟨⟨F, a, h2⟩, h3⟩ := h
  exact ⟨⟨F, g _ _ a, h2⟩, h3⟩
theorem star_under {X : Asr} {F : Nat → Prop} {W : World} (g : ∀ F W, A F W → B F W) (h : star X A F W) : star X B F W := by
  obtain ⟨F1, F2, a, b, d, e⟩ := h
  exact ⟨F1, F2, a, g _ _ b, d, e⟩
theorem star_pull3 {F : Nat → Prop} {W : World} (h : star A (star B (star C D)) F W) : star C (star A (star B D)) F W := star_pull (star_under (fun _ _ x => star_pull x) h)
theorem star_pull4 {E : Asr} {F : Nat → Prop} {W : World} (h : star A (star B (star C (star D E))) F W) : star D (star A (star B (star C E))) F W := star_pull (star_under (fun _ _ x => star_pull3 x) h)
theorem star_pull5 {E G : Asr} {F : Nat → Prop} {W : World} (h : star A (star B (star C (star D (star E G)))) F W) : star E (star A (star B (star C (star D G)))) F W := star_pull (star_under (fun _ _ x => star_pull4 x) h)
theorem star_pull6 {E G H : Asr} {F : Nat → Prop} {W : World} (h : star A (star B (star C (star D (star E (star G H))))) F W) : star G (star A (star B (star C (star D (star E H))))) F W := star_pull (star_under (fun _ _ x => star_pull5 x) h)
theorem Held.pull4 {E : Asr} (h : Held w wr (star A (star B (star C (star D E))))) : Held w wr (star D (star A (star B (star C E)))) := h.map (fun _ _ x => star_pull4 x)
theorem Held.pull5 {E G : Asr} (h : Held w wr (star A (star B (star C (star D (star E G)))))) : Held w wr (star E (star A (star B (star C (star D G))))) := h.map (fun _ _ x => star_pull5 x)
theorem Held.pull6 {E G H : Asr} (h : Held w wr (star A (star B (star C (star D (star E (star G H))))))) : Held w wr (star G (star A (star B (star C (star D (star E H)))))) := h.map (fun _ _ x => star_pull6 x)
/-- The first is let go. -/
theorem Held.rest (h : Held w wr (star A B)) : Held w wr B := by
  obtain ⟨⟨F, ⟨F1, F2, a, b, d, e⟩, h2⟩, h3⟩ := h
  exact ⟨⟨F2, b, fun k x => h2 k ((e k).2 (.inr x))⟩, h3⟩
theorem Held.head (h : Held w wr (star A B)) : ∃ F, A F wr := by
  obtain ⟨⟨F, ⟨F1, F2, a, b, d, e⟩, h2⟩, h3⟩ := h
  exact ⟨F1, a⟩
theorem Held.own (h : Held w wr (star A B)) : Held w wr A := by
  obtain ⟨⟨F, ⟨F1, F2, a, b, d, e⟩, h2⟩, h3⟩ := h
  exact ⟨⟨F1, a, fun k x => h2 k ((e k).2 (.inl x))⟩, h3⟩
theorem Held.boxAt {b : Nat} {cs : List Value} (h : Held w wr (star (boxA b cs) B)) : BoxAt wr b cs ∧ (∀ j, wr.frozen? ⟨b, j, none⟩ = false) ∧ w.heap.size ≤ b := by
  obtain ⟨⟨F, ⟨F1, F2, ⟨a1, a2, a3⟩, b, d, e⟩, h2⟩, h3⟩ := h
  exact ⟨a1, a2, h2 _ ((e _).2 (.inl ((a3 _).2 rfl)))⟩
theorem Held.rowAt {e : TypeId} {K n : Nat} {v : Value} {xs : List Value} (h : Held w wr (star (rowA e K v n xs) B)) : wr.ownsRow 0 e K v n xs ∧ ∀ k, v.ownBlock = some k → w.heap.size ≤ k := by
  obtain ⟨⟨F, ⟨F1, F2, ⟨a1, a3⟩, b, d, e⟩, h2⟩, h3⟩ := h
  exact ⟨a1, fun k hk => h2 k ((e k).2 (.inl ((a3 k).2 hk)))⟩
/-- A row that has turned. -/
theorem postA_row {F : Nat → Prop} {e : TypeId} {K n n' : Nat} {v v' : Value} {xs xs' : List Value} (h : rowA e K v n xs F wr) (ho : w2.ownsRow 0 e K v' n' xs') (hO : Only (fun k => v.ownBlock = some k) wr w2) (hg : ∀ k, k < wr.heap.size → v'.ownBlock = some k → v.ownBlock = some k) :
    PostA F (rowA e K v' n' xs') wr w2 :=
  ⟨fun k => v'.ownBlock = some k, ⟨ho, fun _ => Iff.rfl⟩, hO.mono (fun k _ x => (h.2 k).2 x), fun k hk x => (h.2 k).2 (hg k hk x)⟩
/-- A box that has turned. -/
theorem postA_box {F : Nat → Prop} {b : Nat} {cs cs' : List Value} (h : boxA b cs F wr) (ho : BoxAt w2 b cs') (hf : ∀ j, w2.frozen? ⟨b, j, none⟩ = false) (hO : Only (fun k => k = b) wr w2) : PostA F (boxA b cs') wr w2 :=
  ⟨fun k => k = b, ⟨ho, hf, fun _ => Iff.rfl⟩, hO.mono (fun k _ x => (h.2.2 k).2 x), fun k _ x => (h.2.2 k).2 x⟩
theorem boxAt_setCells {w : World} {b : Nat} {cs vs : List Value} (h : BoxAt w b cs) (hf : ∀ j, w.frozen? ⟨b, j, none⟩ = false) (hl : vs.length = cs.length) : BoxAt (w.setCells b 0 vs) b vs ∧ (∀ j, (w.setCells b 0 vs).frozen? ⟨b, j, none⟩ = false) ∧ Only (fun k => k = b) w (w.setCells b 0 vs) := by
  have hth : w.there b 0 vs.length := fun j hj => by
    rw [Nat.zero_add]
    exact ⟨by rw [h.spot j _ (List.getElem?_eq_getElem (by omega))]; rfl, hf j⟩
  have hO : Only (fun k => k = b) w (w.setCells b 0 vs) := only_setCells (F := fun k => k = b) b (fun _ => rfl) _ _ (Only.refl _ _)
  refine ⟨⟨fun j v hj => ?_, Nat.lt_of_lt_of_le h.lt hO.size⟩, fun j => ?_, hO⟩
  · have := World.rangeAt_setCells_same w b 0 vs hth j v hj
    rwa [Nat.zero_add] at this
  · rw [World.frozen?_setCells]; exact hf j
end
end Go.Proofs.Ytfdanlfiaoedfaa
