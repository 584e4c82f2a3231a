/- Changes that can be taken back, plain: function values that turn what a log governs into what it was. Over whatever program. No condition. -/
import Derived.Test.YtkahohgbcnchiaaAsr
namespace Go.Proofs.Ytkahohgbcnchiaa
open Go Go.RowKit

/-- A function value, and what it has captured. -/
structure Bk where
  fn : FuncId
  cap : Array Value
def Bk.val (b : Bk) : Value := .func (.func b.fn) #[] b.cap
def Bk.cells (b : Bk) : List Value := [b.val]
theorem bkK : CellsK Bk.cells 1 := ⟨fun _ => rfl, fun x v hv => by
  unfold Bk.cells Bk.val at hv
  rw [List.mem_singleton.1 hv]; rfl, by decide⟩
/-- The function value b, called with what it has of its own, turns A into A'. -/
def Undoes (P : Program) (b : Bk) (own A A' : Asr) : Prop := ∀ F W, star own A F W → Calls P b.fn b.cap W fun e W' => e = .returned (.tuple #[]) ∧ PostA F A' W W'
section
variable {P : Program} {b : Bk} {own A A' B R C : Asr} {w wr w2 : World}
theorem star_assoc {F : Nat → Prop} {W : World} (h : star A (star B C) F W) : star (star A B) C F W := by
  obtain ⟨F1, F2, a, ⟨G1, G2, b, c, dd, ee⟩, d, e⟩ := h
  refine ⟨fun k => F1 k ∨ G1 k, G2, ⟨F1, G1, a, b, fun k x y => d k x ((ee k).2 (.inl y)), fun _ => Iff.rfl⟩, c, fun k x y => ?_, fun k => ?_⟩
  · rcases x with x | x
    · exact d k x ((ee k).2 (.inr y))
    · exact dd k x y
  · rw [e k, ee k]
    constructor
    · rintro (x | x | x)
      · exact .inl (.inl x)
      · exact .inl (.inr x)
      · exact .inr x
    · rintro ((x | x) | x)
      · exact .inl x
      · exact .inr (.inl x)
      · exact .inr (.inr x)
theorem star_assoc' {F : Nat → Prop} {W : World} (h : star (star A B) C F W) : star A (star B C) F W := by
  obtain ⟨F1, F2, ⟨G1, G2, a, b, dd, ee⟩, c, d, e⟩ := h
  refine ⟨G1, fun k => G2 k ∨ F2 k, a, ⟨G2, F2, b, c, fun k x y => d k ((ee k).2 (.inr x)) y, fun _ => Iff.rfl⟩, fun k x y => ?_, fun k => ?_⟩
  · rcases y with y | y
    · exact dd k x y
    · exact d k ((ee k).2 (.inl x)) y
  · rw [e k, ee k]
    constructor
    · rintro ((x | x) | x)
      · exact .inl x
      · exact .inr (.inl x)
      · exact .inr (.inr x)
    · rintro (x | x | x)
      · exact .inl (.inl x)
      · exact .inl (.inr x)
      · exact .inr x
theorem star_swap {F : Nat → Prop} {W : World} (h : star A B F W) : star B A F W := by
  obtain ⟨F1, F2, a, b, d, e⟩ := h
  exact ⟨F2, F1, b, a, fun k x y => d k y x, fun k => (e k).trans Or.comm⟩
theorem Held.assoc (h : Held w wr (star A (star B C))) : Held w wr (star (star A B) C) := h.map (fun _ _ x => star_assoc x)
theorem Held.assoc' (h : Held w wr (star (star A B) C)) : Held w wr (star A (star B C)) := h.map (fun _ _ x => star_assoc' x)
theorem star_nil {F : Nat → Prop} {W : World} (h : star A nilA F W) : A F W := by
  obtain ⟨F1, F2, a, b, d, e⟩ := h
  have : F = F1 := funext fun k => propext ((e k).trans ⟨fun x => x.elim id (fun y => (b k y).elim), .inl⟩)
  rw [this]; exact a
theorem star_nil' {F : Nat → Prop} {W : World} (h : A F W) : star A nilA F W := ⟨F, fun _ => False, h, fun _ x => x, fun _ _ x => x, fun _ => ⟨.inl, fun x => x.elim id False.elim⟩⟩
/-- More beside it is kept. -/
theorem postA_frame {F F1 F2 : Nat → Prop} (L : IsAsr R) (r : R F2 wr) (d : ∀ k, F1 k → ¬ F2 k) (e : ∀ k, F k ↔ F1 k ∨ F2 k) (hp : PostA F1 A' wr w2) : PostA F (star A' R) wr w2 := by
  obtain ⟨F', a', hO, hF⟩ := hp
  have nB := L.near _ _ r
  exact ⟨fun k => F' k ∨ F2 k, ⟨F', F2, a', L.keep _ _ _ _ r hO (fun k x y => d k y x), fun k x y => d k (hF k (nB k y) x) y, fun _ => Iff.rfl⟩, hO.mono (fun k _ x => (e k).2 (.inl x)),
    fun k hk x => (e k).2 (x.elim (fun y => .inl (hF k hk y)) .inr)⟩
theorem Undoes.frame (L : IsAsr R) (h : Undoes P b own A A') : Undoes P b own (star A R) (star A' R) := by
  intro F W hs
  obtain ⟨F1, F2, a, r, d, e⟩ := star_assoc hs
  refine (h F1 W a).mono ?_
  rintro x W' ⟨hx, hp⟩
  exact ⟨hx, postA_frame L r d e hp⟩
theorem Undoes.from (h : Undoes P b own A A') (g : ∀ F W, B F W → A F W) : Undoes P b own B A' := fun F W hs => h F W (star_under g hs)
theorem Undoes.to (h : Undoes P b own A A') (g : ∀ F W, A' F W → B F W) : Undoes P b own A B := fun F W hs => (h F W hs).mono (fun _ _ ⟨hx, F', a', hO, hF⟩ => ⟨hx, F', g _ _ a', hO, hF⟩)
/-- What is beside, first. -/
theorem Undoes.frameL (L : IsAsr R) (h : Undoes P b own A A') : Undoes P b own (star R A) (star R A') := ((h.frame L).from (fun _ _ x => star_swap x)).to (fun _ _ x => star_swap x)
/-- A change: what takes it back, what that has of its own, and what was ahead of it. -/
structure Ent where
  bk : Bk
  own : Asr
  was : Asr
structure Ent.Ok (P : Program) (e : Ent) (now : Asr) : Prop where
  isOwn : IsAsr e.own
  isWas : IsAsr e.was
  undoes : Undoes P e.bk e.own now e.was
  enters : ∀ args w, (callFunc e.bk.fn args).run P w = .ok (.enter e.bk.fn args) w
/-- Changes, the last one first, up to what is now. -/
def ChainA (P : Program) : List Ent → Asr → Prop
  | [], _ => True
  | e :: r, now => e.Ok P now ∧ ChainA P r e.was
def ownsA : List Ent → Asr
  | [] => nilA
  | e :: r => star e.own (ownsA r)
/-- What was ahead of the last k changes. -/
def wasA : List Ent → Asr → Nat → Asr
  | _, now, 0 => now
  | [], now, _ + 1 => now
  | e :: r, _, k + 1 => wasA r e.was k
theorem isAsr_owns : ∀ {es : List Ent} {now : Asr}, ChainA P es now → IsAsr (ownsA es)
  | [], _, _ => isAsr_nil
  | _ :: _, _, ⟨h, hr⟩ => h.isOwn.star (isAsr_owns hr)
theorem ChainA.drop : ∀ {es : List Ent} {now : Asr} (k : Nat), ChainA P es now → ChainA P (es.drop k) (wasA es now k)
  | _, _, 0, h => by unfold wasA; simpa using h
  | [], _, _ + 1, _ => trivial
  | _ :: _, _, k + 1, ⟨_, hr⟩ => by unfold wasA; exact ChainA.drop k hr
theorem isAsr_was : ∀ {es : List Ent} {now : Asr} (k : Nat), IsAsr now → ChainA P es now → IsAsr (wasA es now k)
  | _, _, 0, hn, _ => by unfold wasA; exact hn
  | [], _, _ + 1, hn, _ => hn
  | _ :: _, _, k + 1, _, ⟨h, hr⟩ => by unfold wasA; exact isAsr_was k h.isWas hr
theorem wasA_zero (es : List Ent) (now : Asr) : wasA es now 0 = now := by unfold wasA; rfl
theorem wasA_step : ∀ {es : List Ent} {now : Asr} {k : Nat} {e : Ent} {r : List Ent}, es.drop k = e :: r → wasA es now (k + 1) = e.was
  | [], _, k, _, _, h => by simp at h
  | e :: r, now, 0, e', r', h => by
    have h : e :: r = e' :: r' := h
    injection h with h1 h2
    rw [h1]
    unfold wasA
    exact wasA_zero _ _
  | e :: r, now, k + 1, e', r', h => by
    unfold wasA
    exact wasA_step (es := r) (now := e.was) (k := k) (by simpa using h)
end
end Go.Proofs.Ytkahohgbcnchiaa
