/- Of a world's blocks only some have turned: an object's own. Plain, over whatever program. No condition. -/
/- A block of known cells, carried along. Plain, over whatever program. No condition. -/
/- What the walks of stage 3's laws ask of the landed writer and reader, as lists of contracts over an object that is known by its footprint; and the law's own row of bytes. -/
/- The law's own writing of items, walked out of the landed writer's contracts. -/
import Derived.Test.YtgolddcmhjdmdaaZWb
import Derived.Test.YtgolddcmhjdmdaaZTr
import Derived.Below
import Derived.Laws.AppendOwn
import Derived.WalkKit
import Derived.WalkSpells
import Derived.WalkLawsBesides
import Derived.Lib.Hide
import Derived.LoopTactic
namespace Go.Proofs.Ytgolddcmhjdmdaa
open Go.RowKit

/-- Of the blocks that were there only such of F have turned; the streams are as they were. -/
structure Only (F : Nat → Prop) (w w' : World) : Prop where
  os : w'.os = w.os
  tape : w'.tape = w.tape
  output : w'.output = w.output
  size : w.heap.size ≤ w'.heap.size
  block : ∀ k, k < w.heap.size → ¬ F k → w'.heap[k]? = w.heap[k]?

theorem Only.refl (F : Nat → Prop) (w : World) : Only F w w := ⟨rfl, rfl, rfl, Nat.le_refl _, fun _ _ _ => rfl⟩
/-- What turned in the second step is of F, or was new. -/
theorem Only.trans {F G : Nat → Prop} {a b c : World} (h : Only F a b) (k : Only G b c) (hg : ∀ j, j < a.heap.size → G j → F j) : Only F a c :=
  ⟨k.os.trans h.os, k.tape.trans h.tape, k.output.trans h.output, Nat.le_trans h.size k.size,
    fun i hi hf => (k.block i (Nat.lt_of_lt_of_le hi h.size) (fun e => hf (hg i hi e))).trans (h.block i hi hf)⟩
theorem Only.mono {F G : Nat → Prop} {a b : World} (h : Only F a b) (hg : ∀ j, j < a.heap.size → F j → G j) : Only G a b :=
  ⟨h.os, h.tape, h.output, h.size, fun i hi hf => h.block i hi (fun e => hf (hg i hi e))⟩
theorem Only.of_below {F : Nat → Prop} {a b : World} (h : Below a.heap.size a b) : Only F a b := ⟨h.os, h.tape, h.output, h.size, fun i hi _ => h.block i hi⟩
theorem Only.of_grown {F : Nat → Prop} {a b : World} {row : Option Nat} (h : a.grownBy b row) (hr : ∀ k, k < a.heap.size → row = some k → F k) : Only F a b :=
  ⟨h.os, h.tape, h.output, h.size, fun i hi hf => h.block i hi (fun e => hf (hr i hi e.symm))⟩
theorem Only.to_below {F : Nat → Prop} {a b : World} {B : Nat} (h : Only F a b) (hB : B ≤ a.heap.size) (hf : ∀ k, F k → B ≤ k) : Below B a b :=
  ⟨h.os, h.tape, h.output, h.size, fun i hi => h.block i (by omega) (fun e => by have := hf i e; omega)⟩
theorem Only.drew {F : Nat → Prop} {a b : World} (h : Only F a b) : Only F a b.drew := ⟨h.os, h.tape, h.output, h.size, h.block⟩
theorem Only.alloc {F : Nat → Prop} {a b : World} (h : Only F a b) (o : Obj) : Only F a (b.alloc o) :=
  h.trans (G := fun _ => False) (Only.of_below ((Below.refl _ _).alloc (Nat.le_refl _) o)) (fun _ _ e => e.elim)
theorem Only.later {F : Nat → Prop} {a b c : World} (h : Only F a b) (hb : Below b.heap.size b c) : Only F a c :=
  h.trans (G := fun _ => False) (Only.of_below hb) (fun _ _ e => e.elim)
theorem Only.setCell {F : Nat → Prop} {a b : World} (h : Only F a b) {p : Addr} (hp : p.block < a.heap.size → F p.block) (u : Value) : Only F a (b.setCell p u) :=
  ⟨h.os, h.tape, h.output, by simpa [World.setCell] using h.size, fun i hi hf => by
    rw [Below.heap_setCell _ _ _ _ (fun e => hf (by rw [e]; exact hp (by omega)))]; exact h.block i hi hf⟩
theorem Only.cell {F : Nat → Prop} {a b : World} (h : Only F a b) {p : Addr} (hp : p.block < a.heap.size) (hf : ¬ F p.block) : b.cell? p = a.cell? p :=
  World.cell?_of_block (w := a) (h.block p.block hp hf)
theorem Only.frozen {F : Nat → Prop} {a b : World} (h : Only F a b) {p : Addr} (hp : p.block < a.heap.size) (hf : ¬ F p.block) : b.frozen? p = a.frozen? p :=
  World.frozen?_of_block (w := a) (h.block p.block hp hf)
/-- A row of one's own in a world where other blocks have turned. -/
theorem Only.row {F : Nat → Prop} {a b : World} (h : Only F a b) {base : Nat} {e : TypeId} {size : Nat} {v : Value} {n : Nat} {xs : List Value}
    (hr : a.ownsRow base e size v n xs) (hf : ∀ g, v.ownBlock = some g → ¬ F g) : b.ownsRow base e size v n xs := by
  refine ⟨hr.1, ?_⟩
  rcases hr.2 with h2 | ⟨g, cap, cur, hv, hg, hh, r⟩
  · exact .inl h2
  · refine .inr ⟨g, cap, cur, hv, hg, ?_, r⟩
    rw [h.block g (Array.getElem?_eq_some_iff.1 hh).1 (hf g (by rw [hv]; rfl))]
    exact hh
end Go.Proofs.Ytgolddcmhjdmdaa
namespace Go.Proofs.Ytgolddcmhjdmdaa
open Go.RowKit

/-- The cells of a block. -/
structure BoxAt (w : World) (b : Nat) (cs : List Value) : Prop where
  spot : ∀ j v, cs[j]? = some v → w.cell? ⟨b, j, none⟩ = some v
  lt : b < w.heap.size
theorem BoxAt.new (w : World) (cs : List Value) (t : TypeId) : BoxAt (w.alloc (.cells cs.toArray t)) w.heap.size cs :=
  ⟨fun j v hj => by simpa [go_sem] using hj, by simp⟩
theorem BoxAt.later {w w2 : World} {b : Nat} {cs : List Value} (h : BoxAt w b cs) (hb : Below w.heap.size w w2) : BoxAt w2 b cs :=
  ⟨fun j v hj => by rw [hb.cell (p := ⟨b, j, none⟩) h.lt]; exact h.spot j v hj, Nat.lt_of_lt_of_le h.lt hb.size⟩
theorem BoxAt.only {F : Nat → Prop} {w w2 : World} {b : Nat} {cs : List Value} (h : BoxAt w b cs) (hb : Only F w w2) (hf : ¬ F b) : BoxAt w2 b cs :=
  ⟨fun j v hj => by rw [hb.cell (p := ⟨b, j, none⟩) h.lt hf]; exact h.spot j v hj, Nat.lt_of_lt_of_le h.lt hb.size⟩
end Go.Proofs.Ytgolddcmhjdmdaa
namespace Go.Proofs.Ytgolddcmhjdmdaa
open Go.RowKit Wm

/-- An item's bytes, and a list's. -/
def yesB (b : Bool) : ByteArray := if b then ⟨#[1]⟩ else ⟨#[0]⟩
def numB (n : Nat) : ByteArray := ⟨(bytesL n).toArray⟩
def itemB (x : Item) : ByteArray :=
  if x.kind = 0 then intB x.size x.n else if x.kind = 1 then numB x.wide else if x.kind = 2 then yesB x.yes else if x.kind = 3 then x.text else ByteArray.empty
def itemsB (l : List Item) : ByteArray := l.foldl (fun s x => s ++ itemB x) ByteArray.empty
theorem itemsB_take (l : List Item) (k : Nat) (h : k < l.length) : itemsB (l.take (k + 1)) = itemsB (l.take k) ++ itemB l[k] := by
  unfold itemsB
  rw [List.take_succ_eq_append_getElem h, List.foldl_append]
  rfl
/-- What a call of the writer leaves. -/
def WrPost (Wr : (Nat → Prop) → World → Nat → ByteArray → Prop) (F : Nat → Prop) (p : Nat) (bs : ByteArray) (W W' : World) : Prop :=
  ∃ F', Wr F' W' p bs ∧ Only F W W' ∧ ∀ k, k < W.heap.size → F' k → F k
/-- The landed writer. -/
structure LandedWr (Wr : (Nat → Prop) → World → Nat → ByteArray → Prop) : Prop where
  near : ∀ F W p bs, Wr F W p bs → ∀ k, F k → k < W.heap.size
  keep : ∀ F G W W' p bs, Wr F W p bs → Only G W W' → (∀ k, F k → ¬ G k) → Wr F W' p bs
  new : ∀ W : World, Wr (fun k => k = W.heap.size) (W.alloc (.cells #[.slice none 0 0] 55)) W.heap.size ByteArray.empty
  int : ∀ F W p bs (size n : Int), Wr F W p bs → bs.size ≤ 16384 → -9223372036854775808 ≤ n → n ≤ 9223372036854775807 →
    Calls Try.prog 25 #[.pointer (some ⟨p, 0, none⟩), .int .i64 size, .int .i64 n] W fun e W' => e = .returned (.tuple #[]) ∧ WrPost Wr F p (bs ++ intB size n) W W'
  raw : ∀ F W p bs (s : ByteArray), Wr F W p bs → bs.size ≤ 16384 → s.size ≤ 16384 →
    Calls Try.prog 47 #[.pointer (some ⟨p, 0, none⟩), .string s] W fun e W' => e = .returned (.tuple #[]) ∧ WrPost Wr F p (bs ++ s) W W'
  str : ∀ F W p bs, Wr F W p bs → bs.size ≤ 32768 →
    Calls Try.prog 26 #[.pointer (some ⟨p, 0, none⟩)] W fun e W' => e = .returned (.string bs) ∧ Below W.heap.size W W'
theorem LandedWr.later {Wr : (Nat → Prop) → World → Nat → ByteArray → Prop} (K : LandedWr Wr) {F : Nat → Prop} {W W' : World} {p : Nat} {bs : ByteArray} (h : Wr F W p bs) (hb : Below W.heap.size W W') : Wr F W' p bs :=
  K.keep F (fun _ => False) W W' p bs h (Only.of_below hb) (fun _ _ e => e)
end Go.Proofs.Ytgolddcmhjdmdaa
namespace Go.Proofs.Ytgolddcmhjdmdaa
open Go.RowKit Wm

/-- What is known while items are written. -/
structure Putting (Wr : (Nat → Prop) → World → Nat → ByteArray → Prop) (w wr : World) (l : List Item) (k : Nat) : Prop where
  own : ∃ F : Nat → Prop, Wr F wr w.heap.size (itemsB (l.take k)) ∧ ∀ j, F j → w.heap.size ≤ j
  below : Below w.heap.size w wr
theorem Putting.next {Wr : (Nat → Prop) → World → Nat → ByteArray → Prop} (K : LandedWr Wr) {w wx w2 w3 : World} {l : List Item} {k : Nat} (hk : k < l.length) {F : Nat → Prop} (hF : ∀ j, F j → w.heap.size ≤ j)
    (hb : Below w.heap.size w wx) (h : WrPost Wr F w.heap.size (itemsB (l.take k) ++ itemB l[k]) wx w2) (h3 : Below w2.heap.size w2 w3) : Putting Wr w w3 l (k + 1) := by
  obtain ⟨F', h1, h2, h4⟩ := h
  refine ⟨⟨F', by rw [itemsB_take l k hk]; exact K.later h1 h3, fun j hj => ?_⟩, ?_⟩
  · by_cases hlt : j < wx.heap.size
    · exact hF j (h4 j hlt hj)
    · have := hb.size; omega
  · exact (hb.trans (h2.to_below hb.size hF)).trans (h3.mono (by have := h2.size; have := hb.size; omega))

theorem WrPost.only {Wr : (Nat → Prop) → World → Nat → ByteArray → Prop} {F : Nat → Prop} {p : Nat} {bs : ByteArray} {W W' : World} (h : WrPost Wr F p bs W W') : Only F W W' := h.choose_spec.2.1
theorem WrPost.same {Wr : (Nat → Prop) → World → Nat → ByteArray → Prop} {F : Nat → Prop} {p : Nat} {bs : ByteArray} {W : World} (h : Wr F W p bs) : WrPost Wr F p (bs ++ ByteArray.empty) W W :=
  ⟨F, by rw [ByteArray.append_empty]; exact h, Only.refl _ _, fun _ _ e => e⟩

end Go.Proofs.Ytgolddcmhjdmdaa
