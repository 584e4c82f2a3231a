/- The landed reader: what its calls answer, and what they leave; and where there is none. No condition but sizes. -/
import Derived.Test.YtdphflbgecnhkaaDoorZTt
import Derived.Test.YtdphflbgecnhkaaDoorZTw
import Derived.Deep.QuietTactic
import Derived.BigQuiet
namespace Go.Proofs.YtdphflbgecnhkaaDoor
open Go.RowKit Wm Go.Lib

def leftB (st : Option ByteArray) : ByteArray := st.getD ByteArray.empty
/-- A reader's two cells. -/
structure RdV (W : World) (p : Nat) (st : Option ByteArray) : Prop where
  c0 : W.cell? ⟨p, 0, none⟩ = some (.string (leftB st))
  c1 : W.cell? ⟨p, 1, none⟩ = some (.bool st.isNone)
  f0 : W.frozen? ⟨p, 0, none⟩ = false
  f1 : W.frozen? ⟨p, 1, none⟩ = false
  lt : p < W.heap.size
  few : (leftB st).size ≤ 140737488351232
def RdIs (F : Nat → Prop) (W : World) (p : Nat) (st : Option ByteArray) : Prop := RdV W p st ∧ F p ∧ ∀ k, F k → k < W.heap.size
theorem RdV.only {G : Nat → Prop} {W W' : World} {p : Nat} {st : Option ByteArray} (h : RdV W p st) (hO : Only G W W') (hd : ¬ G p) : RdV W' p st :=
  ⟨by rw [hO.cell (p := ⟨p, 0, none⟩) h.lt hd]; exact h.c0, by rw [hO.cell (p := ⟨p, 1, none⟩) h.lt hd]; exact h.c1, by rw [hO.frozen (p := ⟨p, 0, none⟩) h.lt hd]; exact h.f0,
    by rw [hO.frozen (p := ⟨p, 1, none⟩) h.lt hd]; exact h.f1, Nat.lt_of_lt_of_le h.lt hO.size, h.few⟩
theorem rdPost_of {F : Nat → Prop} {W W' : World} {p : Nat} {st st' : Option ByteArray} (h : RdIs F W p st) (h' : RdV W' p st') (hO : Only (fun k => k = p) W W') : RdPost RdIs F p st' W W' :=
  ⟨F, ⟨h', h.2.1, fun k hk => Nat.lt_of_lt_of_le (h.2.2 k hk) hO.size⟩, hO.mono (fun j _ hj => by rw [hj]; exact h.2.1), fun _ _ e => e⟩
/-- What a call that takes leaves, in its own words. -/
structure RdQ (p : Nat) (st' : Option ByteArray) (W W' : World) : Prop where
  v : RdV W' p st'
  o : Only (fun k => k = p) W W'
theorem RdQ.before {p : Nat} {st : Option ByteArray} {W0 W W' : World} (h : RdQ p st W W') (hb : Below W0.heap.size W0 W) : RdQ p st W0 W' :=
  ⟨h.v, (Only.of_below (F := fun k => k = p) hb).trans h.o (fun _ _ e => e)⟩
theorem RdQ.trans {p : Nat} {st st2 : Option ByteArray} {W W1 W2 : World} (h : RdQ p st W W1) (k : RdQ p st2 W1 W2) : RdQ p st2 W W2 := ⟨k.v, h.o.trans k.o (fun _ _ e => e)⟩
theorem RdQ.next {p : Nat} {st : Option ByteArray} {W W1 W2 : World} {G : Nat → Prop} (h : RdQ p st W W1) (hp : p < W.heap.size) (hO : Only G W1 W2) (hG : ∀ k, G k → W.heap.size ≤ k) : RdQ p st W W2 :=
  ⟨h.v.only hO (fun e => by have := hG p e; omega), h.o.trans hO (fun j hj e => by have := hG j e; omega)⟩
theorem RdQ.post {F : Nat → Prop} {W W' : World} {p : Nat} {st st' : Option ByteArray} (h : RdIs F W p st) (k : RdQ p st' W W') : RdPost RdIs F p st' W W' := rdPost_of h k.v k.o
theorem RdQ.same {p : Nat} {st : Option ByteArray} {W W' : World} (h : RdV W p st) (hb : Below W.heap.size W W') : RdQ p st W W' :=
  ⟨h.only (Only.of_below (F := fun _ => False) hb) (fun e => e), Only.of_below hb⟩
/-- A block that may be written. -/
structure BoxF (w : World) (b : Nat) (cs : List Value) : Prop where
  box : BoxAt w b cs
  fz : ∀ j, w.frozen? ⟨b, j, none⟩ = false
theorem BoxF.new (w : World) (cs : List Value) (t : TypeId) : BoxF (w.alloc (.cells cs.toArray t)) w.heap.size cs := ⟨BoxAt.new w cs t, fun j => by simp [go_sem]⟩
theorem BoxF.later {w w2 : World} {b : Nat} {cs : List Value} (h : BoxF w b cs) (hb : Below w.heap.size w w2) : BoxF w2 b cs :=
  ⟨h.box.later hb, fun j => by rw [hb.frozen (p := ⟨b, j, none⟩) h.box.lt]; exact h.fz j⟩
theorem BoxF.only {F : Nat → Prop} {w w2 : World} {b : Nat} {cs : List Value} (h : BoxF w b cs) (hb : Only F w w2) (hf : ¬ F b) : BoxF w2 b cs :=
  ⟨h.box.only hb hf, fun j => by rw [hb.frozen (p := ⟨b, j, none⟩) h.box.lt hf]; exact h.fz j⟩
end Go.Proofs.YtdphflbgecnhkaaDoor
