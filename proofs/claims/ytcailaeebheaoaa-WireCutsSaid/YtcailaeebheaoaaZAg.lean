/- Stages 9 and 10: blocks of known cells, a writer and a reader behind a first world. Plain, over whatever program's contracts. -/
import Derived.Test.YtcailaeebheaoaaZTp
import Derived.Test.YtcailaeebheaoaaZTt
import Derived.Test.YtcailaeebheaoaaZRo
namespace Go.Proofs.Ytcailaeebheaoaa
open Go.RowKit Wm

/-- Blocks, and a writer. -/
structure Wx (Wr : (Nat → Prop) → World → Nat → ByteArray → Prop) (w W : World) (l : List (Nat × List Value)) (p : Nat) (bs : ByteArray) : Prop where
  bel : Below w.heap.size w W
  box : ∀ x ∈ l, BoxAt W x.1 x.2
  wr : ∃ F, Wr F W p bs ∧ (∀ k, F k → w.heap.size ≤ k) ∧ ∀ x ∈ l, ¬ F x.1
/-- .. and a reader. -/
structure Rx (Wr : (Nat → Prop) → World → Nat → ByteArray → Prop) (Rd : (Nat → Prop) → World → Nat → Option ByteArray → Prop) (w W : World) (l : List (Nat × List Value)) (p : Nat) (bs : ByteArray) (q : Nat) (st : Option ByteArray) : Prop where
  bel : Below w.heap.size w W
  box : ∀ x ∈ l, BoxAt W x.1 x.2
  both : ∃ F G, Wr F W p bs ∧ Rd G W q st ∧ (∀ k, F k → ¬ G k) ∧ (∀ k, F k → w.heap.size ≤ k) ∧ (∀ k, G k → w.heap.size ≤ k) ∧ ∀ x ∈ l, ¬ F x.1 ∧ ¬ G x.1
/-- A reader alone. -/
structure Ry (Rd : (Nat → Prop) → World → Nat → Option ByteArray → Prop) (w W : World) (l : List (Nat × List Value)) (q : Nat) (st : Option ByteArray) : Prop where
  bel : Below w.heap.size w W
  box : ∀ x ∈ l, BoxAt W x.1 x.2
  rd : ∃ G, Rd G W q st ∧ (∀ k, G k → w.heap.size ≤ k) ∧ ∀ x ∈ l, ¬ G x.1
section
variable {Wr : (Nat → Prop) → World → Nat → ByteArray → Prop} {Rd : (Nat → Prop) → World → Nat → Option ByteArray → Prop} {w W W' : World} {l : List (Nat × List Value)} {p q : Nat} {bs bs2 : ByteArray} {st st2 : Option ByteArray}
theorem Wx.later (K : LandedWr Wr) (h : Wx Wr w W l p bs) (hb : Below W.heap.size W W') : Wx Wr w W' l p bs := by
  obtain ⟨h1, h2, F, h3, h4, h5⟩ := h
  exact ⟨h1.trans (hb.mono h1.size), fun x hx => (h2 x hx).later hb, F, K.later h3 hb, h4, h5⟩
theorem Rx.later (K : LandedWr Wr) (R : LandedRd Rd) (h : Rx Wr Rd w W l p bs q st) (hb : Below W.heap.size W W') : Rx Wr Rd w W' l p bs q st := by
  obtain ⟨h1, h2, F, G, h3, h4, h5, h6, h7, h8⟩ := h
  exact ⟨h1.trans (hb.mono h1.size), fun x hx => (h2 x hx).later hb, F, G, K.later h3 hb, R.later h4 hb, h5, h6, h7, h8⟩
theorem Ry.later (R : LandedRd Rd) (h : Ry Rd w W l q st) (hb : Below W.heap.size W W') : Ry Rd w W' l q st := by
  obtain ⟨h1, h2, G, h3, h4, h5⟩ := h
  exact ⟨h1.trans (hb.mono h1.size), fun x hx => (h2 x hx).later hb, G, R.later h3 hb, h4, h5⟩
theorem Wx.new (K : LandedWr Wr) (h : Wx Wr w W l p bs) (cs : List Value) (t : TypeId) : Wx Wr w (W.alloc (.cells cs.toArray t)) ((W.heap.size, cs) :: l) p bs := by
  obtain ⟨h1, h2, F, h3, h4, h5⟩ := h.later K ((Below.refl _ _).alloc (Nat.le_refl _) (.cells cs.toArray t))
  obtain ⟨_, _, F0, g3, g4, g5⟩ := h
  refine ⟨h1, fun x hx => ?_, F0, K.later g3 ((Below.refl _ _).alloc (Nat.le_refl _) _), g4, fun x hx => ?_⟩
  · rcases List.mem_cons.1 hx with rfl | hx
    · exact BoxAt.new W cs t
    · exact h2 x hx
  · rcases List.mem_cons.1 hx with rfl | hx
    · exact fun e => Nat.lt_irrefl _ (K.near _ _ _ _ g3 _ e)
    · exact g5 x hx
theorem Rx.new (K : LandedWr Wr) (R : LandedRd Rd) (h : Rx Wr Rd w W l p bs q st) (cs : List Value) (t : TypeId) : Rx Wr Rd w (W.alloc (.cells cs.toArray t)) ((W.heap.size, cs) :: l) p bs q st := by
  obtain ⟨h1, h2, -⟩ := h.later K R ((Below.refl _ _).alloc (Nat.le_refl _) (.cells cs.toArray t))
  obtain ⟨_, _, F0, G0, g3, g4, g5, g6, g7, g8⟩ := h
  refine ⟨h1, fun x hx => ?_, F0, G0, K.later g3 ((Below.refl _ _).alloc (Nat.le_refl _) _), R.later g4 ((Below.refl _ _).alloc (Nat.le_refl _) _), g5, g6, g7, fun x hx => ?_⟩
  · rcases List.mem_cons.1 hx with rfl | hx
    · exact BoxAt.new W cs t
    · exact h2 x hx
  · rcases List.mem_cons.1 hx with rfl | hx
    · exact ⟨fun e => Nat.lt_irrefl _ (K.near _ _ _ _ g3 _ e), fun e => Nat.lt_irrefl _ (R.near _ _ _ _ g4 _ e)⟩
    · exact g8 x hx
theorem Ry.new (R : LandedRd Rd) (h : Ry Rd w W l q st) (cs : List Value) (t : TypeId) : Ry Rd w (W.alloc (.cells cs.toArray t)) ((W.heap.size, cs) :: l) q st := by
  obtain ⟨h1, h2, -⟩ := h.later R ((Below.refl _ _).alloc (Nat.le_refl _) (.cells cs.toArray t))
  obtain ⟨_, _, G0, g4, g7, g8⟩ := h
  refine ⟨h1, fun x hx => ?_, G0, R.later g4 ((Below.refl _ _).alloc (Nat.le_refl _) _), g7, fun x hx => ?_⟩
  · rcases List.mem_cons.1 hx with rfl | hx
    · exact BoxAt.new W cs t
    · exact h2 x hx
  · rcases List.mem_cons.1 hx with rfl | hx
    · exact fun e => Nat.lt_irrefl _ (R.near _ _ _ _ g4 _ e)
    · exact g8 x hx
/-- Whatever only makes memory. -/
theorem Wx.ask (K : LandedWr Wr) (h : Wx Wr w W l p bs) {f : FuncId} {args : Array Value} {S : Ending → Prop} (hc : Calls Try.prog f args W fun e W' => S e ∧ Below W.heap.size W W') :
    Calls Try.prog f args W fun e W' => S e ∧ Wx Wr w W' l p bs := by
  refine hc.mono ?_
  rintro e w2 ⟨hr, hb⟩
  exact ⟨hr, h.later K hb⟩
theorem Rx.ask (K : LandedWr Wr) (R : LandedRd Rd) (h : Rx Wr Rd w W l p bs q st) {f : FuncId} {args : Array Value} {S : Ending → Prop} (hc : Calls Try.prog f args W fun e W' => S e ∧ Below W.heap.size W W') :
    Calls Try.prog f args W fun e W' => S e ∧ Rx Wr Rd w W' l p bs q st := by
  refine hc.mono ?_
  rintro e w2 ⟨hr, hb⟩
  exact ⟨hr, h.later K R hb⟩
theorem Ry.ask (R : LandedRd Rd) (h : Ry Rd w W l q st) {f : FuncId} {args : Array Value} {S : Ending → Prop} (hc : Calls Try.prog f args W fun e W' => S e ∧ Below W.heap.size W W') :
    Calls Try.prog f args W fun e W' => S e ∧ Ry Rd w W' l q st := by
  refine hc.mono ?_
  rintro e w2 ⟨hr, hb⟩
  exact ⟨hr, h.later R hb⟩
/-- What the writer is asked to do. -/
theorem Wx.put (h : Wx Wr w W l p bs) {f : FuncId} {args : Array Value} {S : Ending → Prop} (hc : ∀ F, Wr F W p bs → Calls Try.prog f args W fun e W' => S e ∧ WrPost Wr F p bs2 W W') :
    Calls Try.prog f args W fun e W' => S e ∧ Wx Wr w W' l p bs2 := by
  obtain ⟨h1, h2, F, h3, h4, h5⟩ := h
  refine (hc F h3).mono ?_
  rintro e w2 ⟨hr, F', k1, k2, k3⟩
  refine ⟨hr, h1.trans (k2.to_below h1.size (fun k hk => h4 _ hk)), fun x hx => (h2 x hx).only k2 (h5 x hx), F', k1, fun k hk => ?_, fun x hx e => h5 x hx (k3 _ (h2 x hx).lt e)⟩
  by_cases e : k < W.heap.size
  · exact h4 k (k3 k e hk)
  · have := h1.size
    omega
/-- What the reader is asked to do. -/
theorem Rx.get (K : LandedWr Wr) (h : Rx Wr Rd w W l p bs q st) {f : FuncId} {args : Array Value} {S : Ending → Prop} (hc : ∀ G, Rd G W q st → Calls Try.prog f args W fun e W' => S e ∧ RdPost Rd G q st2 W W') :
    Calls Try.prog f args W fun e W' => S e ∧ Rx Wr Rd w W' l p bs q st2 := by
  obtain ⟨h1, h2, F, G, h3, h4, h5, h6, h7, h8⟩ := h
  refine (hc G h4).mono ?_
  rintro e w2 ⟨hr, G', k1, k2, k3⟩
  refine ⟨hr, h1.trans (k2.to_below h1.size (fun k hk => h7 _ hk)), fun x hx => (h2 x hx).only k2 (h8 x hx).2, F, G', K.keep _ _ _ _ _ _ h3 k2 h5, k1, fun k hk e => ?_, h6, fun k hk => ?_, fun x hx => ⟨(h8 x hx).1, fun e => (h8 x hx).2 (k3 _ (h2 x hx).lt e)⟩⟩
  · exact h5 k hk (k3 k (K.near _ _ _ _ h3 k hk) e)
  · by_cases e : k < W.heap.size
    · exact h7 k (k3 k e hk)
    · have := h1.size
      omega
theorem Ry.get (h : Ry Rd w W l q st) {f : FuncId} {args : Array Value} {S : Ending → Prop} (hc : ∀ G, Rd G W q st → Calls Try.prog f args W fun e W' => S e ∧ RdPost Rd G q st2 W W') :
    Calls Try.prog f args W fun e W' => S e ∧ Ry Rd w W' l q st2 := by
  obtain ⟨h1, h2, G, h4, h7, h8⟩ := h
  refine (hc G h4).mono ?_
  rintro e w2 ⟨hr, G', k1, k2, k3⟩
  refine ⟨hr, h1.trans (k2.to_below h1.size (fun k hk => h7 _ hk)), fun x hx => (h2 x hx).only k2 (h8 x hx), G', k1, fun k hk => ?_, fun x hx e => h8 x hx (k3 _ (h2 x hx).lt e)⟩
  by_cases e : k < W.heap.size
  · exact h7 k (k3 k e hk)
  · have := h1.size
    omega
/-- A reader made. -/
theorem Wx.read (K : LandedWr Wr) (h : Wx Wr w W l p bs) {s : ByteArray} {e : Ending} (hr : ReadPost Rd s W e W') : ∃ q, e = .returned (.pointer (some ⟨q, 0, none⟩)) ∧ Rx Wr Rd w W' l p bs q (some s) := by
  obtain ⟨q, G, he, h1, h2, h3⟩ := hr
  refine ⟨q, he, ?_⟩
  obtain ⟨g1, g2, F, g3, g4, g5⟩ := h
  refine ⟨g1.trans (h3.mono g1.size), fun x hx => (g2 x hx).later h3, F, G, K.later g3 h3, h1, fun k hk e => ?_, g4, fun k hk => ?_, fun x hx => ⟨g5 x hx, fun e => ?_⟩⟩
  · have := h2 k e
    have := K.near _ _ _ _ g3 k hk
    omega
  · have := h2 k hk
    have := g1.size
    omega
  · have := h2 _ e
    have := (g2 x hx).lt
    omega
theorem Ry.start {s : ByteArray} {e : Ending} (hb : Below w.heap.size w W) (hx : ∀ x ∈ l, BoxAt W x.1 x.2) (hr : ReadPost Rd s W e W') : ∃ q, e = .returned (.pointer (some ⟨q, 0, none⟩)) ∧ Ry Rd w W' l q (some s) := by
  obtain ⟨q, G, he, h1, h2, h3⟩ := hr
  refine ⟨q, he, hb.trans (h3.mono hb.size), fun x hx' => (hx x hx').later h3, G, h1, fun k hk => ?_, fun x hx' e => ?_⟩
  · have := h2 k hk
    have := hb.size
    omega
  · have := h2 _ e
    have := (hx x hx').lt
    omega
/-- A writer made. -/
theorem Wx.start (K : LandedWr Wr) (hb : Below w.heap.size w W) (hx : ∀ x ∈ l, BoxAt W x.1 x.2) : Wx Wr w (W.alloc (.cells #[.slice none 0 0] 65)) l W.heap.size ByteArray.empty := by
  refine ⟨hb.alloc hb.size _, fun x hx' => (hx x hx').later ((Below.refl _ _).alloc (Nat.le_refl _) _), _, K.new W, fun k hk => ?_, fun x hx' e => ?_⟩
  · rw [hk]; exact hb.size
  · have := (hx x hx').lt
    rw [e] at this
    omega
end
end Go.Proofs.Ytcailaeebheaoaa
