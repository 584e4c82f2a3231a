/- Stages 9 and 10: blocks of known cells, a writer and a reader behind a first world. Plain, over whatever program's contracts. -/
/- Somebody else's writer or reader beside a block of one's own, the first that the call makes. Plain, over whatever program's contracts. -/
import Derived.Test.YtfdanlfiaoedfaaZTp
import Derived.Test.YtfdanlfiaoedfaaZTt
import Derived.Test.YtfdanlfiaoedfaaZJa
import Derived.Test.YtfdanlfiaoedfaaZCalb
import Derived.Deep.MidRow
namespace Go.Proofs.Ytfdanlfiaoedfaa
open Go.RowKit Wm

/-- Blocks, and a writer. -/
structure Wx (Wr : (Nat → Prop) → World → Nat → ByteArray → Prop) (w W : World) (l : List (Nat × List Value)) (p : Nat) (bs : ByteArray) : Prop where
  bel : Below w.heap.size w W
  box : ∀ x ∈ l, BoxAt W x.1 x.2
  wr : ∃ F, Wr F W p bs ∧ (∀ k, F k → w.heap.size ≤ k) ∧ ∀ x ∈ l, ¬ F x.1
/-- .. and a reader. -/
structure Rx (Wr : (Nat → Prop) → World → Nat → ByteArray → Prop) (Rd : (Nat → Prop) → World → Nat → Option ByteArray → Prop) (w W : World) (l : List (Nat × List Value)) (p : Nat) (bs : ByteArray) (q : Nat) (st : Option ByteArray) : Prop where
  bel : Below w.heap.size w W
  box : ∀ x ∈ l, BoxAt W x.1 x.2
  both : ∃ F G, Wr F W p bs ∧ Rd G W q st ∧ (∀ k, F k → ¬ G k) ∧ (∀ k, F k → w.heap.size ≤ k) ∧ (∀ k, G k → w.heap.size ≤ k) ∧ ∀ x ∈ l, ¬ F x.1 ∧ ¬ G x.1
/-- A reader alone. -/
structure Ry (Rd : (Nat → Prop) → World → Nat → Option ByteArray → Prop) (w W : World) (l : List (Nat × List Value)) (q : Nat) (st : Option ByteArray) : Prop where
  bel : Below w.heap.size w W
  box : ∀ x ∈ l, BoxAt W x.1 x.2
  rd : ∃ G, Rd G W q st ∧ (∀ k, G k → w.heap.size ≤ k) ∧ ∀ x ∈ l, ¬ G x.1
section
variable {Wr : (Nat → Prop) → World → Nat → ByteArray → Prop} {Rd : (Nat → Prop) → World → Nat → Option ByteArray → Prop} {w W W' : World} {l : List (Nat × List Value)} {p q : Nat} {bs bs2 : ByteArray} {st st2 : Option ByteArray}
theorem Wx.later (K : LandedWr Wr) (h : Wx Wr w W l p bs) (hb : Below W.heap.size W W') : Wx Wr w W' l p bs := by
  obtain ⟨h1, h2, F, h3, h4, h5⟩ := h
  exact ⟨h1.trans (hb.mono h1.size), fun x hx => (h2 x hx).later hb, F, K.later h3 hb, h4, h5⟩
theorem Rx.later (K : LandedWr Wr) (R : LandedRd Rd) (h : Rx Wr Rd w W l p bs q st) (hb : Below W.heap.size W W') : Rx Wr Rd w W' l p bs q st := by
  obtain ⟨h1, h2, F, G, h3, h4, h5, h6, h7, h8⟩ := h
  exact ⟨h1.trans (hb.mono h1.size), fun x hx => (h2 x hx).later hb, F, G, K.later h3 hb, R.later h4 hb, h5, h6, h7, h8⟩
theorem Ry.later (R : LandedRd Rd) (h : Ry Rd w W l q st) (hb : Below W.heap.size W W') : Ry Rd w W' l q st := by
  obtain ⟨h1, h2, G, h3, h4, h5⟩ := h
  exact ⟨h1.trans (hb.mono h1.size), fun x hx => (h2 x hx).later hb, G, R.later h3 hb, h4, h5⟩
theorem Wx.new (K : LandedWr Wr) (h : Wx Wr w W l p bs) (cs : List Value) (t : TypeId) : Wx Wr w (W.alloc (.cells cs.toArray t)) ((W.heap.size, cs) :: l) p bs := by
  obtain ⟨h1, h2, F, h3, h4, h5⟩ := h.later K ((Below.refl _ _).alloc (Nat.le_refl _) (.cells cs.toArray t))
  obtain ⟨_, _, F0, g3, g4, g5⟩ := h
  refine ⟨h1, fun x hx => ?_, F0, K.later g3 ((Below.refl _ _).alloc (Nat.le_refl _) _), g4, fun x hx => ?_⟩
  · rcases List.mem_cons.1 hx with rfl | hx
    · exact BoxAt.new W cs t
    · exact h2 x hx
  · rcases List.mem_cons.1 hx with rfl | hx
    · exact fun e => Nat.lt_irrefl _ (K.near _ _ _ _ g3 _ e)
    · exact g5 x hx
theorem Rx.new (K : LandedWr Wr) (R : LandedRd Rd) (h : Rx Wr Rd w W l p bs q st) (cs : List Value) (t : TypeId) : Rx Wr Rd w (W.alloc (.cells cs.toArray t)) ((W.heap.size, cs) :: l) p bs q st := by
  obtain ⟨h1, h2, -⟩ := h.later K R ((Below.refl _ _).alloc (Nat.le_refl _) (.cells cs.toArray t))
  obtain ⟨_, _, F0, G0, g3, g4, g5, g6, g7, g8⟩ := h
  refine ⟨h1, fun x hx => ?_, F0, G0, K.later g3 ((Below.refl _ _).alloc (Nat.le_refl _) _), R.later g4 ((Below.refl _ _).alloc (Nat.le_refl _) _), g5, g6, g7, fun x hx => ?_⟩
  · rcases List.mem_cons.1 hx with rfl | hx
    · exact BoxAt.new W cs t
    · exact h2 x hx
  · rcases List.mem_cons.1 hx with rfl | hx
    · exact ⟨fun e => Nat.lt_irrefl _ (K.near _ _ _ _ g3 _ e), fun e => Nat.lt_irrefl _ (R.near _ _ _ _ g4 _ e)⟩
    · exact g8 x hx
theorem Ry.new (R : LandedRd Rd) (h : Ry Rd w W l q st) (cs : List Value) (t : TypeId) : Ry Rd w (W.alloc (.cells cs.toArray t)) ((W.heap.size, cs) :: l) q st := by
  obtain ⟨h1, h2, -⟩ := h.later R ((Below.refl _ _).alloc (Nat.le_refl _) (.cells cs.toArray t))
  obtain ⟨_, _, G0, g4, g7, g8⟩ := h
  refine ⟨h1, fun x hx => ?_, G0, R.later g4 ((Below.refl _ _).alloc (Nat.le_refl _) _), g7, fun x hx => ?_⟩
  · rcases List.mem_cons.1 hx with rfl | hx
    · exact BoxAt.new W cs t
    · exact h2 x hx
  · rcases List.mem_cons.1 hx with rfl | hx
    · exact fun e => Nat.lt_irrefl _ (R.near _ _ _ _ g4 _ e)
    · exact g8 x hx
/-- Whatever only makes memory. -/
theorem Wx.ask (K : LandedWr Wr) (h : Wx Wr w W l p bs) {f : FuncId} {args : Array Value} {S : Ending → Prop} (hc : Calls Try.prog f args W fun e W' => S e ∧ Below W.heap.size W W') :
    Calls Try.prog f args W fun e W' => S e ∧ Wx Wr w W' l p bs := by
  refine hc.mono ?_
  rintro e w2 ⟨hr, hb⟩
  exact ⟨hr, h.later K hb⟩
theorem Rx.ask (K : LandedWr Wr) (R : LandedRd Rd) (h : Rx Wr Rd w W l p bs q st) {f : FuncId} {args : Array Value} {S : Ending → Prop} (hc : Calls Try.prog f args W fun e W' => S e ∧ Below W.heap.size W W') :
    Calls Try.prog f args W fun e W' => S e ∧ Rx Wr Rd w W' l p bs q st := by
  refine hc.mono ?_
  rintro e w2 ⟨hr, hb⟩
  exact ⟨hr, h.later K R hb⟩
theorem Ry.ask (R : LandedRd Rd) (h : Ry Rd w W l q st) {f : FuncId} {args : Array Value} {S : Ending → Prop} (hc : Calls Try.prog f args W fun e W' => S e ∧ Below W.heap.size W W') :
    Calls Try.prog f args W fun e W' => S e ∧ Ry Rd w W' l q st := by
  refine hc.mono ?_
  rintro e w2 ⟨hr, hb⟩
  exact ⟨hr, h.later R hb⟩
/-- What the writer is asked to do. -/
theorem Wx.put (h : Wx Wr w W l p bs) {f : FuncId} {args : Array Value} {S : Ending → Prop} (hc : ∀ F, Wr F W p bs → Calls Try.prog f args W fun e W' => S e ∧ WrPost Wr F p bs2 W W') :
    Calls Try.prog f args W fun e W' => S e ∧ Wx Wr w W' l p bs2 := by
  obtain ⟨h1, h2, F, h3, h4, h5⟩ := h
  refine (hc F h3).mono ?_
  rintro e w2 ⟨hr, F', k1, k2, k3⟩
  refine ⟨hr, h1.trans (k2.to_below h1.size (fun k hk => h4 _ hk)), fun x hx => (h2 x hx).only k2 (h5 x hx), F', k1, fun k hk => ?_, fun x hx e => h5 x hx (k3 _ (h2 x hx).lt e)⟩
  by_cases e : k < W.heap.size
  · exact h4 k (k3 k e hk)
  · have := h1.size
    omega
/-- What the reader is asked to do. -/
theorem Rx.get (K : LandedWr Wr) (h : Rx Wr Rd w W l p bs q st) {f : FuncId} {args : Array Value} {S : Ending → Prop} (hc : ∀ G, Rd G W q st → Calls Try.prog f args W fun e W' => S e ∧ RdPost Rd G q st2 W W') :
    Calls Try.prog f args W fun e W' => S e ∧ Rx Wr Rd w W' l p bs q st2 := by
  obtain ⟨h1, h2, F, G, h3, h4, h5, h6, h7, h8⟩ := h
  refine (hc G h4).mono ?_
  rintro e w2 ⟨hr, G', k1, k2, k3⟩
  refine ⟨hr, h1.trans (k2.to_below h1.size (fun k hk => h7 _ hk)), fun x hx => (h2 x hx).only k2 (h8 x hx).2, F, G', K.keep _ _ _ _ _ _ h3 k2 h5, k1, fun k hk e => ?_, h6, fun k hk => ?_, fun x hx => ⟨(h8 x hx).1, fun e => (h8 x hx).2 (k3 _ (h2 x hx).lt e)⟩⟩
  · exact h5 k hk (k3 k (K.near _ _ _ _ h3 k hk) e)
  · by_cases e : k < W.heap.size
    · exact h7 k (k3 k e hk)
    · have := h1.size
      omega
theorem Ry.get (h : Ry Rd w W l q st) {f : FuncId} {args : Array Value} {S : Ending → Prop} (hc : ∀ G, Rd G W q st → Calls Try.prog f args W fun e W' => S e ∧ RdPost Rd G q st2 W W') :
    Calls Try.prog f args W fun e W' => S e ∧ Ry Rd w W' l q st2 := by
  obtain ⟨h1, h2, G, h4, h7, h8⟩ := h
  refine (hc G h4).mono ?_
  rintro e w2 ⟨hr, G', k1, k2, k3⟩
  refine ⟨hr, h1.trans (k2.to_below h1.size (fun k hk => h7 _ hk)), fun x hx => (h2 x hx).only k2 (h8 x hx), G', k1, fun k hk => ?_, fun x hx e => h8 x hx (k3 _ (h2 x hx).lt e)⟩
  by_cases e : k < W.heap.size
  · exact h7 k (k3 k e hk)
  · have := h1.size
    omega
/-- A reader made. -/
theorem Wx.read (K : LandedWr Wr) (h : Wx Wr w W l p bs) {s : ByteArray} {e : Ending} (hr : ReadPost Rd s W e W') : ∃ q, e = .returned (.pointer (some ⟨q, 0, none⟩)) ∧ Rx Wr Rd w W' l p bs q (some s) := by
  obtain ⟨q, G, he, h1, h2, h3⟩ := hr
  refine ⟨q, he, ?_⟩
  obtain ⟨g1, g2, F, g3, g4, g5⟩ := h
  refine ⟨g1.trans (h3.mono g1.size), fun x hx => (g2 x hx).later h3, F, G, K.later g3 h3, h1, fun k hk e => ?_, g4, fun k hk => ?_, fun x hx => ⟨g5 x hx, fun e => ?_⟩⟩
  · have := h2 k e
    have := K.near _ _ _ _ g3 k hk
    omega
  · have := h2 k hk
    have := g1.size
    omega
  · have := h2 _ e
    have := (g2 x hx).lt
    omega
theorem Ry.start {s : ByteArray} {e : Ending} (hb : Below w.heap.size w W) (hx : ∀ x ∈ l, BoxAt W x.1 x.2) (hr : ReadPost Rd s W e W') : ∃ q, e = .returned (.pointer (some ⟨q, 0, none⟩)) ∧ Ry Rd w W' l q (some s) := by
  obtain ⟨q, G, he, h1, h2, h3⟩ := hr
  refine ⟨q, he, hb.trans (h3.mono hb.size), fun x hx' => (hx x hx').later h3, G, h1, fun k hk => ?_, fun x hx' e => ?_⟩
  · have := h2 k hk
    have := hb.size
    omega
  · have := h2 _ e
    have := (hx x hx').lt
    omega
/-- A writer made. -/
theorem Wx.start (K : LandedWr Wr) (hb : Below w.heap.size w W) (hx : ∀ x ∈ l, BoxAt W x.1 x.2) : Wx Wr w (W.alloc (.cells #[.slice none 0 0] 65)) l W.heap.size ByteArray.empty := by
  refine ⟨hb.alloc hb.size _, fun x hx' => (hx x hx').later ((Below.refl _ _).alloc (Nat.le_refl _) _), _, K.new W, fun k hk => ?_, fun x hx' e => ?_⟩
  · rw [hk]; exact hb.size
  · have := (hx x hx').lt
    rw [e] at this
    omega
end
end Go.Proofs.Ytfdanlfiaoedfaa
namespace Go.Proofs.Ytfdanlfiaoedfaa
open Go.RowKit Wm

theorem Only.setCells {F : Nat → Prop} {a : World} {b : Nat} (hp : b < a.heap.size → F b) : ∀ (vs : List Value) (o : Nat) (w : World), Only F a w → Only F a (w.setCells b o vs)
  | [], _, _, h => h
  | v :: r, o, _w, h => Only.setCells hp r (o + 1) _ (h.setCell (p := ⟨b, o, none⟩) hp v)
theorem size_setCellsK (b : Nat) : ∀ (vs : List Value) (o : Nat) (w : World), (w.setCells b o vs).heap.size = w.heap.size
  | [], _, _ => rfl
  | v :: r, o, w => by
    show ((w.setCell ⟨b, o, none⟩ v).setCells b (o + 1) r).heap.size = _
    rw [size_setCellsK b r (o + 1), World.size_setCell]
/-- A block of one's own: its cells, which may be written. -/
structure Own (W : World) (b : Nat) (cs : List Value) : Prop where
  box : BoxAt W b cs
  fz : ∀ j, W.frozen? ⟨b, j, none⟩ = false
theorem Own.new (w : World) (cs : List Value) (t : TypeId) : Own (w.alloc (.cells cs.toArray t)) w.heap.size cs := ⟨BoxAt.new w cs t, fun j => by simp [go_sem]⟩
theorem Own.only {F : Nat → Prop} {w w2 : World} {b : Nat} {cs : List Value} (h : Own w b cs) (hb : Only F w w2) (hf : ¬ F b) : Own w2 b cs :=
  ⟨h.box.only hb hf, fun j => by rw [hb.frozen (p := ⟨b, j, none⟩) h.box.lt hf]; exact h.fz j⟩
theorem Own.later {w w2 : World} {b : Nat} {cs : List Value} (h : Own w b cs) (hb : Below w.heap.size w w2) : Own w2 b cs := h.only (F := fun _ => False) (Only.of_below hb) (fun e => e)
theorem Own.there {w : World} {b : Nat} {cs : List Value} (h : Own w b cs) : w.there b 0 cs.length := fun j hj => by
  rw [Nat.zero_add]
  refine ⟨?_, h.fz j⟩
  rw [h.box.spot j _ (List.getElem?_eq_getElem hj)]
  rfl
theorem Own.put {w : World} {b : Nat} {cs ds : List Value} (h : Own w b cs) (hl : ds.length = cs.length) : Own (w.setCells b 0 ds) b ds := by
  refine ⟨⟨fun j v hj => ?_, by rw [size_setCellsK]; exact h.box.lt⟩, fun j => by rw [World.frozen?_setCells]; exact h.fz j⟩
  have := World.rangeAt_setCells_same w b 0 ds (by rw [hl]; exact h.there) j v hj
  rw [Nat.zero_add] at this
  exact this
/-- A writer that was there, and the call's first block. -/
structure Wz (Wr : (Nat → Prop) → World → Nat → ByteArray → Prop) (F0 : Nat → Prop) (W0 W : World) (cs : List Value) (p : Nat) (bs : ByteArray) : Prop where
  only : Only F0 W0 W
  own : Own W W0.heap.size cs
  wr : ∃ F, Wr F W p bs ∧ (∀ k, k < W0.heap.size → F k → F0 k) ∧ ¬ F W0.heap.size
section
variable {Wr : (Nat → Prop) → World → Nat → ByteArray → Prop} {F0 : Nat → Prop} {W0 W W' : World} {cs ds : List Value} {p : Nat} {bs bs2 : ByteArray}
theorem Wz.start (K : LandedWr Wr) (h : Wr F0 W0 p bs) (cs : List Value) (t : TypeId) : Wz Wr F0 W0 (W0.alloc (.cells cs.toArray t)) cs p bs := by
  have hb : Below W0.heap.size W0 (W0.alloc (.cells cs.toArray t)) := (Below.refl _ _).alloc (Nat.le_refl _) _
  exact ⟨Only.of_below hb, Own.new W0 cs t, F0, K.later h hb, fun _ _ e => e, fun e => Nat.lt_irrefl _ (K.near _ _ _ _ h _ e)⟩
theorem Wz.later (K : LandedWr Wr) (h : Wz Wr F0 W0 W cs p bs) (hb : Below W.heap.size W W') : Wz Wr F0 W0 W' cs p bs := by
  obtain ⟨h1, h2, F, h3, h4, h5⟩ := h
  exact ⟨h1.later hb, h2.later hb, F, K.later h3 hb, h4, h5⟩
theorem Wz.ask (K : LandedWr Wr) (h : Wz Wr F0 W0 W cs p bs) {P : Program} {f : FuncId} {args : Array Value} {S : Ending → Prop} (hc : Calls P f args W fun e W' => S e ∧ Below W.heap.size W W') :
    Calls P f args W fun e W' => S e ∧ Wz Wr F0 W0 W' cs p bs := by
  refine hc.mono ?_
  rintro e w2 ⟨hr, hb⟩
  exact ⟨hr, h.later K hb⟩
theorem Wz.put (h : Wz Wr F0 W0 W cs p bs) {P : Program} {f : FuncId} {args : Array Value} {S : Ending → Prop} (hc : ∀ F, Wr F W p bs → Calls P f args W fun e W' => S e ∧ WrPost Wr F p bs2 W W') :
    Calls P f args W fun e W' => S e ∧ Wz Wr F0 W0 W' cs p bs2 := by
  obtain ⟨h1, h2, F, h3, h4, h5⟩ := h
  refine (hc F h3).mono ?_
  rintro e w2 ⟨hr, F', k1, k2, k3⟩
  refine ⟨hr, h1.trans k2 h4, h2.only k2 h5, F', k1, fun k hk e => h4 k hk (k3 k (Nat.lt_of_lt_of_le hk h1.size) e), fun e => h5 (k3 _ h2.box.lt e)⟩
theorem Wz.set (K : LandedWr Wr) (h : Wz Wr F0 W0 W cs p bs) (hl : ds.length = cs.length) : Wz Wr F0 W0 (W.setCells W0.heap.size 0 ds) ds p bs := by
  obtain ⟨h1, h2, F, h3, h4, h5⟩ := h
  have hO : Only (fun k => k = W0.heap.size) W (W.setCells W0.heap.size 0 ds) := Only.setCells (F := fun k => k = W0.heap.size) (fun _ => rfl) ds 0 W (Only.refl _ _)
  refine ⟨h1.trans hO (fun j hj e => by omega), h2.put hl, F, K.keep _ _ _ _ _ _ h3 hO (fun k hk e => h5 (by rw [← e]; exact hk)), h4, h5⟩
theorem Wz.post (h : Wz Wr F0 W0 W cs p bs) : WrPost Wr F0 p bs W0 W := by
  obtain ⟨h1, h2, F, h3, h4, h5⟩ := h
  exact ⟨F, h3, h1, h4⟩
end
/-- A reader that was there, and the call's first block. -/
structure Rz (Rd : (Nat → Prop) → World → Nat → Option ByteArray → Prop) (F0 : Nat → Prop) (W0 W : World) (cs : List Value) (p : Nat) (st : Option ByteArray) : Prop where
  only : Only F0 W0 W
  own : Own W W0.heap.size cs
  rd : ∃ F, Rd F W p st ∧ (∀ k, k < W0.heap.size → F k → F0 k) ∧ ¬ F W0.heap.size
section
variable {Rd : (Nat → Prop) → World → Nat → Option ByteArray → Prop} {F0 : Nat → Prop} {W0 W W' : World} {cs ds : List Value} {p : Nat} {st st2 : Option ByteArray}
theorem Rz.start (R : LandedRd Rd) (h : Rd F0 W0 p st) (cs : List Value) (t : TypeId) : Rz Rd F0 W0 (W0.alloc (.cells cs.toArray t)) cs p st := by
  have hb : Below W0.heap.size W0 (W0.alloc (.cells cs.toArray t)) := (Below.refl _ _).alloc (Nat.le_refl _) _
  exact ⟨Only.of_below hb, Own.new W0 cs t, F0, R.later h hb, fun _ _ e => e, fun e => Nat.lt_irrefl _ (R.near _ _ _ _ h _ e)⟩
theorem Rz.later (R : LandedRd Rd) (h : Rz Rd F0 W0 W cs p st) (hb : Below W.heap.size W W') : Rz Rd F0 W0 W' cs p st := by
  obtain ⟨h1, h2, F, h3, h4, h5⟩ := h
  exact ⟨h1.later hb, h2.later hb, F, R.later h3 hb, h4, h5⟩
theorem Rz.get (h : Rz Rd F0 W0 W cs p st) {P : Program} {f : FuncId} {args : Array Value} {S : Ending → Prop} (hc : ∀ F, Rd F W p st → Calls P f args W fun e W' => S e ∧ RdPost Rd F p st2 W W') :
    Calls P f args W fun e W' => S e ∧ Rz Rd F0 W0 W' cs p st2 := by
  obtain ⟨h1, h2, F, h3, h4, h5⟩ := h
  refine (hc F h3).mono ?_
  rintro e w2 ⟨hr, F', k1, k2, k3⟩
  refine ⟨hr, h1.trans k2 h4, h2.only k2 h5, F', k1, fun k hk e => h4 k hk (k3 k (Nat.lt_of_lt_of_le hk h1.size) e), fun e => h5 (k3 _ h2.box.lt e)⟩
theorem Rz.set (R : LandedRd Rd) (h : Rz Rd F0 W0 W cs p st) (hl : ds.length = cs.length) : Rz Rd F0 W0 (W.setCells W0.heap.size 0 ds) ds p st := by
  obtain ⟨h1, h2, F, h3, h4, h5⟩ := h
  have hO : Only (fun k => k = W0.heap.size) W (W.setCells W0.heap.size 0 ds) := Only.setCells (F := fun k => k = W0.heap.size) (fun _ => rfl) ds 0 W (Only.refl _ _)
  refine ⟨h1.trans hO (fun j hj e => by omega), h2.put hl, F, R.keep _ _ _ _ _ _ h3 hO (fun k hk e => h5 (by rw [← e]; exact hk)), h4, h5⟩
theorem Rz.post (h : Rz Rd F0 W0 W cs p st) : RdPost Rd F0 p st W0 W := by
  obtain ⟨h1, h2, F, h3, h4, h5⟩ := h
  exact ⟨F, h3, h1, h4⟩
end
/-- What is left behind k bytes. -/
def behB (x : ByteArray) (k : Nat) : Option ByteArray := if k ≤ x.size then some (x.extract k x.size) else none
theorem behB_zero (x : ByteArray) : behB x 0 = some x := by
  unfold behB
  rw [if_pos (Nat.zero_le _), cut_all _ _ rfl]
theorem behB_next (x : ByteArray) (k m : Nat) : rdNext (behB x k) ((m : Nat) : Int) = behB x (k + m) := by
  unfold behB
  by_cases h : k ≤ x.size
  · rw [if_pos h]
    have z : (x.extract k x.size).size = x.size - k := by rw [ByteArray.size_extract]; omega
    unfold rdNext
    dsimp only
    by_cases h2 : k + m ≤ x.size
    · rw [if_pos (by omega), if_pos h2, z, ByteArray.extract_extract, Int.toNat_natCast, show min (k + (x.size - k)) x.size = x.size by omega]
    · rw [if_neg (by omega), if_neg h2]
  · rw [if_neg h, if_neg (by omega)]
    rfl
theorem behB_part (x : ByteArray) (k m : Nat) : rdPart (behB x k) ((m : Nat) : Int) = if k + m ≤ x.size then x.extract k (k + m) else ByteArray.empty := by
  unfold behB
  by_cases h : k ≤ x.size
  · rw [if_pos h]
    have z : (x.extract k x.size).size = x.size - k := by rw [ByteArray.size_extract]; omega
    unfold rdPart
    dsimp only
    by_cases h2 : k + m ≤ x.size
    · rw [if_pos (by omega), if_pos h2, ByteArray.extract_extract, Int.toNat_natCast, Nat.add_zero, show min (k + m) x.size = k + m by omega]
    · rw [if_neg (by omega), if_neg h2]
  · rw [if_neg h, if_neg (by omega)]
    rfl
end Go.Proofs.Ytfdanlfiaoedfaa
