/- Stage 26: a text copied into a row of bytes. No condition but sizes. -/
import Derived.Test.YtdphflbgecnhkaaDoorZBc
import Derived.Test.YtdphflbgecnhkaaDoorZYs
import Derived.Test.YtdphflbgecnhkaaDoorZRow
namespace Go.Proofs.YtdphflbgecnhkaaDoor
open Go.RowKit Go.Sort Wm

/-- A text's bytes laid at a place. -/
def copyF (f : Nat → Nat) (o : Nat) (s : ByteArray) : Nat → Nat := fun j => if o ≤ j ∧ j < o + s.size then byteOf s (j - o) else f j
abbrev cellsS (s : ByteArray) : List Value := s.data.toList.map fun x => Value.int .u8 (x.toNat : Int)
theorem cellsS_length (s : ByteArray) : (cellsS s).length = s.size := by simp [cellsS]
theorem byteOf_get (s : ByteArray) (j : Nat) (hj : j < (cellsS s).length) : (cellsS s)[j] = .int .u8 ((byteOf s j : Nat) : Int) := by
  have h : j < s.data.toList.length := by simpa [cellsS] using hj
  unfold byteOf
  rw [List.getD_eq_getElem?_getD, List.getElem?_eq_getElem h]
  simp [cellsS]
theorem RowIs.copyRun {w wr : World} {B n : Nat} {f : Nat → Nat} (h : RowIs w wr B n f) (s : ByteArray) (o dLen dCap : Nat) (ho : o + dLen ≤ n) (hle : s.size ≤ dLen) (ty : TypeId) :
    (Builtin.copy_ #[40, 9] ty #[.slice (some ⟨B, o, none⟩) dLen dCap, .string s]).run Tryd.prog wr = .ok (goInt s.size) (wr.setCells B o (cellsS s)) :=
  Go.run_copy_string wr 40 9 ty 5 B o dLen dCap s Tryd.underlying40 (fun w => by kernel_rfl) hle (fun j hj => by rw [h.cell _ (by omega)]; rfl) (fun j hj => h.fz _ (by omega))
theorem RowIs.copied {w wr : World} {B n : Nat} {f : Nat → Nat} (h : RowIs w wr B n f) (s : ByteArray) (o : Nat) (ho : o + s.size ≤ n) : RowIs w (wr.setCells B o (cellsS s)) B n (copyF f o s) := by
  refine ⟨fun j hj => ?_, fun j hj => by rw [World.frozen?_setCells]; exact h.fz j hj, below_setCells h.far _ _ _ h.below, h.far, by rw [size_setCells']; exact h.near⟩
  unfold copyF
  by_cases c : o ≤ j ∧ j < o + s.size
  · rw [if_pos c]
    have hj2 : j - o < (cellsS s).length := by rw [cellsS_length]; omega
    have := World.cell?_setCells_in B (cellsS s) o wr (fun i hi => by rw [cellsS_length] at hi; rw [h.cell _ (by omega)]; rfl) (j - o) hj2
    rw [byteOf_get s _ hj2, show o + (j - o) = j by omega] at this
    exact this
  · rw [if_neg c, World.cell?_setCells_out]
    · exact h.cell j hj
    · intro _ _
      rw [cellsS_length]
      show j < o ∨ o + s.size ≤ j
      omega
theorem BoxAt.copied {wr : World} {b B o : Nat} {cs : List Value} {vs : List Value} (h : BoxAt wr b cs) (hb : b ≠ B) : BoxAt (wr.setCells B o vs) b cs :=
  ⟨fun j v hj => by rw [World.cell?_setCells_out _ _ _ _ _ (fun e => absurd e hb)]; exact h.spot j v hj, by rw [size_setCells']; exact h.lt⟩
/-- What Id works on: the place's box, the result's, and sixteen bytes. -/
structure IdW (w wr : World) (B : Nat) (cs : List Value) (f : Nat → Nat) : Prop where
  row : RowIs w wr B 16 f
  box : BoxAt wr w.heap.size cs
  r0 : wr.cell? ⟨w.heap.size + 1, 0, none⟩ = some (.int .u64 0)
  r1 : wr.cell? ⟨w.heap.size + 1, 1, none⟩ = some (.int .u64 0)
  g : ∀ j, wr.frozen? ⟨w.heap.size + 1, j, none⟩ = false
  far : w.heap.size + 1 < B
theorem IdW.later {w wr w2 : World} {B : Nat} {cs : List Value} {f : Nat → Nat} (h : IdW w wr B cs f) (hb : Below wr.heap.size wr w2) : IdW w w2 B cs f := by
  have hl : w.heap.size + 1 < wr.heap.size := Nat.lt_trans h.far h.row.near
  exact ⟨h.row.later hb, h.box.later hb, by rw [hb.cell (p := ⟨w.heap.size + 1, 0, none⟩) hl]; exact h.r0, by rw [hb.cell (p := ⟨w.heap.size + 1, 1, none⟩) hl]; exact h.r1,
    fun j => by rw [hb.frozen (p := ⟨w.heap.size + 1, j, none⟩) hl]; exact h.g j, h.far⟩
theorem IdW.drew {w wr : World} {B : Nat} {cs : List Value} {f : Nat → Nat} (h : IdW w wr B cs f) : IdW w wr.drew B cs f := h.later ((Below.refl _ _).drew)
theorem IdW.copied {w wr : World} {B : Nat} {cs : List Value} {f : Nat → Nat} (h : IdW w wr B cs f) (s : ByteArray) (o : Nat) (ho : o + s.size ≤ 16) : IdW w (wr.setCells B o (cellsS s)) B cs (copyF f o s) := by
  have hf := h.far
  have out : ∀ j, (wr.setCells B o (cellsS s)).cell? ⟨w.heap.size + 1, j, none⟩ = wr.cell? ⟨w.heap.size + 1, j, none⟩ := fun j =>
    World.cell?_setCells_out _ _ _ _ _ (fun e => absurd e (by show w.heap.size + 1 ≠ B; omega))
  exact ⟨h.row.copied s o ho, h.box.copied (by omega), by rw [out]; exact h.r0, by rw [out]; exact h.r1, fun j => by rw [World.frozen?_setCells]; exact h.g j, hf⟩
theorem IdW.put {w wr : World} {B k x : Nat} {cs : List Value} {f : Nat → Nat} (h : IdW w wr B cs f) (hk : k < 16) : IdW w (wr.setCell ⟨B, k, none⟩ (.int .u8 ((x : Nat) : Int))) B cs (setF f k x) := by
  have hf := h.far
  refine ⟨h.row.put hk, ⟨fun j v hj => ?_, by simpa using h.box.lt⟩, ?_, ?_, fun j => by simpa using h.g j, hf⟩
  · rw [World.cell?_setCell_other]
    · exact h.box.spot j v hj
    · intro e; injection e with e1 _ _; omega
  · rw [World.cell?_setCell_other]
    · exact h.r0
    · intro e; injection e with e1 _ _; omega
  · rw [World.cell?_setCell_other]
    · exact h.r1
    · intro e; injection e with e1 _ _; omega
/-- The bytes that Id lays. -/
def idF (p : Place) (x : Nat) : Nat → Nat := setF (setF (copyF (copyF (fun _ => 0) 0 p.Good) 10 p.Site) 14 x) 15 1
theorem fillB_at (s : ByteArray) (n j : Nat) (_hs : s.size ≤ n) (_hj : j < n) : ((fillB s n).data.toList.getD j 0).toNat = if j < s.size then byteOf s j else 0 := by
  unfold fillB byteOf zerosB
  rw [ByteArray.data_append, Array.toList_append, List.getD_eq_getElem?_getD, List.getD_eq_getElem?_getD]
  have e : s.data.toList.length = s.size := rfl
  by_cases c : j < s.size
  · rw [if_pos c, List.getElem?_append_left (by omega)]
  · rw [if_neg c, List.getElem?_append_right (by omega), e]
    show (((List.replicate (n - s.size) (0 : UInt8))[j - s.size]?).getD 0).toNat = 0
    rw [List.getElem?_replicate]
    split <;> rfl
theorem idF_text {p : Place} (hg : goodPl p = true) : textOf 16 (idF p p.State.toNat) = plcB p := by
  obtain ⟨g1, g2, g3⟩ := (goodPl_iff p).1 hg
  have s1 := ((nameB_iff _ _).1 g1).1.2
  have s2 := ((nameB_iff _ _).1 g2).1.2
  apply bytes_ext
  have hl : (plcB p).data.toList.length = 16 := plcB_size hg
  have hl2 : (textOf 16 (idF p p.State.toNat)).data.toList.length = 16 := by simp [textOf]
  apply List.ext_getElem (by rw [hl, hl2])
  intro j h1 h2
  have hj : j < 16 := by omega
  have e0 : ∀ h, (textOf 16 (idF p p.State.toNat)).data.toList[j]'h = UInt8.ofNat (idF p p.State.toNat j) := fun h => by
    simp [textOf]
  refine (e0 h1).trans ?_
  have hf : ∀ (c : UInt8) (n : Nat), c.toNat = n → UInt8.ofNat n = c := fun c n h => by rw [← h]; exact UInt8.ofNat_toNat
  apply hf
  have e1 : (plcB p).data.toList = (fillB p.Good 10).data.toList ++ ((fillB p.Site 4).data.toList ++ (tailB p.State).data.toList) := by
    unfold plcB
    rw [ByteArray.data_append, ByteArray.data_append, Array.toList_append, Array.toList_append, List.append_assoc]
  have z1 : (fillB p.Good 10).data.toList.length = 10 := fillB_size s1
  have z2 : (fillB p.Site 4).data.toList.length = 4 := fillB_size s2
  have e2 : (plcB p).data.toList[j] = ((fillB p.Good 10).data.toList ++ ((fillB p.Site 4).data.toList ++ (tailB p.State).data.toList)).getD j 0 := by
    rw [← e1, List.getD_eq_getElem?_getD, List.getElem?_eq_getElem h2]; rfl
  rw [e2]
  have hb : ∀ (s : ByteArray) (i : Nat), s.data.toList.getD i 0 = s.data.toList.getD i 0 := fun _ _ => rfl
  unfold idF setF copyF
  by_cases c1 : j < 10
  · rw [if_neg (by omega), if_neg (by omega), if_neg (by omega), List.getD_eq_getElem?_getD, List.getElem?_append_left (by omega), ← List.getD_eq_getElem?_getD, fillB_at _ _ _ s1 c1]
    by_cases c2 : j < p.Good.size
    · rw [if_pos c2, if_pos ⟨Nat.zero_le _, by omega⟩, Nat.sub_zero]
    · rw [if_neg c2, if_neg (by omega)]
  · rw [List.getD_eq_getElem?_getD, List.getElem?_append_right (by omega), z1]
    by_cases c2 : j < 14
    · rw [if_neg (by omega), if_neg (by omega), List.getElem?_append_left (by omega), ← List.getD_eq_getElem?_getD, fillB_at _ _ _ s2 (by omega)]
      by_cases c3 : j - 10 < p.Site.size
      · rw [if_pos c3, if_pos ⟨by omega, by omega⟩]
      · rw [if_neg c3, if_neg (by omega), if_neg (by omega)]
    · rw [List.getElem?_append_right (by omega), z2]
      by_cases c3 : j = 14
      · subst c3
        rw [if_neg (by omega), if_pos rfl]
        show (UInt8.ofNat p.State.toNat).toNat = _
        rw [UInt8.toNat_ofNat_of_lt' (by show p.State.toNat < 256; omega)]
      · obtain rfl : j = 15 := by omega
        rw [if_pos rfl]
        rfl
end Go.Proofs.YtdphflbgecnhkaaDoor
