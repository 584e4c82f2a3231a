/- Stage 5: parts of a text, what a sector is read as. Plain: no condition. -/
/- Stage 5: what is laid, and what is taken, as plain functions. Plain: no program, no condition. -/
/- Stage 5: what is taken of what was laid, behind a crash, too. Plain: no program, no condition. -/
/- The document's sectors of layer 5, walked. -/
/- The landed Bytes of a leaf. No condition but a text's size. -/
import Derived.Test.YtlalkfebedjlgaaDoorRows
import Derived.Test.YtlalkfebedjlgaaDoorZPm
import Derived.Test.YtlalkfebedjlgaaDoorZQs
import Derived.Test.YtlalkfebedjlgaaDoorZPl
import Derived.Test.YtlalkfebedjlgaaDoorZTw
import Derived.Test.YtlalkfebedjlgaaDoorZCt
import Derived.Lib.QuietBelow
import Derived.Lib.MinMax
import Derived.Laws.StructEq
import Derived.Shelf.Strings.Repeat
namespace Go.Proofs.YtlalkfebedjlgaaDoor
open Go Cr

/-- How many sectors so many bytes take. -/
def countN (n : Nat) : Nat := if n ≤ 104 then 1 else (n + 103) / 104
theorem countN_pos (n : Nat) : 1 ≤ countN n := by unfold countN; split <;> omega
theorem countN_ge (n : Nat) : n ≤ 104 * countN n := by unfold countN; split <;> omega
theorem countN_stop (n k : Nat) (h : 1 ≤ k) (h2 : n ≤ 104 * k) : countN n ≤ k := by unfold countN; split <;> omega
/-- The i-th part. -/
def partS (s : ByteArray) (i : Nat) : ByteArray := s.extract (min (104 * i) s.size) (min (104 * i + 104) s.size)
theorem partS_size (s : ByteArray) (i : Nat) : (partS s i).size = min (104 * i + 104) s.size - min (104 * i) s.size := by
  unfold partS
  rw [ByteArray.size_extract]
  omega
theorem partS_le (s : ByteArray) (i : Nat) : (partS s i).size ≤ 104 := by rw [partS_size]; omega
theorem cut_join (s : ByteArray) (a b : Nat) (h : a ≤ b) (hb : b ≤ s.size) : s.extract 0 a ++ s.extract a b = s.extract 0 b := by
  have e1 : (s.extract 0 a).size = a := by rw [ByteArray.size_extract]; omega
  have e2 : (s.extract a b).size = b - a := by rw [ByteArray.size_extract]; omega
  have e3 : (s.extract 0 b).size = b := by rw [ByteArray.size_extract]; omega
  refine ByteArray.ext_getElem (by rw [ByteArray.size_append]; omega) (fun i h1 h2 => ?_)
  by_cases hi : i < a
  · refine (ByteArray.getElem_append_left (a := s.extract 0 a) (b := s.extract a b) (by omega)).trans ?_
    rw [ByteArray.getElem_extract, ByteArray.getElem_extract]
  · refine (ByteArray.getElem_append_right (a := s.extract 0 a) (b := s.extract a b) (by omega)).trans ?_
    rw [ByteArray.getElem_extract, ByteArray.getElem_extract]
    congr 1
    omega
/-- The first parts, joined. -/
theorem part_join (s : ByteArray) (k : Nat) : s.extract 0 (min (104 * k) s.size) ++ partS s k = s.extract 0 (min (104 * (k + 1)) s.size) := by
  unfold partS
  rw [cut_join s _ _ (by omega) (by omega), show 104 * k + 104 = 104 * (k + 1) by omega]
theorem part_all (s : ByteArray) : s.extract 0 (min (104 * countN s.size) s.size) = s := by
  have := countN_ge s.size
  exact cut_all _ _ (by omega)
/-- What a sector is read as: the leaf whose sector it is, if it is one's. -/
noncomputable def leafOf (s : ByteArray) : Option (Int × Int × ByteArray) :=
  open Classical in if h : ∃ x : Int × Int × ByteArray, LeafOk x.1 x.2.1 x.2.2 ∧ secB x.1 x.2.1 x.2.2 = s then some h.choose else none
theorem leafOf_sec {N I : Int} {D : ByteArray} (h : LeafOk N I D) : leafOf (secB N I D) = some (N, I, D) := by
  have hx : ∃ x : Int × Int × ByteArray, LeafOk x.1 x.2.1 x.2.2 ∧ secB x.1 x.2.1 x.2.2 = secB N I D := ⟨(N, I, D), h, rfl⟩
  unfold leafOf
  rw [dif_pos hx]
  obtain ⟨a, b⟩ := hx.choose_spec
  obtain ⟨e1, e2, e3⟩ := secB_inj a h b
  congr 1
  exact Prod.ext e1 (Prod.ext e2 e3)
end Go.Proofs.YtlalkfebedjlgaaDoor
namespace Go.Proofs.YtlalkfebedjlgaaDoor
open Go Go.RowKit Cr

theorem parts_ext {t u : ByteArray} (hs : t.size = u.size) (h : ∀ i, i < countN t.size → partS t i = partS u i) : t = u := by
  have key : ∀ k, k ≤ countN t.size → t.extract 0 (min (104 * k) t.size) = u.extract 0 (min (104 * k) u.size) := by
    intro k
    induction k with
    | zero =>
      intro _
      rw [Nat.mul_zero, Nat.zero_min, Nat.zero_min]
      exact (ByteArray.extract_eq_empty_iff.mpr (by omega)).trans (ByteArray.extract_eq_empty_iff.mpr (by omega)).symm
    | succ k ih => intro hk; rw [← part_join, ← part_join, ih (by omega), h k (by omega)]
  have e := key _ (Nat.le_refl _)
  rw [part_all t, hs, part_all u] at e
  exact e
/-- The text whose parts the sectors are. -/
def TakeIs (get : Nat → ByteArray) (N : Int) (size : Nat) (t : ByteArray) : Prop := t.size = size ∧ ∀ i, i < countN size → leafOf (get i) = some (N, ((i : Nat) : Int), partS t i)
theorem TakeIs.one {get : Nat → ByteArray} {N : Int} {size : Nat} {t u : ByteArray} (h : TakeIs get N size t) (k : TakeIs get N size u) : t = u := by
  refine parts_ext (h.1.trans k.1.symm) (fun i hi => ?_)
  rw [h.1] at hi
  have := (h.2 i hi).symm.trans (k.2 i hi)
  injection this with e
  injection e with _ e
  injection e
open Classical in
noncomputable def takeOf (get : Nat → ByteArray) (N : Int) (size : Nat) : Option ByteArray := if h : ∃ t, TakeIs get N size t then some h.choose else none
/-- What Take answers of a disk. -/
def takePlace (st : St) (fr upto : Int) (size : Int) : Prop := 0 ≤ fr ∧ fr ≤ upto ∧ upto ≤ ((st.safe.length : Nat) : Int) ∧ 0 ≤ size ∧ ((countN size.toNat : Nat) : Int) ≤ upto - fr
open Classical in
noncomputable def St.take (st : St) (fr upto N size : Int) : Option ByteArray := if takePlace st fr upto size then takeOf (fun i => st.now (fr.toNat + i)) N size.toNat else none
/-- There is room for so many writes. -/
structure St.Room (st : St) (n : Nat) : Prop where
  safe : ∀ s ∈ st.safe, s.size = 128
  data : ∀ w ∈ st.later, w.2.size = 128 ∧ w.1 < st.safe.length
  many : st.safe.length ≤ 4096
  few : st.later.length + n ≤ 1000
  ops : 0 ≤ st.ops ∧ st.ops + n ≤ 1000000
  arm : -1000000 + (n : Int) ≤ st.arm ∧ st.arm ≤ 9223372036854775807
theorem St.Room.ok {st : St} {n : Nat} (h : st.Room n) : st.Ok where
  safe := h.safe
  data := h.data
  many := h.many
  few := by have := h.few; omega
  ops := by have := h.ops; omega
  arm := by have := h.arm; omega
end Go.Proofs.YtlalkfebedjlgaaDoor
namespace Go.Proofs.YtlalkfebedjlgaaDoor
open Go Go.RowKit Cr

theorem part_ok {N : Int} (h0 : 1 ≤ N) (h1 : N ≤ 1152921504606846976) (s : ByteArray) (i : Nat) (hi : i < 4096) : LeafOk N ((i : Nat) : Int) (partS s i) := ⟨⟨h0, h1⟩, by omega, partS_le s i⟩
end Go.Proofs.YtlalkfebedjlgaaDoor
namespace Go.Proofs.YtlalkfebedjlgaaDoor
open Go.RowKit Go.Sort Cr

def lenOf : Value → Nat
  | .string s => s.size
  | _ => 0
end Go.Proofs.YtlalkfebedjlgaaDoor
namespace Go.Proofs.YtlalkfebedjlgaaDoor
open Go.RowKit Go.Sort Cr Wm

/-- A writer in the making, over a block of known cells that lies ahead of it. -/
structure Lw (W0 : World) (cs : List Value) (w : World) (p : Nat) (bs : ByteArray) : Prop where
  wr : ∃ F, WrIs F w p bs ∧ ∀ k, F k → W0.heap.size < k
  box : BoxAt w W0.heap.size cs
  bel : Below W0.heap.size W0 w
theorem Lw.later {W0 : World} {cs : List Value} {w w' : World} {p : Nat} {bs : ByteArray} (h : Lw W0 cs w p bs) (hb : Below w.heap.size w w') : Lw W0 cs w' p bs := by
  obtain ⟨F, h1, h2⟩ := h.wr
  exact ⟨⟨F, wrIs_later h1 hb, h2⟩, h.box.later hb, h.bel.trans (hb.mono h.bel.size)⟩
/-- A call that puts, as it is met. -/
theorem Lw.put {W0 : World} {cs : List Value} {w : World} {p : Nat} {bs : ByteArray} (h : Lw W0 cs w p bs) {f : Nat} {args : Array Value} {bs' : ByteArray} {P : Program}
    (hc : ∀ F, WrIs F w p bs → Calls P f args w fun e w' => e = .returned (.tuple #[]) ∧ WrPost WrIs F p bs' w w') :
    Calls P f args w fun e w' => e = .returned (.tuple #[]) ∧ Lw W0 cs w' p bs' := by
  obtain ⟨F, h1, h2⟩ := h.wr
  refine (hc F h1).mono ?_
  rintro e w' ⟨rfl, F', k1, k2, k3⟩
  refine ⟨rfl, ⟨F', k1, fun k hk => ?_⟩, h.box.only k2 (fun e => by have := h2 _ e; omega), h.bel.trans (k2.to_below h.bel.size (fun k hk => by have := h2 _ hk; omega))⟩
  by_cases e : k < w.heap.size
  · exact h2 k (k3 k e hk)
  · have := h.box.lt
    omega
end Go.Proofs.YtlalkfebedjlgaaDoor
