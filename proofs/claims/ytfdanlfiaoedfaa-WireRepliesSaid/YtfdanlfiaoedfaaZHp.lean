/- A slice of strings that came in as an argument. No condition. -/
/- Stage 5: the document's Count, Part and Number walked; the disk on which a law writes first. -/
/- Stage 6: a journal's state, and what adding makes of it and of the disk. Plain: no program, no condition. -/
/- The landed Read of a sector. No condition but a text's size. -/
/- Stage 6: a record read: what its first sector tells, and what is taken. Plain: no program, no condition. -/
import Derived.Test.YtfdanlfiaoedfaaRows
import Derived.Test.YtfdanlfiaoedfaaZTp
import Derived.Test.YtfdanlfiaoedfaaZJa
import Derived.Test.YtfdanlfiaoedfaaZPl
import Derived.Test.YtfdanlfiaoedfaaZTv
import Derived.Deep.Slices
import Derived.ChangeArms
import Derived.ChangeSame
import Derived.OpenShut
import Derived.SizedLaws
import Derived.Below
import Derived.WalkKit
import Derived.KernelRfl
import Derived.Laws.StructEq
namespace Go.Proofs.Ytfdanlfiaoedfaa
open Go.RowKit Go.ChangeShapes Go.WideShapes Go.Deep

structure StrsAt (w : World) (ao : Option Addr) (l : List ByteArray) : Prop where
  spot : ∀ k (h : k < l.length), ∃ b off, ao = some ⟨b, off, none⟩ ∧ b < w.heap.size ∧ w.cell? ⟨b, off + k, none⟩ = some (.string l[k])
theorem StrsAt.later {w w2 : World} {ao : Option Addr} {l : List ByteArray} (h : StrsAt w ao l) (hb : Below w.heap.size w w2) : StrsAt w2 ao l :=
  ⟨fun k hk => by
    obtain ⟨b, off, e, hlt, hc⟩ := h.spot k hk
    exact ⟨b, off, e, Nat.lt_of_lt_of_le hlt hb.size, by rw [hb.cell (p := ⟨b, off + k, none⟩) hlt]; exact hc⟩⟩
theorem StrsAt.below {B : Nat} {w w2 : World} {ao : Option Addr} {l : List ByteArray} (h : StrsAt w ao l) (hb : Below B w w2) (hB : w.heap.size ≤ B) : StrsAt w2 ao l := h.later (hb.mono hB)
section
variable {H : Type} {enc : TypeId × Value → H} {w : World} {base : Nat} {spare : Nat → Bool} {held : Bool}
end
end Go.Proofs.Ytfdanlfiaoedfaa
namespace Go.Proofs.Ytfdanlfiaoedfaa
open Go.RowKit Go.Sort Cr

/-- A disk behind so many of a law's writes. -/
structure St.Wet (st : St) (k : Nat) : Prop where
  len : st.safe.length = 12
  safe : ∀ s ∈ st.safe, s.size = 128
  data : ∀ w ∈ st.later, w.2.size = 128 ∧ w.1 < st.safe.length
  few : st.later.length ≤ k
  ops : 0 ≤ st.ops ∧ st.ops ≤ k
  arm : -(k : Int) ≤ st.arm ∧ st.arm ≤ 0
theorem St.Wet.mono {st : St} {j k : Nat} (h : st.Wet j) (hk : j ≤ k) : st.Wet k :=
  ⟨h.len, h.safe, h.data, by have := h.few; omega, by have := h.ops; omega, by have := h.arm; omega⟩
theorem St.Wet.room {st : St} {k n : Nat} (h : st.Wet k) (hn : k + n ≤ 1000) : st.Room n where
  safe := h.safe
  data := h.data
  many := by rw [h.len]; omega
  few := by have := h.few; omega
  ops := by have := h.ops; omega
  arm := by have := h.arm; omega
theorem St.Wet.ok {st : St} {k : Nat} (h : st.Wet k) (hk : k ≤ 1000) : st.Ok := (h.room (n := 0) (by omega)).ok
theorem St.Wet.new : (St.new 12).Wet 0 where
  len := rfl
  safe := (St.Ok.new 12).safe
  data := (St.Ok.new 12).data
  few := by simp [St.new]
  ops := by simp [St.new]
  arm := by simp [St.new]
/-- What is known while it is written. -/
structure Wetting (Dk : (Nat → Prop) → World → Nat → St → Prop) (w wr : World) (p k : Nat) : Prop where
  ex : ∃ F st, Dk F wr p st ∧ st.Wet (min k 12) ∧ ∀ j, F j → w.heap.size ≤ j
  below : Below w.heap.size w wr
theorem Wetting.next {Dk : (Nat → Prop) → World → Nat → St → Prop} {w wr w2 : World} {p k : Nat} {F : Nat → Prop} {st2 : St} (hF : ∀ j, F j → w.heap.size ≤ j) (hb : Below w.heap.size w wr) (hw : st2.Wet (min (k + 1) 12)) (h : DkPost Dk F p st2 wr w2) : Wetting Dk w w2 p (k + 1) := by
  obtain ⟨F', h1, h2, h3⟩ := h
  refine ⟨⟨F', st2, h1, hw, fun j hj => ?_⟩, hb.trans (h2.to_below hb.size hF)⟩
  by_cases e : j < wr.heap.size
  · exact hF j (h3 j e hj)
  · have := hb.size; omega
end Go.Proofs.Ytfdanlfiaoedfaa
namespace Go.Proofs.Ytfdanlfiaoedfaa
open Go Go.RowKit Cr

/-- From where, to where, the next place, the last record's number, sick? -/
structure JSt where
  fr : Nat
  upto : Nat
  spot : Nat
  seq : Int
  sick : Bool
def JSt.room (js : JSt) (n : Int) : Bool := decide (0 ≤ n) && decide (n ≤ 32768) && decide (((js.spot + cntR n.toNat : Nat) : Int) ≤ (js.upto : Int))
/-- What can be. -/
structure JSt.Ok (js : JSt) (st : St) : Prop where
  fr : js.fr ≤ js.spot
  spot : js.spot ≤ js.upto
  upto : js.upto ≤ st.safe.length
  seq : 0 ≤ js.seq ∧ js.seq < 1152921504606846976
/-- A disk without unsynced writes, on which nothing is armed, behind so many operations. -/
structure St.Dry (st : St) (n k : Nat) : Prop where
  len : st.safe.length = n
  safe : ∀ s ∈ st.safe, s.size = 128
  later : st.later = []
  ops : 0 ≤ st.ops ∧ st.ops ≤ k
  arm : -(k : Int) ≤ st.arm ∧ st.arm ≤ 0
theorem St.Dry.mono {st : St} {n j k : Nat} (h : st.Dry n j) (hk : j ≤ k) : st.Dry n k := ⟨h.len, h.safe, h.later, by have := h.ops; omega, by have := h.arm; omega⟩
theorem St.Dry.room {st : St} {n k m : Nat} (h : st.Dry n k) (hn : n ≤ 4096) (hm : m ≤ 1000) (hk : k + m ≤ 1000000) : st.Room m where
  safe := h.safe
  data := fun w hw => by rw [h.later] at hw; simp at hw
  many := by rw [h.len]; omega
  few := by rw [h.later]; simp; omega
  ops := by have := h.ops; omega
  arm := by have := h.arm; omega
theorem St.Dry.ok {st : St} {n k : Nat} (h : st.Dry n k) (hn : n ≤ 4096) (hk : k ≤ 1000000) : st.Ok := (h.room (m := 0) hn (by omega) (by omega)).ok
theorem St.Dry.new (n : Nat) (hn : n ≤ 4096) : (St.new (n : Int)).Dry n 0 where
  len := by
    have : (min (max (n : Int) 0) 4096).toNat = n := by omega
    show (List.replicate (min (max (n : Int) 0) 4096).toNat (zerosB 128)).length = n
    rw [List.length_replicate, this]
  safe := (St.Ok.new n).safe
  later := rfl
  ops := by simp [St.new]
  arm := by simp [St.new]
end Go.Proofs.Ytfdanlfiaoedfaa
namespace Go.Proofs.Ytfdanlfiaoedfaa
open Go.RowKit Go.Sort Cr Wm Go.Lib

/-- A reader in use, of one's own making. -/
structure Rs (W0 w : World) (p : Nat) (st : Option ByteArray) : Prop where
  v : RdV w p st
  bel : Below W0.heap.size W0 w
  new : W0.heap.size ≤ p
theorem Rs.next {W0 w w' : World} {p : Nat} {st st' : Option ByteArray} (h : Rs W0 w p st) (k : RdQ p st' w w') : Rs W0 w' p st' :=
  ⟨k.v, h.bel.trans (k.o.to_below h.bel.size (fun j e => by have := h.new; omega)), h.new⟩
theorem Rs.later {W0 w w' : World} {p : Nat} {st : Option ByteArray} (h : Rs W0 w p st) (hb : Below w.heap.size w w') : Rs W0 w' p st :=
  ⟨h.v.only (Only.of_below (F := fun _ => False) hb) (fun e => e), h.bel.trans (hb.mono h.bel.size), h.new⟩
theorem backZ_range (s : ByteArray) : -9223372036854775808 ≤ backZ s ∧ backZ s ≤ 9223372036854775807 := by
  unfold backZ wrap64
  omega
end Go.Proofs.Ytfdanlfiaoedfaa
namespace Go.Proofs.Ytfdanlfiaoedfaa
open Go Go.RowKit Cr Wm

theorem valL_inj : ∀ (l l' : List Nat), l.length = l'.length → (∀ b ∈ l, b < 256) → (∀ b ∈ l', b < 256) → valL l = valL l' → l = l'
  | [], [], _, _, _, _ => rfl
  | [], b :: r, h, _, _, _ => by simp at h
  | b :: r, [], h, _, _, _ => by simp at h
  | a :: r, b :: r', h, h1, h2, e => by
    have a1 := h1 a (List.mem_cons_self ..)
    have b1 := h2 b (List.mem_cons_self ..)
    have e' : a + 256 * valL r = b + 256 * valL r' := e
    rw [List.length_cons, List.length_cons] at h
    have := valL_inj r r' (by omega) (fun x hx => h1 x (List.mem_cons_of_mem _ hx)) (fun x hx => h2 x (List.mem_cons_of_mem _ hx)) (by omega)
    rw [this, show a = b by omega]
theorem bytesN_same {s t : ByteArray} (h : bytesN s = bytesN t) : s = t := by
  unfold bytesN at h
  apply ByteArray.ext
  apply Array.toList_inj.mp
  exact (List.map_inj_right (fun a b e => UInt8.toNat_inj.mp e)).mp h
theorem intB_back (size : Int) (k : Nat) (hk : sizeK size = k) (h8 : k ≤ 8) {b : ByteArray} (h : b.size = k) : intB size (backZ b) = b := by
  apply bytesN_same
  refine valL_inj _ _ (by rw [bytesN_length, bytesN_length, intB_size, hk, h]) (bytesN_lt _) (bytesN_lt _) ?_
  unfold intB
  rw [valL_textP, hk]
  have hl := valL_lt (bytesN b) (bytesN_lt b)
  rw [bytesN_length, h] at hl
  have hp : (256 : Nat) ^ k ≤ 256 ^ 8 := Nat.pow_le_pow_right (by decide) h8
  have e : u64N (backZ b) = valL (bytesN b) := by
    unfold u64N backZ wrap64
    generalize valL (bytesN b) = v at *
    generalize (256 : Nat) ^ k = q at *
    rw [show (256 : Nat) ^ 8 = 18446744073709551616 from rfl] at hp
    omega
  rw [e]
  exact Nat.mod_eq_of_lt hl
end Go.Proofs.Ytfdanlfiaoedfaa
