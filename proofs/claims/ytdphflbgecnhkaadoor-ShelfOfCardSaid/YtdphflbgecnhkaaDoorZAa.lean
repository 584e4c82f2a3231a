/- What every law of layer 1 asks first: that the document's own answer is given. The greatest number lies in the program's variable. -/
/- Stage 6: a journal's state, and what adding makes of it and of the disk. Plain: no program, no condition. -/
/- The landed Read of a sector. No condition but a text's size. -/
/- Stage 9: what is wrong with an account, its bytes, whether it is there again. Plain: no program, no condition. -/
import Derived.Test.YtdphflbgecnhkaaDoorZAv
import Derived.Test.YtdphflbgecnhkaaDoorZWd
import Derived.Test.YtdphflbgecnhkaaDoorZTq
import Derived.Test.YtdphflbgecnhkaaDoorZTt
import Derived.Test.YtdphflbgecnhkaaDoorZQp
import Derived.Test.YtdphflbgecnhkaaDoorZQf
import Derived.Test.YtdphflbgecnhkaaDoorZJa
import Derived.Test.YtdphflbgecnhkaaDoorZQe
import Derived.Test.YtdphflbgecnhkaaDoorZGb
import Derived.Test.YtdphflbgecnhkaaDoorZTv
import Derived.RegionTactic
import Derived.Deep.RegionWith
import Derived.Deep.RegionHeld3
namespace Go.Proofs.YtdphflbgecnhkaaDoor
open Go.RowKit Go.Sort Wm

def mostN : Nat := 340282366920938463463374607431768211455
/-- The variable Most holds the greatest number. -/
structure Most (w : World) : Prop where
  m0 : w.cell? ⟨0, 0, none⟩ = some (.int .u64 ((hiN mostN : Nat) : Int))
  m1 : w.cell? ⟨0, 1, none⟩ = some (.int .u64 ((loN mostN : Nat) : Int))
  lt : 0 < w.heap.size
theorem Most.later {w w2 : World} (h : Most w) (hb : Below w.heap.size w w2) : Most w2 :=
  ⟨by rw [hb.cell (by exact h.lt)]; exact h.m0, by rw [hb.cell (by exact h.lt)]; exact h.m1, Nat.lt_of_lt_of_le h.lt hb.size⟩
end Go.Proofs.YtdphflbgecnhkaaDoor
namespace Go.Proofs.YtdphflbgecnhkaaDoor
open Go Go.RowKit Cr

/-- From where, to where, the next place, the last record's number, sick? -/
structure JSt where
  fr : Nat
  upto : Nat
  spot : Nat
  seq : Int
  sick : Bool
def JSt.room (js : JSt) (n : Int) : Bool := decide (0 ≤ n) && decide (n ≤ 32768) && decide (((js.spot + cntR n.toNat : Nat) : Int) ≤ (js.upto : Int))
/-- What can be. -/
structure JSt.Ok (js : JSt) (st : St) : Prop where
  fr : js.fr ≤ js.spot
  spot : js.spot ≤ js.upto
  upto : js.upto ≤ st.safe.length
  seq : 0 ≤ js.seq ∧ js.seq < 1152921504606846976
/-- A disk without unsynced writes, on which nothing is armed, behind so many operations. -/
structure St.Dry (st : St) (n k : Nat) : Prop where
  len : st.safe.length = n
  safe : ∀ s ∈ st.safe, s.size = 128
  later : st.later = []
  ops : 0 ≤ st.ops ∧ st.ops ≤ k
  arm : -(k : Int) ≤ st.arm ∧ st.arm ≤ 0
theorem St.Dry.mono {st : St} {n j k : Nat} (h : st.Dry n j) (hk : j ≤ k) : st.Dry n k := ⟨h.len, h.safe, h.later, by have := h.ops; omega, by have := h.arm; omega⟩
theorem St.Dry.room {st : St} {n k m : Nat} (h : st.Dry n k) (hn : n ≤ 4096) (hm : m ≤ 1000) (hk : k + m ≤ 1000000) : st.Room m where
  safe := h.safe
  data := fun w hw => by rw [h.later] at hw; simp at hw
  many := by rw [h.len]; omega
  few := by rw [h.later]; simp; omega
  ops := by have := h.ops; omega
  arm := by have := h.arm; omega
theorem St.Dry.ok {st : St} {n k : Nat} (h : st.Dry n k) (hn : n ≤ 4096) (hk : k ≤ 1000000) : st.Ok := (h.room (m := 0) hn (by omega) (by omega)).ok
theorem St.Dry.new (n : Nat) (hn : n ≤ 4096) : (St.new (n : Int)).Dry n 0 where
  len := by
    have : (min (max (n : Int) 0) 4096).toNat = n := by omega
    show (List.replicate (min (max (n : Int) 0) 4096).toNat (zerosB 128)).length = n
    rw [List.length_replicate, this]
  safe := (St.Ok.new n).safe
  later := rfl
  ops := by simp [St.new]
  arm := by simp [St.new]
end Go.Proofs.YtdphflbgecnhkaaDoor
namespace Go.Proofs.YtdphflbgecnhkaaDoor
open Go.RowKit Go.Sort Cr Wm Go.Lib

/-- A reader in use, of one's own making. -/
structure Rs (W0 w : World) (p : Nat) (st : Option ByteArray) : Prop where
  v : RdV w p st
  bel : Below W0.heap.size W0 w
  new : W0.heap.size ≤ p
theorem Rs.next {W0 w w' : World} {p : Nat} {st st' : Option ByteArray} (h : Rs W0 w p st) (k : RdQ p st' w w') : Rs W0 w' p st' :=
  ⟨k.v, h.bel.trans (k.o.to_below h.bel.size (fun j e => by have := h.new; omega)), h.new⟩
theorem Rs.later {W0 w w' : World} {p : Nat} {st : Option ByteArray} (h : Rs W0 w p st) (hb : Below w.heap.size w w') : Rs W0 w' p st :=
  ⟨h.v.only (Only.of_below (F := fun _ => False) hb) (fun e => e), h.bel.trans (hb.mono h.bel.size), h.new⟩
end Go.Proofs.YtdphflbgecnhkaaDoor
namespace Go.Proofs.YtdphflbgecnhkaaDoor
open Go Go.RowKit Wm Cr

/-- One part of a text put together. -/
theorem part_at (x pre m post : ByteArray) (i j : Nat) (h : x = pre ++ (m ++ post)) (hi : i = pre.size) (hj : j = i + m.size) : x.extract i j = m := by
  subst h
  rw [cut_right _ _ _ _ (by omega), cut_left _ _ _ _ (by omega)]
  rw [show i - pre.size = 0 by omega]
  exact cut_all _ _ (by omega)
end Go.Proofs.YtdphflbgecnhkaaDoor
