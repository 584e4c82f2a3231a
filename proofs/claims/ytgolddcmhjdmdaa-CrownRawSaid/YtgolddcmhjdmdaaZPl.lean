/- Call: an argument of the type bondstorelaw04.Call, and of slices of it: what its cells hold. No condition. -/
/- What the walks of stage 4's laws ask of the landed disk, over an object that is known by its footprint; a call on both disks. -/
import Derived.Test.YtgolddcmhjdmdaaRows
import Derived.Test.YtgolddcmhjdmdaaZPc
import Derived.Test.YtgolddcmhjdmdaaZTp
import Derived.Deep.Slices
import Derived.ChangeArms
import Derived.ChangeSame
import Derived.OpenShut
import Derived.SizedLaws
import Derived.Below
import Derived.WalkKit
import Derived.KernelRfl
import Derived.Deep.RegionHeld3
import Derived.Lib.QuietBelow
import Derived.WalkSpells
import Derived.WalkLawsBesides
import Derived.Lib.Hide
import Derived.LoopTactic
namespace Go.Proofs.Ytgolddcmhjdmdaa
open Go.RowKit Go.ChangeShapes Go.WideShapes Go.Deep

structure Call where
  kind : Int
  n : Int
  data : ByteArray
  mask : Nat
  cut : Int
  deriving Inhabited
/-- Its cells. -/
def Call.cells (x : Call) : List Value := [.int .i64 x.kind, .int .i64 x.n, .string x.data, .int .u64 ((x.mask : Nat) : Int), .int .i64 x.cut]
theorem Call.cells_length (x : Call) : x.cells.length = 5 := rfl
structure Call.Wf (x : Call) : Prop where
  kind : -9223372036854775808 ≤ x.kind ∧ x.kind ≤ 9223372036854775807
  n : -9223372036854775808 ≤ x.n ∧ x.n ≤ 9223372036854775807
  data : x.data.size ≤ 140737488351232
  mask : x.mask ≤ 18446744073709551615
  cut : -9223372036854775808 ≤ x.cut ∧ x.cut ≤ 9223372036854775807

section
variable {H : Type} {enc : TypeId × Value → H} {w : World} {base : Nat} {spare : Nat → Bool} {held : Bool}
end

/-- A slice of them in memory. -/
structure CallsAt (w : World) (ao : Option Addr) (l : List Call) : Prop where
  spot : ∀ k (h : k < l.length), ∃ b off, ao = some ⟨b, off, none⟩ ∧ b < w.heap.size ∧ ∀ j v, (l[k]).cells[j]? = some v → w.cell? ⟨b, off + k * 5 + j, none⟩ = some v
theorem CallsAt.later {w w2 : World} {ao : Option Addr} {l : List Call} (h : CallsAt w ao l) (hb : Below w.heap.size w w2) : CallsAt w2 ao l :=
  ⟨fun k hk => by
    obtain ⟨b, off, e, hlt, hc⟩ := h.spot k hk
    exact ⟨b, off, e, Nat.lt_of_lt_of_le hlt hb.size, fun j v hj => by rw [hb.cell (p := ⟨b, off + k * 5 + j, none⟩) hlt]; exact hc j v hj⟩⟩
theorem CallsAt.below {B : Nat} {w w2 : World} {ao : Option Addr} {l : List Call} (h : CallsAt w ao l) (hb : Below B w w2) (hB : w.heap.size ≤ B) : CallsAt w2 ao l := h.later (hb.mono hB)
section
variable {H : Type} {enc : TypeId × Value → H} {w : World} {base : Nat} {spare : Nat → Bool} {held : Bool}
end
end Go.Proofs.Ytgolddcmhjdmdaa
namespace Go.Proofs.Ytgolddcmhjdmdaa
open Go.RowKit Go.Sort

/-- What a disk answers to a read. -/
def rdE (st : St) (i : Int) : Int := if 0 ≤ i ∧ i < ((st.safe.length : Nat) : Int) then 0 else 1
def rdS (st : St) (i : Int) : ByteArray := if 0 ≤ i ∧ i < ((st.safe.length : Nat) : Int) then st.now i.toNat else ⟨#[]⟩
def DkPost (Dk : (Nat → Prop) → World → Nat → St → Prop) (F : Nat → Prop) (p : Nat) (st : St) (W W' : World) : Prop :=
  ∃ F', Dk F' W' p st ∧ Only F W W' ∧ ∀ k, k < W.heap.size → F' k → F k
def DkMade (Dk : (Nat → Prop) → World → Nat → St → Prop) (st : St) (W : World) (e : Ending) (W' : World) : Prop :=
  ∃ p F, e = .returned (.pointer (some ⟨p, 0, none⟩)) ∧ Dk F W' p st ∧ (∀ k, F k → W.heap.size ≤ k) ∧ Below W.heap.size W W'
/-- Behind a crash nothing is armed. -/
def St.crashed (st : St) (mask : Nat) (torn cut : Int) : St := { st.crash mask torn cut with arm := 0 }
def St.armed (st : St) (n : Int) : St := { st with arm := max n 0 }
/-- The landed disk. -/
structure LandedDk (Dk : (Nat → Prop) → World → Nat → St → Prop) : Prop where
  near : ∀ F W p st, Dk F W p st → ∀ k, F k → k < W.heap.size
  keep : ∀ F G W W' p st, Dk F W p st → Only G W W' → (∀ k, F k → ¬ G k) → Dk F W' p st
  new : ∀ (n : Int) W, -9223372036854775808 ≤ n → n ≤ 9223372036854775807 → Calls Try.prog 14 #[.int .i64 n] W (DkMade Dk (St.new n) W)
  read : ∀ F W p st (i : Int), Dk F W p st → st.Ok →
    Calls Try.prog 20 #[.pointer (some ⟨p, 0, none⟩), .int .i64 i] W fun e W' => e = .returned (.tuple #[.string (rdS st i), .int .i64 (rdE st i)]) ∧ Below W.heap.size W W'
  write : ∀ F W p st (i : Int) (s : ByteArray), Dk F W p st → st.Ok → s.size ≤ 140737488351232 →
    Calls Try.prog 23 #[.pointer (some ⟨p, 0, none⟩), .int .i64 i, .string s] W fun e W' => e = .returned (.int .i64 (st.write i s).1) ∧ DkPost Dk F p (st.write i s).2 W W'
  sync : ∀ F W p st, Dk F W p st → st.Ok →
    Calls Try.prog 36 #[.pointer (some ⟨p, 0, none⟩)] W fun e W' => e = .returned (.int .i64 st.sync.1) ∧ DkPost Dk F p st.sync.2 W W'
  crash : ∀ F W p st (mask : Nat) (torn cut : Int), Dk F W p st → st.Ok → mask < 18446744073709551616 →
    Calls Try.prog 19 #[.pointer (some ⟨p, 0, none⟩), .int .u64 ((mask : Nat) : Int), .int .i64 torn, .int .i64 cut] W fun e W' => e = .returned (.tuple #[]) ∧ DkPost Dk F p (st.crashed mask torn cut) W W'
  arm : ∀ F W p st (n : Int), Dk F W p st → st.Ok →
    Calls Try.prog 18 #[.pointer (some ⟨p, 0, none⟩), .int .i64 n] W fun e W' => e = .returned (.tuple #[]) ∧ DkPost Dk F p (st.armed n) W W'
  sectors : ∀ F W p st, Dk F W p st → st.Ok →
    Calls Try.prog 42 #[.pointer (some ⟨p, 0, none⟩)] W fun e W' => e = .returned (.int .i64 ((st.safe.length : Nat) : Int)) ∧ Below W.heap.size W W'
section
variable {Dk : (Nat → Prop) → World → Nat → St → Prop}
theorem LandedDk.later (K : LandedDk Dk) {F : Nat → Prop} {W W' : World} {p : Nat} {st : St} (h : Dk F W p st) (hb : Below W.heap.size W W') : Dk F W' p st :=
  K.keep F (fun _ => False) W W' p st h (Only.of_below hb) (fun _ _ e => e)

/-- Both disks, apart. -/
structure Pair (Dk : (Nat → Prop) → World → Nat → St → Prop) (F G : Nat → Prop) (W : World) (p m : Nat) (st : St) : Prop where
  a : Dk F W p st
  b : RefIs G W m st
  apart : ∀ k, F k → ¬ G k
def PairPost (Dk : (Nat → Prop) → World → Nat → St → Prop) (F G : Nat → Prop) (p m : Nat) (st : St) (W W' : World) : Prop :=
  ∃ F' G', Pair Dk F' G' W' p m st ∧ Only (fun k => F k ∨ G k) W W' ∧ (∀ k, k < W.heap.size → F' k → F k) ∧ ∀ k, k < W.heap.size → G' k → G k
theorem Pair.later (K : LandedDk Dk) {F G : Nat → Prop} {W W1 : World} {p m : Nat} {st : St} (h : Pair Dk F G W p m st) (hb : Below W.heap.size W W1) : Pair Dk F G W1 p m st :=
  ⟨K.later h.a hb, h.b.later hb, h.apart⟩
theorem DkPost.later (K : LandedDk Dk) {F : Nat → Prop} {p : Nat} {st : St} {W W1 W2 : World} (h : DkPost Dk F p st W W1) (hb : Below W1.heap.size W1 W2) : DkPost Dk F p st W W2 := by
  obtain ⟨F', a1, a2, a3⟩ := h
  exact ⟨F', K.later a1 hb, a2.later hb, a3⟩
theorem DkPost.only {F : Nat → Prop} {p : Nat} {st : St} {W W1 : World} (h : DkPost Dk F p st W W1) : Only F W W1 := h.choose_spec.2.1
theorem RefPost.only {F : Nat → Prop} {p : Nat} {st : St} {W W1 : World} (h : RefPost F p st W W1) : Only F W W1 := h.choose_spec.2.1
end

/-- What a call of a script makes of a disk. -/
def callSt (st : St) (c : Call) : St :=
  if c.kind = 0 then (st.write c.n c.data).2 else if c.kind = 1 then st.sync.2 else if c.kind = 2 then st.crashed c.mask c.n c.cut else if c.kind = 3 then st.armed c.n else st
end Go.Proofs.Ytgolddcmhjdmdaa
