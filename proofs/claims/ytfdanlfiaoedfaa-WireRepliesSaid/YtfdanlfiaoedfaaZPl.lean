/- The document's disk in memory: its cells, and its rows. No condition. -/
/- A row of one's own as a slice; append whose run is known, and a plain step, in a region that draws. Plain, over whatever program. No condition. -/
/- The document's disk: a write. No condition but sizes. -/
/- The document's disk: a crash, and a sync. No condition but sizes. -/
/- Call: an argument of the type bondstorelaw04.Call, and of slices of it: what its cells hold. No condition. -/
/- What the walks of stage 4's laws ask of the landed disk, over an object that is known by its footprint; a call on both disks. -/
import Derived.Test.YtfdanlfiaoedfaaRows
import Derived.Test.YtfdanlfiaoedfaaZQs
import Derived.Test.YtfdanlfiaoedfaaZCalb
import Derived.WalkKit
import Derived.WalkSpells
import Derived.WalkLawsBesides
import Derived.LoopTactic
import Derived.Lib.Hide
import Derived.OneCell
import Derived.OwnWalk
import Derived.Maps.AppendAt
import Derived.Lib.AppendZeros
import Derived.Lib.MinMax
import Derived.Below
import Derived.Laws.AppendOwn
import Derived.Deep.RegionLaw
import Derived.RegionTactic
import Derived.BigRegion
import Derived.Laws.BitsAllLaws
import Derived.Deep.Slices
import Derived.ChangeArms
import Derived.ChangeSame
import Derived.OpenShut
import Derived.SizedLaws
import Derived.KernelRfl
import Derived.Deep.RegionHeld3
import Derived.Lib.QuietBelow
namespace Go.Proofs.Ytfdanlfiaoedfaa
open Go.RowKit

theorem int_info : (Try.prog.info? 3).map (fun i => (i.zero, i.size, i.bytes)) = some (some (.int .i64 0), 1, 8) := by kernel_rfl
def rowS (l : List ByteArray) : List Value := l.map Value.string
def rowI (l : List Nat) : List Value := l.map fun i => Value.int .i64 ((i : Nat) : Int)
/-- 'append(v, x)': x laid in a block of its own ahead of it. -/
theorem app_one {t e : TypeId} {z : Value} {bytes : Nat} (ht : Try.prog.underlying t = some (.slice e)) (hinfo : (Try.prog.info? e).map (fun i => (i.zero, i.size, i.bytes)) = some (some z, 1, bytes)) (hz : z.cells.size = 1) (hby : bytes ≤ 64)
    (W : World) (v : Value) (n : Nat) (xs : List Value) (hown : W.ownsRow 0 e 1 v n xs) (x : Value) (hx : x.oneCell' = true) (hn : n ≤ 100000) :
    ∃ g cap w', (Builtin.append_ #[t, t] t #[v, .slice (some ⟨W.heap.size, 0, none⟩) 1 1]).run Try.prog (W.alloc (.cells #[x] e)) = .ok (.slice (some ⟨g, 0, none⟩) (n + 1) cap) w' ∧
      w'.ownsRow 0 e 1 (.slice (some ⟨g, 0, none⟩) (n + 1) cap) (n + 1) (xs ++ [x]) ∧ (W.alloc (.cells #[x] e)).grownBy w' v.ownBlock ∧ (v.ownBlock = some g ∨ g = W.heap.size + 1) := by
  obtain ⟨i0, hi0, hz0, hz1, hz2⟩ := info_parts hinfo
  have hb : (n + 1) * bytes ≤ 140737488355328 := Nat.le_trans (Nat.mul_le_mul_left _ hby) (by omega)
  obtain ⟨v', w', h1, h2, h3, _, h4⟩ := run_append_own_at (P := Try.prog) (W.alloc (.cells #[x] e)) 0 t t e i0 z 1 bytes ht hi0 hz0 hz1 hz2 hz (by omega) v n xs (hown.alloc _) ⟨W.heap.size, 0, none⟩ 1 1 [x] rfl
    (fun j u hj => by
      obtain rfl : j = 0 := by
        have := (List.getElem?_eq_some_iff.1 hj).1
        simpa using this
      simp at hj
      subst hj
      simp [Addr.add, go_sem])
    (fun u hu => by simp at hu; subst hu; exact hx) (by unfold maxLen; omega) hb (Nat.zero_le _)
  rcases h2.2 with ⟨_, h0⟩ | ⟨g, cap, cur, rfl, _⟩
  · omega
  · refine ⟨g, cap, w', h1, h2, h3, ?_⟩
    rcases h4 with h4 | h4
    · exact .inl h4.symm
    · right
      simpa [Value.ownBlock] using h4

/-- The document's disk: five cells, and three rows. -/
structure RefV (W : World) (m : Nat) (safe : List ByteArray) (ats : List Nat) (datas : List ByteArray) (ops arm : Int) (vs va vd : Value) : Prop where
  c0 : W.cell? ⟨m, 0, none⟩ = some vs
  c1 : W.cell? ⟨m, 1, none⟩ = some va
  c2 : W.cell? ⟨m, 2, none⟩ = some vd
  c3 : W.cell? ⟨m, 3, none⟩ = some (.int .i64 ops)
  c4 : W.cell? ⟨m, 4, none⟩ = some (.int .i64 arm)
  fz : ∀ j, W.frozen? ⟨m, j, none⟩ = false
  lt : m < W.heap.size
  o0 : W.ownsRow 0 9 1 vs safe.length (rowS safe)
  o1 : W.ownsRow 0 3 1 va ats.length (rowI ats)
  o2 : W.ownsRow 0 9 1 vd datas.length (rowS datas)
  d0 : vs.ownBlock ≠ some m
  d1 : va.ownBlock ≠ some m
  d2 : vd.ownBlock ≠ some m
  e0 : ∀ k, vs.ownBlock = some k → va.ownBlock ≠ some k
  e1 : ∀ k, vs.ownBlock = some k → vd.ownBlock ≠ some k
  e2 : ∀ k, va.ownBlock = some k → vd.ownBlock ≠ some k
def foot (m : Nat) (vs va vd : Value) : Nat → Prop := fun k => k = m ∨ vs.ownBlock = some k ∨ va.ownBlock = some k ∨ vd.ownBlock = some k
def RefIs (F : Nat → Prop) (W : World) (m : Nat) (st : St) : Prop := ∃ vs va vd, RefV W m st.safe (st.later.map (·.1)) (st.later.map (·.2)) st.ops st.arm vs va vd ∧ ∀ k, F k ↔ foot m vs va vd k
section
variable {W W' : World} {m : Nat} {safe : List ByteArray} {ats : List Nat} {datas : List ByteArray} {ops arm : Int} {vs va vd : Value}
theorem RefV.near (h : RefV W m safe ats datas ops arm vs va vd) : ∀ k, foot m vs va vd k → k < W.heap.size := by
  intro k hk
  rcases hk with rfl | hk | hk | hk
  · exact h.lt
  · exact (h.o0.lt k hk).2
  · exact (h.o1.lt k hk).2
  · exact (h.o2.lt k hk).2
theorem RefV.keep (h : RefV W m safe ats datas ops arm vs va vd) {G : Nat → Prop} (hO : Only G W W') (hG : ∀ k, foot m vs va vd k → ¬ G k) : RefV W' m safe ats datas ops arm vs va vd := by
  have hm : ¬ G m := hG m (.inl rfl)
  have hc : ∀ j, W'.cell? ⟨m, j, none⟩ = W.cell? ⟨m, j, none⟩ := fun j => hO.cell (p := ⟨m, j, none⟩) h.lt hm
  exact ⟨by rw [hc]; exact h.c0, by rw [hc]; exact h.c1, by rw [hc]; exact h.c2, by rw [hc]; exact h.c3, by rw [hc]; exact h.c4,
    fun j => by rw [hO.frozen (p := ⟨m, j, none⟩) h.lt hm]; exact h.fz j, Nat.lt_of_lt_of_le h.lt hO.size,
    hO.row h.o0 (fun g hg => hG g (.inr (.inl hg))), hO.row h.o1 (fun g hg => hG g (.inr (.inr (.inl hg)))), hO.row h.o2 (fun g hg => hG g (.inr (.inr (.inr hg)))),
    h.d0, h.d1, h.d2, h.e0, h.e1, h.e2⟩
theorem RefV.later (h : RefV W m safe ats datas ops arm vs va vd) (hb : Below W.heap.size W W') : RefV W' m safe ats datas ops arm vs va vd :=
  h.keep (G := fun _ => False) (Only.of_below hb) (fun _ _ e => e)
/-- A store into one of its own cells. -/
theorem cell_put {W : World} {m j i : Nat} {x u : Value} (h : W.cell? ⟨m, j, none⟩ = some u) : (W.setCell ⟨m, j, none⟩ x).cell? ⟨m, i, none⟩ = if i = j then some x else W.cell? ⟨m, i, none⟩ := by
  by_cases e : i = j
  · subst e; rw [if_pos rfl]; exact World.cell?_setCell_same _ _ _ h
  · rw [if_neg e, World.cell?_setCell_other]
    intro e2; injection e2 with _ e3 _; omega
theorem RefV.row1 (h : RefV W m safe ats datas ops arm vs va vd) {v' : Value} {l : List Nat} (hO : Only (fun k => va.ownBlock = some k) W W')
    (ho : W'.ownsRow 0 3 1 v' l.length (rowI l)) (hd : ∀ k, v'.ownBlock = some k → va.ownBlock = some k ∨ W.heap.size ≤ k) : RefV (W'.setCell ⟨m, 1, none⟩ v') m safe l datas ops arm vs v' vd := by
  have hc : ∀ j, W'.cell? ⟨m, j, none⟩ = W.cell? ⟨m, j, none⟩ := fun j => hO.cell (p := ⟨m, j, none⟩) h.lt h.d1
  have h1 : W'.cell? ⟨m, 1, none⟩ = some va := by rw [hc]; exact h.c1
  have hne : ∀ k, k < W.heap.size → va.ownBlock ≠ some k → v'.ownBlock ≠ some k := fun k hk hv e => by
    rcases hd k e with e2 | e2
    · exact hv e2
    · omega
  have dm := hne m h.lt h.d1
  exact ⟨by rw [cell_put h1, hc]; exact h.c0, by rw [cell_put h1]; rfl, by rw [cell_put h1, hc]; exact h.c2, by rw [cell_put h1, hc]; exact h.c3, by rw [cell_put h1, hc]; exact h.c4,
    fun j => by have := hO.frozen (p := ⟨m, j, none⟩) h.lt h.d1; simpa [this] using h.fz j, by have := hO.size; have := h.lt; simp; omega,
    ownsRow_setCell_other (hO.row h.o0 (fun g hg e => h.e0 g hg e)) h.d0 _, ownsRow_setCell_other ho dm _, ownsRow_setCell_other (hO.row h.o2 (fun g hg e => h.e2 g e hg)) h.d2 _,
    h.d0, dm, h.d2, fun k hk e => hne k (h.o0.lt k hk).2 (fun e2 => h.e0 k hk e2) e, h.e1, fun k hk e => hne k (h.o2.lt k e).2 (fun e2 => h.e2 k e2 e) hk⟩
end
theorem RefIs.near {F : Nat → Prop} {W : World} {m : Nat} {st : St} (h : RefIs F W m st) : ∀ k, F k → k < W.heap.size := by
  obtain ⟨vs, va, vd, hV, hF⟩ := h
  exact fun k hk => hV.near k ((hF k).1 hk)
theorem RefIs.keep {F G : Nat → Prop} {W W' : World} {m : Nat} {st : St} (h : RefIs F W m st) (hO : Only G W W') (hG : ∀ k, F k → ¬ G k) : RefIs F W' m st := by
  obtain ⟨vs, va, vd, hV, hF⟩ := h
  exact ⟨vs, va, vd, hV.keep hO (fun k hk => hG k ((hF k).2 hk)), hF⟩
theorem RefIs.later {F : Nat → Prop} {W W' : World} {m : Nat} {st : St} (h : RefIs F W m st) (hb : Below W.heap.size W W') : RefIs F W' m st :=
  h.keep (G := fun _ => False) (Only.of_below hb) (fun _ _ e => e)
/-- What a call of it leaves. -/
def RefPost (F : Nat → Prop) (m : Nat) (st : St) (W W' : World) : Prop := ∃ F', RefIs F' W' m st ∧ Only F W W' ∧ ∀ k, k < W.heap.size → F' k → F k

end Go.Proofs.Ytfdanlfiaoedfaa
namespace Go.Proofs.Ytfdanlfiaoedfaa
open Go.RowKit

theorem row_slice {W : World} {base : Nat} {e : TypeId} {v : Value} {n : Nat} {xs : List Value} (h : W.ownsRow base e 1 v n xs) :
    ∃ ao cap, v = .slice ao n cap ∧ ∀ j, j < n → ∃ g x, ao = some ⟨g, 0, none⟩ ∧ g < W.heap.size ∧ xs[j]? = some x ∧ W.cell? ⟨g, j, none⟩ = some x ∧ W.frozen? ⟨g, j, none⟩ = false := by
  have hl := h.1
  rw [Nat.mul_one] at hl
  rcases h.2 with ⟨rfl, rfl⟩ | ⟨g, cap, cur, rfl, hb, hh, _⟩
  · exact ⟨none, 0, rfl, fun j hj => by omega⟩
  · refine ⟨_, cap, rfl, fun j hj => ⟨g, xs[j], rfl, (h.lt g rfl).2, List.getElem?_eq_getElem (by omega), ?_, h.frozenAt j⟩⟩
    have := h.cells (g := g) rfl j xs[j] (List.getElem?_eq_getElem (by omega))
    unfold Addr.add at this
    split at this
    · rename_i h0; subst h0; exact this
    · rw [Nat.zero_add] at this; exact this
end Go.Proofs.Ytfdanlfiaoedfaa
namespace Go.Proofs.Ytfdanlfiaoedfaa
open Go.RowKit

/-- What is known once one more has been written. -/
theorem RefV.more {W : World} {m : Nat} {safe : List ByteArray} {ats : List Nat} {datas : List ByteArray} {ops arm : Int} {vs va vd : Value} (h : RefV W m safe ats datas ops arm vs va vd) (i : Nat) (hn : ats.length ≤ 1000) :
    ∃ g cap w', (Builtin.append_ #[46, 46] 46 #[va, .slice (some ⟨W.heap.size, 0, none⟩) 1 1]).run Try.prog (W.alloc (.cells #[.int .i64 ((i : Nat) : Int)] 3)) = .ok (.slice (some ⟨g, 0, none⟩) (ats.length + 1) cap) w' ∧
      w'.cell? ⟨m, 1, none⟩ = some va ∧ w'.frozen? ⟨m, 1, none⟩ = false ∧ m < w'.heap.size ∧
      RefV (w'.setCell ⟨m, 1, none⟩ (.slice (some ⟨g, 0, none⟩) (ats.length + 1) cap)) m safe (ats ++ [i]) datas ops arm vs (.slice (some ⟨g, 0, none⟩) (ats.length + 1) cap) vd ∧
      Only (foot m vs va vd) W (w'.setCell ⟨m, 1, none⟩ (.slice (some ⟨g, 0, none⟩) (ats.length + 1) cap)) ∧
      ∀ k, k < W.heap.size → foot m vs (.slice (some ⟨g, 0, none⟩) (ats.length + 1) cap) vd k → foot m vs va vd k := by
  obtain ⟨g, cap, w', hrun, ho, hgr, hat⟩ := app_one Try.underlying46 int_info rfl (by omega) W va ats.length _ h.o1 (.int .i64 ((i : Nat) : Int)) rfl (by omega)
  have hO : Only (fun j => va.ownBlock = some j) W w' := (Only.of_below ((Below.refl _ _).alloc (Nat.le_refl _) _)).trans (Only.of_grown (F := fun j => va.ownBlock = some j) hgr (fun j _ hj => hj)) (fun _ _ e => e)
  have hat2 : ∀ j, (Value.slice (some ⟨g, 0, none⟩) (ats.length + 1) cap).ownBlock = some j → va.ownBlock = some j ∨ W.heap.size ≤ j := fun j hj => by
    have hj2 : g = j := by simpa [Value.ownBlock] using hj
    subst hj2
    rcases hat with e | e
    · left; exact e
    · right; omega
  refine ⟨g, cap, w', hrun, by rw [hO.cell (p := ⟨m, 1, none⟩) h.lt h.d1]; exact h.c1, by rw [hO.frozen (p := ⟨m, 1, none⟩) h.lt h.d1]; exact h.fz 1, Nat.lt_of_lt_of_le h.lt hO.size,
    ?_, (hO.mono (fun j _ hj => .inr (.inr (.inl hj)))).setCell (fun _ => .inl rfl) _, fun k hk hf => ?_⟩
  · have := h.row1 (l := ats ++ [i]) (v' := .slice (some ⟨g, 0, none⟩) (ats.length + 1) cap) hO (by
      rw [List.length_append]
      have e : rowI (ats ++ [i]) = rowI ats ++ [.int .i64 ((i : Nat) : Int)] := by unfold rowI; rw [List.map_append]; rfl
      rw [e]; exact ho) hat2
    exact this
  · rcases hf with e | e | e | e
    · exact .inl e
    · exact .inr (.inl e)
    · rcases hat2 k e with e2 | e2
      · exact .inr (.inr (.inl e2))
      · omega
    · exact .inr (.inr (.inr e))
end Go.Proofs.Ytfdanlfiaoedfaa
namespace Go.Proofs.Ytfdanlfiaoedfaa
open Go.RowKit

theorem RefV.store {W : World} {m : Nat} {safe : List ByteArray} {ats : List Nat} {datas : List ByteArray} {ops arm : Int} {g n cap : Nat} {va vd : Value} (h : RefV W m safe ats datas ops arm (.slice (some ⟨g, 0, none⟩) n cap) va vd) (hn : n = safe.length) (j : Nat) (x : ByteArray) :
    RefV (W.setCell ⟨g, j, none⟩ (.string x)) m (safe.set j x) ats datas ops arm (.slice (some ⟨g, 0, none⟩) n cap) va vd := by
  subst hn
  have hgm : g ≠ m := fun e => h.d0 (by rw [e]; rfl)
  have hc : ∀ i, (W.setCell ⟨g, j, none⟩ (.string x)).cell? ⟨m, i, none⟩ = W.cell? ⟨m, i, none⟩ := fun i => by
    rw [World.cell?_setCell_other]
    intro e; injection e with e1 _ _; exact hgm e1
  have e : rowS (safe.set j x) = (rowS safe).set j (.string x) := by unfold rowS; rw [List.map_set]
  exact ⟨by rw [hc]; exact h.c0, by rw [hc]; exact h.c1, by rw [hc]; exact h.c2, by rw [hc]; exact h.c3, by rw [hc]; exact h.c4,
    fun i => by simpa using h.fz i, by simpa using h.lt, by rw [List.length_set, e]; exact (h.o0.stored j _).1,
    ownsRow_setCell_other h.o1 (h.e0 g rfl) _, ownsRow_setCell_other h.o2 (h.e1 g rfl) _, h.d0, h.d1, h.d2, h.e0, h.e1, h.e2⟩
theorem RefPost.after {F F1 : Nat → Prop} {m : Nat} {st2 : St} {W W1 W2 : World} (hO : Only F W W1) (hN : ∀ k, k < W.heap.size → F1 k → F k) (h : RefPost F1 m st2 W1 W2) : RefPost F m st2 W W2 := by
  obtain ⟨F2, k1, k2, k3⟩ := h
  exact ⟨F2, k1, hO.trans k2 (fun j hj hf => hN j hj hf), fun j hj hf => hN j hj (k3 j (Nat.lt_of_lt_of_le hj hO.size) hf)⟩
end Go.Proofs.Ytfdanlfiaoedfaa
namespace Go.Proofs.Ytfdanlfiaoedfaa
open Go.RowKit Go.ChangeShapes Go.WideShapes Go.Deep

structure Call where
  kind : Int
  n : Int
  data : ByteArray
  mask : Nat
  cut : Int
  deriving Inhabited
/-- Its cells. -/
def Call.cells (x : Call) : List Value := [.int .i64 x.kind, .int .i64 x.n, .string x.data, .int .u64 ((x.mask : Nat) : Int), .int .i64 x.cut]
theorem Call.cells_length (x : Call) : x.cells.length = 5 := rfl
structure Call.Wf (x : Call) : Prop where
  kind : -9223372036854775808 ≤ x.kind ∧ x.kind ≤ 9223372036854775807
  n : -9223372036854775808 ≤ x.n ∧ x.n ≤ 9223372036854775807
  data : x.data.size ≤ 140737488351232
  mask : x.mask ≤ 18446744073709551615
  cut : -9223372036854775808 ≤ x.cut ∧ x.cut ≤ 9223372036854775807

section
variable {H : Type} {enc : TypeId × Value → H} {w : World} {base : Nat} {spare : Nat → Bool} {held : Bool}
end

/-- A slice of them in memory. -/
structure CallsAt (w : World) (ao : Option Addr) (l : List Call) : Prop where
  spot : ∀ k (h : k < l.length), ∃ b off, ao = some ⟨b, off, none⟩ ∧ b < w.heap.size ∧ ∀ j v, (l[k]).cells[j]? = some v → w.cell? ⟨b, off + k * 5 + j, none⟩ = some v
theorem CallsAt.later {w w2 : World} {ao : Option Addr} {l : List Call} (h : CallsAt w ao l) (hb : Below w.heap.size w w2) : CallsAt w2 ao l :=
  ⟨fun k hk => by
    obtain ⟨b, off, e, hlt, hc⟩ := h.spot k hk
    exact ⟨b, off, e, Nat.lt_of_lt_of_le hlt hb.size, fun j v hj => by rw [hb.cell (p := ⟨b, off + k * 5 + j, none⟩) hlt]; exact hc j v hj⟩⟩
theorem CallsAt.below {B : Nat} {w w2 : World} {ao : Option Addr} {l : List Call} (h : CallsAt w ao l) (hb : Below B w w2) (hB : w.heap.size ≤ B) : CallsAt w2 ao l := h.later (hb.mono hB)
section
variable {H : Type} {enc : TypeId × Value → H} {w : World} {base : Nat} {spare : Nat → Bool} {held : Bool}
end
end Go.Proofs.Ytfdanlfiaoedfaa
namespace Go.Proofs.Ytfdanlfiaoedfaa
open Go.RowKit Go.Sort

def DkPost (Dk : (Nat → Prop) → World → Nat → St → Prop) (F : Nat → Prop) (p : Nat) (st : St) (W W' : World) : Prop :=
  ∃ F', Dk F' W' p st ∧ Only F W W' ∧ ∀ k, k < W.heap.size → F' k → F k
def St.armed (st : St) (n : Int) : St := { st with arm := max n 0 }
/-- The landed disk. -/
structure LandedDk (Dk : (Nat → Prop) → World → Nat → St → Prop) : Prop where
  near : ∀ F W p st, Dk F W p st → ∀ k, F k → k < W.heap.size
  keep : ∀ F G W W' p st, Dk F W p st → Only G W W' → (∀ k, F k → ¬ G k) → Dk F W' p st
section
variable {Dk : (Nat → Prop) → World → Nat → St → Prop}
theorem LandedDk.later (K : LandedDk Dk) {F : Nat → Prop} {W W' : World} {p : Nat} {st : St} (h : Dk F W p st) (hb : Below W.heap.size W W') : Dk F W' p st :=
  K.keep F (fun _ => False) W W' p st h (Only.of_below hb) (fun _ _ e => e)

/-- Both disks, apart. -/
structure Pair (Dk : (Nat → Prop) → World → Nat → St → Prop) (F G : Nat → Prop) (W : World) (p m : Nat) (st : St) : Prop where
  a : Dk F W p st
  b : RefIs G W m st
  apart : ∀ k, F k → ¬ G k
theorem Pair.later (K : LandedDk Dk) {F G : Nat → Prop} {W W1 : World} {p m : Nat} {st : St} (h : Pair Dk F G W p m st) (hb : Below W.heap.size W W1) : Pair Dk F G W1 p m st :=
  ⟨K.later h.a hb, h.b.later hb, h.apart⟩
theorem DkPost.later (K : LandedDk Dk) {F : Nat → Prop} {p : Nat} {st : St} {W W1 W2 : World} (h : DkPost Dk F p st W W1) (hb : Below W1.heap.size W1 W2) : DkPost Dk F p st W W2 := by
  obtain ⟨F', a1, a2, a3⟩ := h
  exact ⟨F', K.later a1 hb, a2.later hb, a3⟩
theorem DkPost.only {F : Nat → Prop} {p : Nat} {st : St} {W W1 : World} (h : DkPost Dk F p st W W1) : Only F W W1 := h.choose_spec.2.1
theorem RefPost.only {F : Nat → Prop} {p : Nat} {st : St} {W W1 : World} (h : RefPost F p st W W1) : Only F W W1 := h.choose_spec.2.1
end

end Go.Proofs.Ytfdanlfiaoedfaa
