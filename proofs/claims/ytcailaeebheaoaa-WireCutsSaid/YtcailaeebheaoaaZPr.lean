/- The document's disk in memory: its cells, and its rows. No condition. -/
import Derived.Test.YtcailaeebheaoaaRows
import Derived.Test.YtcailaeebheaoaaZQs
import Derived.Test.YtcailaeebheaoaaZRo
import Derived.WalkKit
import Derived.WalkSpells
import Derived.WalkLawsBesides
import Derived.LoopTactic
import Derived.Lib.Hide
import Derived.OneCell
import Derived.OwnWalk
import Derived.Maps.AppendAt
import Derived.Lib.AppendZeros
import Derived.Lib.MinMax
namespace Go.Proofs.Ytcailaeebheaoaa
open Go.RowKit

theorem int_info : (Try.prog.info? 3).map (fun i => (i.zero, i.size, i.bytes)) = some (some (.int .i64 0), 1, 8) := by kernel_rfl
def rowS (l : List ByteArray) : List Value := l.map Value.string
def rowI (l : List Nat) : List Value := l.map fun i => Value.int .i64 ((i : Nat) : Int)
/-- 'append(v, x)': x laid in a block of its own ahead of it. -/
theorem app_one {t e : TypeId} {z : Value} {bytes : Nat} (ht : Try.prog.underlying t = some (.slice e)) (hinfo : (Try.prog.info? e).map (fun i => (i.zero, i.size, i.bytes)) = some (some z, 1, bytes)) (hz : z.cells.size = 1) (hby : bytes ≤ 64)
    (W : World) (v : Value) (n : Nat) (xs : List Value) (hown : W.ownsRow 0 e 1 v n xs) (x : Value) (hx : x.oneCell' = true) (hn : n ≤ 100000) :
    ∃ g cap w', (Builtin.append_ #[t, t] t #[v, .slice (some ⟨W.heap.size, 0, none⟩) 1 1]).run Try.prog (W.alloc (.cells #[x] e)) = .ok (.slice (some ⟨g, 0, none⟩) (n + 1) cap) w' ∧
      w'.ownsRow 0 e 1 (.slice (some ⟨g, 0, none⟩) (n + 1) cap) (n + 1) (xs ++ [x]) ∧ (W.alloc (.cells #[x] e)).grownBy w' v.ownBlock ∧ (v.ownBlock = some g ∨ g = W.heap.size + 1) := by
  obtain ⟨i0, hi0, hz0, hz1, hz2⟩ := info_parts hinfo
  have hb : (n + 1) * bytes ≤ 140737488355328 := Nat.le_trans (Nat.mul_le_mul_left _ hby) (by omega)
  obtain ⟨v', w', h1, h2, h3, _, h4⟩ := run_append_own_at (P := Try.prog) (W.alloc (.cells #[x] e)) 0 t t e i0 z 1 bytes ht hi0 hz0 hz1 hz2 hz (by omega) v n xs (hown.alloc _) ⟨W.heap.size, 0, none⟩ 1 1 [x] rfl
    (fun j u hj => by
      obtain rfl : j = 0 := by
        have := (List.getElem?_eq_some_iff.1 hj).1
        simpa using this
      simp at hj
      subst hj
      simp [Addr.add, go_sem])
    (fun u hu => by simp at hu; subst hu; exact hx) (by unfold maxLen; omega) hb (Nat.zero_le _)
  rcases h2.2 with ⟨_, h0⟩ | ⟨g, cap, cur, rfl, _⟩
  · omega
  · refine ⟨g, cap, w', h1, h2, h3, ?_⟩
    rcases h4 with h4 | h4
    · exact .inl h4.symm
    · right
      simpa [Value.ownBlock] using h4

/-- The document's disk: five cells, and three rows. -/
structure RefV (W : World) (m : Nat) (safe : List ByteArray) (ats : List Nat) (datas : List ByteArray) (ops arm : Int) (vs va vd : Value) : Prop where
  c0 : W.cell? ⟨m, 0, none⟩ = some vs
  c1 : W.cell? ⟨m, 1, none⟩ = some va
  c2 : W.cell? ⟨m, 2, none⟩ = some vd
  c3 : W.cell? ⟨m, 3, none⟩ = some (.int .i64 ops)
  c4 : W.cell? ⟨m, 4, none⟩ = some (.int .i64 arm)
  fz : ∀ j, W.frozen? ⟨m, j, none⟩ = false
  lt : m < W.heap.size
  o0 : W.ownsRow 0 9 1 vs safe.length (rowS safe)
  o1 : W.ownsRow 0 3 1 va ats.length (rowI ats)
  o2 : W.ownsRow 0 9 1 vd datas.length (rowS datas)
  d0 : vs.ownBlock ≠ some m
  d1 : va.ownBlock ≠ some m
  d2 : vd.ownBlock ≠ some m
  e0 : ∀ k, vs.ownBlock = some k → va.ownBlock ≠ some k
  e1 : ∀ k, vs.ownBlock = some k → vd.ownBlock ≠ some k
  e2 : ∀ k, va.ownBlock = some k → vd.ownBlock ≠ some k
def foot (m : Nat) (vs va vd : Value) : Nat → Prop := fun k => k = m ∨ vs.ownBlock = some k ∨ va.ownBlock = some k ∨ vd.ownBlock = some k
def RefIs (F : Nat → Prop) (W : World) (m : Nat) (st : St) : Prop := ∃ vs va vd, RefV W m st.safe (st.later.map (·.1)) (st.later.map (·.2)) st.ops st.arm vs va vd ∧ ∀ k, F k ↔ foot m vs va vd k
section
variable {W W' : World} {m : Nat} {safe : List ByteArray} {ats : List Nat} {datas : List ByteArray} {ops arm : Int} {vs va vd : Value}
theorem RefV.near (h : RefV W m safe ats datas ops arm vs va vd) : ∀ k, foot m vs va vd k → k < W.heap.size := by
  intro k hk
  rcases hk with rfl | hk | hk | hk
  · exact h.lt
  · exact (h.o0.lt k hk).2
  · exact (h.o1.lt k hk).2
  · exact (h.o2.lt k hk).2
theorem RefV.keep (h : RefV W m safe ats datas ops arm vs va vd) {G : Nat → Prop} (hO : Only G W W') (hG : ∀ k, foot m vs va vd k → ¬ G k) : RefV W' m safe ats datas ops arm vs va vd := by
  have hm : ¬ G m := hG m (.inl rfl)
  have hc : ∀ j, W'.cell? ⟨m, j, none⟩ = W.cell? ⟨m, j, none⟩ := fun j => hO.cell (p := ⟨m, j, none⟩) h.lt hm
  exact ⟨by rw [hc]; exact h.c0, by rw [hc]; exact h.c1, by rw [hc]; exact h.c2, by rw [hc]; exact h.c3, by rw [hc]; exact h.c4,
    fun j => by rw [hO.frozen (p := ⟨m, j, none⟩) h.lt hm]; exact h.fz j, Nat.lt_of_lt_of_le h.lt hO.size,
    hO.row h.o0 (fun g hg => hG g (.inr (.inl hg))), hO.row h.o1 (fun g hg => hG g (.inr (.inr (.inl hg)))), hO.row h.o2 (fun g hg => hG g (.inr (.inr (.inr hg)))),
    h.d0, h.d1, h.d2, h.e0, h.e1, h.e2⟩
theorem RefV.later (h : RefV W m safe ats datas ops arm vs va vd) (hb : Below W.heap.size W W') : RefV W' m safe ats datas ops arm vs va vd :=
  h.keep (G := fun _ => False) (Only.of_below hb) (fun _ _ e => e)
/-- A store into one of its own cells. -/
theorem cell_put {W : World} {m j i : Nat} {x u : Value} (h : W.cell? ⟨m, j, none⟩ = some u) : (W.setCell ⟨m, j, none⟩ x).cell? ⟨m, i, none⟩ = if i = j then some x else W.cell? ⟨m, i, none⟩ := by
  by_cases e : i = j
  · subst e; rw [if_pos rfl]; exact World.cell?_setCell_same _ _ _ h
  · rw [if_neg e, World.cell?_setCell_other]
    intro e2; injection e2 with _ e3 _; omega
theorem RefV.row1 (h : RefV W m safe ats datas ops arm vs va vd) {v' : Value} {l : List Nat} (hO : Only (fun k => va.ownBlock = some k) W W')
    (ho : W'.ownsRow 0 3 1 v' l.length (rowI l)) (hd : ∀ k, v'.ownBlock = some k → va.ownBlock = some k ∨ W.heap.size ≤ k) : RefV (W'.setCell ⟨m, 1, none⟩ v') m safe l datas ops arm vs v' vd := by
  have hc : ∀ j, W'.cell? ⟨m, j, none⟩ = W.cell? ⟨m, j, none⟩ := fun j => hO.cell (p := ⟨m, j, none⟩) h.lt h.d1
  have h1 : W'.cell? ⟨m, 1, none⟩ = some va := by rw [hc]; exact h.c1
  have hne : ∀ k, k < W.heap.size → va.ownBlock ≠ some k → v'.ownBlock ≠ some k := fun k hk hv e => by
    rcases hd k e with e2 | e2
    · exact hv e2
    · omega
  have dm := hne m h.lt h.d1
  exact ⟨by rw [cell_put h1, hc]; exact h.c0, by rw [cell_put h1]; rfl, by rw [cell_put h1, hc]; exact h.c2, by rw [cell_put h1, hc]; exact h.c3, by rw [cell_put h1, hc]; exact h.c4,
    fun j => by have := hO.frozen (p := ⟨m, j, none⟩) h.lt h.d1; simpa [this] using h.fz j, by have := hO.size; have := h.lt; simp; omega,
    ownsRow_setCell_other (hO.row h.o0 (fun g hg e => h.e0 g hg e)) h.d0 _, ownsRow_setCell_other ho dm _, ownsRow_setCell_other (hO.row h.o2 (fun g hg e => h.e2 g e hg)) h.d2 _,
    h.d0, dm, h.d2, fun k hk e => hne k (h.o0.lt k hk).2 (fun e2 => h.e0 k hk e2) e, h.e1, fun k hk e => hne k (h.o2.lt k e).2 (fun e2 => h.e2 k e2 e) hk⟩
end
theorem RefIs.near {F : Nat → Prop} {W : World} {m : Nat} {st : St} (h : RefIs F W m st) : ∀ k, F k → k < W.heap.size := by
  obtain ⟨vs, va, vd, hV, hF⟩ := h
  exact fun k hk => hV.near k ((hF k).1 hk)
theorem RefIs.keep {F G : Nat → Prop} {W W' : World} {m : Nat} {st : St} (h : RefIs F W m st) (hO : Only G W W') (hG : ∀ k, F k → ¬ G k) : RefIs F W' m st := by
  obtain ⟨vs, va, vd, hV, hF⟩ := h
  exact ⟨vs, va, vd, hV.keep hO (fun k hk => hG k ((hF k).2 hk)), hF⟩
theorem RefIs.later {F : Nat → Prop} {W W' : World} {m : Nat} {st : St} (h : RefIs F W m st) (hb : Below W.heap.size W W') : RefIs F W' m st :=
  h.keep (G := fun _ => False) (Only.of_below hb) (fun _ _ e => e)
/-- What a call of it leaves. -/
def RefPost (F : Nat → Prop) (m : Nat) (st : St) (W W' : World) : Prop := ∃ F', RefIs F' W' m st ∧ Only F W W' ∧ ∀ k, k < W.heap.size → F' k → F k

end Go.Proofs.Ytcailaeebheaoaa
