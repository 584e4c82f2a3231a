/- Rows of numbers of the call's own: appended to, cut apart, laid anew. No condition. -/
import Derived.Test.YtgpjbacggcfcmaaRows
import Derived.Test.YtgpjbacggcfcmaaOnly
import Derived.WalkKit
import Derived.Deep.MidRow
import Derived.KernelRfl
import Derived.Laws.AppendOwn
import Derived.OwnWalk
import Derived.OneCell
import Derived.Maps.AppendAt
import Derived.BigRegion
import Derived.Lib.AppendZeros
namespace Go.Proofs.Ytgpjbacggcfcmaa
open Go.RowKit

def rowZ (l : List Int) : List Value := l.map (.int .i64 ·)
/-- A row of one's own as a slice, of elements of any size. -/
theorem own_slice {W : World} {base : Nat} {e : TypeId} {z : Nat} {v : Value} {n : Nat} {xs : List Value} (h : W.ownsRow base e z v n xs) :
    (v = .slice none 0 0 ∧ n = 0) ∨ ∃ g cap, v = .slice (some ⟨g, 0, none⟩) n cap ∧ g < W.heap.size ∧ n ≤ cap ∧ (∀ j u, xs[j]? = some u → W.cell? ⟨g, j, none⟩ = some u) ∧ ∀ j, W.frozen? ⟨g, j, none⟩ = false := by
  rcases h.2 with h2 | ⟨g, cap, cur, rfl, hb, hh, hnc, _⟩
  · exact .inl h2
  · refine .inr ⟨g, cap, rfl, (h.lt g rfl).2, hnc, fun j u hj => ?_, fun j => h.frozenAt j⟩
    have := h.cells (g := g) rfl j u hj
    unfold Addr.add at this
    split at this
    · rename_i h0; subst h0; exact this
    · rw [Nat.zero_add] at this; exact this
/-- A store into one of a block's own cells. -/
theorem cell_putR {W : World} {m j i : Nat} {x u : Value} (h : W.cell? ⟨m, j, none⟩ = some u) : (W.setCell ⟨m, j, none⟩ x).cell? ⟨m, i, none⟩ = if i = j then some x else W.cell? ⟨m, i, none⟩ := by
  by_cases e : i = j
  · subst e; rw [if_pos rfl]; exact World.cell?_setCell_same _ _ _ h
  · rw [if_neg e, World.cell?_setCell_other]
    intro e2; injection e2 with _ e3 _; omega
theorem info_int : ∃ ie, Try.prog.info? 3 = some ie ∧ ie.zero = some (.int .i64 0) ∧ ie.size = 1 ∧ ie.bytes = 8 := by
  have h : (Try.prog.info? 3).map (fun i => (i.zero, i.size, i.bytes)) = some (some (.int .i64 0), 1, 8) := by kernel_rfl
  cases hq : Try.prog.info? 3 with
  | none => simp [hq] at h
  | some ie =>
    rw [hq] at h
    simp only [Option.map_some, Option.some.injEq, Prod.mk.injEq] at h
    exact ⟨ie, rfl, h.1, h.2.1, h.2.2⟩
theorem app_ints (W : World) (v : Value) (l m : List Int) (hown : W.ownsRow 0 3 1 v l.length (rowZ l)) (a : Addr) (c : Nat) (hsrc : ∀ j u, (rowZ m)[j]? = some u → W.cell? (a.add j) = some u) (hn : l.length + m.length ≤ 10000) :
    ∃ v' w', (Builtin.append_ #[29, 29] 29 #[v, .slice (some a) m.length c]).run Try.prog W = .ok v' w' ∧ w'.ownsRow 0 3 1 v' (l ++ m).length (rowZ (l ++ m)) ∧ W.grownBy w' v.ownBlock ∧ (v'.ownBlock = v.ownBlock ∨ v'.ownBlock = some W.heap.size) := by
  obtain ⟨ie, h1, h2, h3, h4⟩ := info_int
  obtain ⟨v', w', e1, e2, e3, _, e4⟩ := run_append_own_at (P := Try.prog) W 0 29 29 3 ie _ 1 8 Try.underlying29 h1 h2 h3 h4 (by simp [Value.cells]) (by omega) v l.length (rowZ l) hown
    a m.length c (rowZ m) (by unfold rowZ; rw [List.length_map, Nat.mul_one]) hsrc
    (fun u hu => by
      unfold rowZ at hu
      obtain ⟨x, _, rfl⟩ := List.mem_map.1 hu
      rfl) (by unfold maxLen; omega) (by omega) (Nat.zero_le _)
  refine ⟨v', w', e1, ?_, e3, e4⟩
  rw [List.length_append]
  unfold rowZ at *
  rw [List.map_append]
  exact e2
theorem sl_to_int {g n cap i : Nat} (h1 : i ≤ cap) (W : World) : (Instr.sliceAt 29 (.slice (some ⟨g, 0, none⟩) n cap) none (some (.int .i64 ((i : Nat) : Int))) none).run Try.prog W = .ok (.slice (some ⟨g, 0, none⟩) i cap) W := by
  have y0 : (0 : Int) ≤ ((i : Nat) : Int) := by omega
  have y1 : ((i : Nat) : Int) ≤ ((cap : Nat) : Int) := by omega
  go_simp
theorem sl_from_int {g n cap i : Nat} (h1 : i + 1 ≤ n) (h2 : n ≤ cap) : ∃ a2 : Addr, (i + 1 < n → a2 = ⟨g, i + 1, none⟩) ∧ ∀ W, (Instr.sliceAt 29 (.slice (some ⟨g, 0, none⟩) n cap) (some (.int .i64 (((i : Nat) : Int) + 1))) none none).run Try.prog W = .ok (.slice (some a2) (n - (i + 1)) (cap - (i + 1))) W := by
  have y0 : (0 : Int) ≤ ((i : Nat) : Int) + 1 := by omega
  have y1 : ((i : Nat) : Int) + 1 ≤ ((n : Nat) : Int) := by omega
  have y2 : ((n : Nat) : Int) ≤ ((cap : Nat) : Int) := by omega
  have y3 : (((i : Nat) : Int) + 1).toNat = i + 1 := by omega
  by_cases hc : cap = i + 1
  · refine ⟨⟨g, 0, none⟩, fun h => by omega, fun W => ?_⟩
    subst hc
    go_simp
  · refine ⟨⟨g, i + 1, none⟩, fun _ => rfl, fun W => ?_⟩
    go_simp
theorem rowZ_take {ks : List Int} {i j : Nat} {u : Value} (h : (rowZ (ks.take i))[j]? = some u) : (rowZ ks)[j]? = some u := by
  unfold rowZ at *
  rw [List.map_take] at h
  have h2 := (List.getElem?_eq_some_iff.1 h).1
  rw [List.length_take] at h2
  rw [List.getElem?_take_of_lt (by omega)] at h
  exact h
theorem rowZ_drop {ks : List Int} {k j : Nat} {u : Value} (_hk : k ≤ ks.length) (h : (rowZ (ks.drop k))[j]? = some u) : (rowZ ks)[k + j]? = some u := by
  unfold rowZ at *
  rw [List.map_drop, List.getElem?_drop] at h
  exact h
/-- A new row of what stands ahead of and behind place i. -/
theorem twice_ints (W : World) (ks : List Int) (i g cap c2 : Nat) (a2 : Addr) (hi : i < ks.length) (hn : ks.length ≤ 1000) (hcl : ∀ j u, (rowZ ks)[j]? = some u → W.cell? ⟨g, j, none⟩ = some u) (hg : g < W.heap.size) (ha2 : i + 1 < ks.length → a2 = ⟨g, i + 1, none⟩) :
    ∃ v1 w2 g3 c3 w3, (Builtin.append_ #[29, 29] 29 #[.slice (some ⟨W.heap.size, 0, none⟩) 0 0, .slice (some ⟨g, 0, none⟩) i cap]).run Try.prog ((W.alloc (.cells #[] 3)).drew) = .ok v1 w2 ∧
      (Builtin.append_ #[29, 29] 29 #[v1, .slice (some a2) (ks.length - (i + 1)) c2]).run Try.prog w2 = .ok (.slice (some ⟨g3, 0, none⟩) (ks.length - 1) c3) w3 ∧ Only (fun _ => False) W w2 ∧ Only (fun _ => False) W w3 ∧
      w3.ownsRow 0 3 1 (.slice (some ⟨g3, 0, none⟩) (ks.length - 1) c3) (ks.take i ++ ks.drop (i + 1)).length (rowZ (ks.take i ++ ks.drop (i + 1))) ∧ W.heap.size ≤ g3 := by
  have hbl : Below W.heap.size W ((W.alloc (.cells #[] 3)).drew) := ((Below.refl _ _).alloc (Nat.le_refl _) _).drew
  have hown : ((W.alloc (.cells #[] 3)).drew).ownsRow 0 3 1 (.slice (some ⟨W.heap.size, 0, none⟩) 0 0) ([] : List Int).length (rowZ []) :=
    ⟨rfl, .inr ⟨W.heap.size, 0, #[], rfl, Nat.zero_le _, by show (W.heap.push _)[W.heap.size]? = _; rw [Array.getElem?_push_size], Nat.le_refl _, Nat.zero_le _, rfl, rfl⟩⟩
  have hlt : (ks.take i).length = i := by rw [List.length_take]; omega
  have hld : (ks.drop (i + 1)).length = ks.length - (i + 1) := List.length_drop
  have hsz : ((W.alloc (.cells #[] 3)).drew).heap.size = W.heap.size + 1 := by simp
  obtain ⟨v1, w2, r1, o1, g1, d1⟩ := app_ints _ (.slice (some ⟨W.heap.size, 0, none⟩) 0 0) [] (ks.take i) hown ⟨g, 0, none⟩ cap (fun j u hj => by
    rw [Addr.add_mid, Nat.zero_add, hbl.cell (p := ⟨g, j, none⟩) hg]
    exact hcl j u (rowZ_take hj)) (by rw [hlt]; simp only [List.length_nil]; omega)
  rw [List.nil_append] at o1
  rw [hlt] at r1
  have hO2 : Only (fun _ => False) W w2 := (Only.of_below (F := fun _ => False) hbl).trans (Only.of_grown (F := fun k => k = W.heap.size) g1 (fun k _ hk => (Option.some.inj hk).symm)) (fun j hj hf => by omega)
  have hb1 : ∀ k, v1.ownBlock = some k → W.heap.size ≤ k := fun k hk => by
    rcases d1 with e | e
    · have : some W.heap.size = some k := e.symm.trans hk
      injection this with this
      omega
    · have := e.symm.trans hk
      injection this with this
      rw [← this, hsz]
      omega
  obtain ⟨v3, w3, r3, o3, g3, d3⟩ := app_ints w2 v1 (ks.take i) (ks.drop (i + 1)) o1 a2 c2 (fun j u hj => by
    by_cases hlast : i + 1 < ks.length
    · rw [ha2 hlast, Addr.add_mid, hO2.cell (p := ⟨g, i + 1 + j, none⟩) hg (fun e => e)]
      exact hcl _ u (rowZ_drop (by omega) hj)
    · rw [List.drop_eq_nil_of_le (by omega)] at hj
      simp [rowZ] at hj) (by rw [hlt, hld]; omega)
  rw [hld] at r3
  have hO3 : Only (fun _ => False) W w3 := hO2.trans (Only.of_grown (F := fun k => W.heap.size ≤ k) g3 (fun k _ hk => hb1 k hk)) (fun j hj hf => by omega)
  have hb3 : ∀ k, v3.ownBlock = some k → W.heap.size ≤ k := fun k hk => by
    rcases d3 with e | e
    · exact hb1 k (e.symm.trans hk)
    · have := e.symm.trans hk
      injection this with this
      rw [← this]
      exact hO2.size
  have hsome : v3.ownBlock ≠ none := by
    rcases d3 with e | e
    · rw [e]
      rcases d1 with e1 | e1
      · rw [e1]; exact fun h => by cases h
      · rw [e1]; exact fun h => by cases h
    · rw [e]; exact fun h => by cases h
  have hl3 : (ks.take i ++ ks.drop (i + 1)).length = ks.length - 1 := by rw [List.length_append, hlt, hld]; omega
  have o4 := o3
  rw [hl3] at o4
  rcases own_slice o4 with ⟨e, -⟩ | ⟨gg, cc, rfl, -⟩
  · rw [e] at hsome; exact absurd rfl hsome
  · exact ⟨v1, w2, gg, cc, w3, r1, r3, hO2, hO3, o3, hb3 gg rfl⟩
end Go.Proofs.Ytgpjbacggcfcmaa
