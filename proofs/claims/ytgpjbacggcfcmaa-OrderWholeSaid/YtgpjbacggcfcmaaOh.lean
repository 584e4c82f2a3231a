/- Stage 12: rows of pairs of the call's own; scripts played on the landed list. No condition but the landed package's. -/
import Derived.Test.YtgpjbacggcfcmaaOg
namespace Go.Proofs.Ytgpjbacggcfcmaa
open Go.RowKit Wm

def cellsP (p : Int × Int) : List Value := [.int .i64 p.1, .int .i64 p.2]
def rowP (l : Zbl) : List Value := l.flatMap cellsP
theorem rowP_length (l : Zbl) : (rowP l).length = l.length * 2 := by
  unfold rowP
  induction l with
  | nil => rfl
  | cons x r ih => rw [List.flatMap_cons, List.length_append, ih, List.length_cons]; show 2 + _ = _; omega
theorem rowP_app (l m : Zbl) : rowP (l ++ m) = rowP l ++ rowP m := by unfold rowP; rw [List.flatMap_append]
theorem rowP_at : ∀ (l : Zbl) (k j : Nat) (hk : k < l.length), j < 2 → (rowP l)[k * 2 + j]? = (cellsP l[k])[j]?
  | [], k, j, hk, _ => by simp at hk
  | x :: r, 0, j, _, hj => by
    show (cellsP x ++ rowP r)[0 * 2 + j]? = _
    rw [Nat.zero_mul, Nat.zero_add, List.getElem?_append_left (by show j < 2; exact hj)]
    rfl
  | x :: r, k + 1, j, hk, hj => by
    show (cellsP x ++ rowP r)[(k + 1) * 2 + j]? = _
    rw [List.getElem?_append_right (by show 2 ≤ _; omega), show (k + 1) * 2 + j - (cellsP x).length = k * 2 + j by show (k + 1) * 2 + j - 2 = _; omega]
    exact rowP_at r k j (by simpa using hk) hj
theorem info_pair : ∃ ie, Try.prog.info? 44 = some ie ∧ ie.zero = some (.agg #[.int .i64 0, .int .i64 0]) ∧ ie.size = 2 ∧ ie.bytes = 16 := by
  have h : (Try.prog.info? 44).map (fun i => (i.zero, i.size, i.bytes)) = some (some (.agg #[.int .i64 0, .int .i64 0]), 2, 16) := by kernel_rfl
  cases hq : Try.prog.info? 44 with
  | none => simp [hq] at h
  | some ie =>
    rw [hq] at h
    simp only [Option.map_some, Option.some.injEq, Prod.mk.injEq] at h
    exact ⟨ie, rfl, h.1, h.2.1, h.2.2⟩
/-- A row of pairs, and one behind it, wherever that one lies. -/
theorem app_pairs (W : World) (v : Value) (l m : Zbl) (hown : W.ownsRow 0 44 2 v l.length (rowP l)) (a : Addr) (c : Nat) (hsrc : ∀ j u, (rowP m)[j]? = some u → W.cell? (a.add j) = some u) (hn : l.length + m.length ≤ 10000) :
    ∃ v' w', (Builtin.append_ #[25, 25] 25 #[v, .slice (some a) m.length c]).run Try.prog W = .ok v' w' ∧ w'.ownsRow 0 44 2 v' (l ++ m).length (rowP (l ++ m)) ∧ W.grownBy w' v.ownBlock ∧ (v'.ownBlock = v.ownBlock ∨ v'.ownBlock = some W.heap.size) := by
  obtain ⟨ie, h1, h2, h3, h4⟩ := info_pair
  obtain ⟨v', w', e1, e2, e3, _, e4⟩ := run_append_own_at (P := Try.prog) W 0 25 25 44 ie _ 2 16 Try.underlying25 h1 h2 h3 h4 (by simp [Value.cells]) (by omega) v l.length (rowP l) hown
    a m.length c (rowP m) (rowP_length m) hsrc
    (fun u hu => by
      unfold rowP at hu
      obtain ⟨x, _, hx⟩ := List.mem_flatMap.1 hu
      unfold cellsP at hx
      simp at hx
      rcases hx with rfl | rfl <;> rfl) (by unfold maxLen; omega) (by omega) (Nat.zero_le _)
  refine ⟨v', w', e1, ?_, e3, e4⟩
  rw [List.length_append, rowP_app]
  exact e2
/-- One more. -/
theorem app_pair (W : World) (v : Value) (l : Zbl) (x : Int × Int) (hown : W.ownsRow 0 44 2 v l.length (rowP l)) (hn : l.length ≤ 1000) :
    ∃ g c w', (Builtin.append_ #[25, 25] 25 #[v, .slice (some ⟨W.heap.size, 0, none⟩) 1 1]).run Try.prog (W.alloc (.cells #[.int .i64 x.1, .int .i64 x.2] 44)) = .ok (.slice (some ⟨g, 0, none⟩) (l.length + 1) c) w' ∧
      w'.ownsRow 0 44 2 (.slice (some ⟨g, 0, none⟩) (l.length + 1) c) (l ++ [x]).length (rowP (l ++ [x])) ∧ Only (fun k => v.ownBlock = some k) W w' ∧ (v.ownBlock = some g ∨ W.heap.size ≤ g) := by
  have hal : Below W.heap.size W (W.alloc (.cells #[.int .i64 x.1, .int .i64 x.2] 44)) := (Below.refl _ _).alloc (Nat.le_refl _) _
  have hown2 : (W.alloc (.cells #[.int .i64 x.1, .int .i64 x.2] 44)).ownsRow 0 44 2 v l.length (rowP l) := (Only.of_below (F := fun _ => False) hal).row hown (fun _ _ e => e)
  have hsb : BoxAt (W.alloc (.cells #[.int .i64 x.1, .int .i64 x.2] 44)) W.heap.size [.int .i64 x.1, .int .i64 x.2] := BoxAt.new W _ _
  obtain ⟨v3, w4, hr, ho, hg, hd⟩ := app_pairs _ v l [x] hown2 ⟨W.heap.size, 0, none⟩ 1 (fun j u hj => by
    rw [Addr.add_mid, Nat.zero_add]
    exact hsb.spot j u hj) (by simp only [List.length_singleton]; omega)
  have hO : Only (fun k => v.ownBlock = some k) W w4 := (Only.of_below (F := fun k => v.ownBlock = some k) hal).trans (Only.of_grown hg (fun k _ hk => hk)) (fun j hj hf => hf)
  have hl : (l ++ [x]).length = l.length + 1 := by simp
  have ho2 := ho
  rw [hl] at ho2
  rcases own_slice ho2 with ⟨-, hz⟩ | ⟨g, c, rfl, -⟩
  · omega
  · refine ⟨g, c, w4, hr, ho, hO, ?_⟩
    rcases hd with e | e
    · exact .inl e.symm
    · right
      have : some g = some (W.alloc (.cells #[.int .i64 x.1, .int .i64 x.2] 44)).heap.size := e
      injection this with this
      rw [this]
      exact hal.size
theorem lsRef_new (W : World) : ∃ G, LsRef G (W.alloc (.cells #[.slice none 0 0, .slice none 0 0] 31)) W.heap.size [] ∧ ∀ k, G k → k = W.heap.size := by
  refine ⟨footL W.heap.size (.slice none 0 0) (.slice none 0 0), ⟨.slice none 0 0, .slice none 0 0, ?_, fun _ => Iff.rfl⟩, fun k hk => ?_⟩
  · refine ⟨by simp [go_sem], by simp [go_sem], fun j => by simp [go_sem], by simp, ⟨rfl, .inl ⟨rfl, rfl⟩⟩, ⟨rfl, .inl ⟨rfl, rfl⟩⟩, (fun e => by cases e), (fun e => by cases e), (fun k e => by cases e)⟩
  · rcases hk with e | e | e
    · exact e
    · cases e
    · cases e
theorem On2.startL {Od : Kind Zbl} (K : IsKind Od) {w wr : World} {p : Nat} {m : Zbl} (h : On Od w wr p m) : On2 Od LsRef w (wr.alloc (.cells #[.slice none 0 0, .slice none 0 0] 31)) p m wr.heap.size [] := by
  obtain ⟨⟨F, h1, h2⟩, h3⟩ := h
  obtain ⟨G, g1, g2⟩ := lsRef_new wr
  have hb : Below wr.heap.size wr (wr.alloc (.cells #[.slice none 0 0, .slice none 0 0] 31)) := (Below.refl _ _).alloc (Nat.le_refl _) _
  exact ⟨⟨F, G, K.later h1 hb, g1, fun k hf hg => Nat.lt_irrefl _ (by have := K.near _ _ _ _ h1 k hf; rw [g2 k hg] at this; exact this), h2, fun k hg => by rw [g2 k hg]; exact h3.size⟩, h3.trans (hb.mono h3.size)⟩
theorem On2.on1 {α β : Type} {O : Kind α} {R : Kind β} {w wr : World} {p q : Nat} {m : α} {n : β} (h : On2 O R w wr p m q n) : On O w wr p m := by
  obtain ⟨⟨F, G, h1, _, _, h4, _⟩, h6⟩ := h
  exact ⟨⟨F, h1, h4⟩, h6⟩
/-- A call of a script on the landed list and an empty one of the document's. -/
theorem odoes_empty {Od : Kind Zbl} (K : LandedOr Od) {w wr : World} {p : Nat} {m : Zbl} (h : On Od w wr p m) (hlm : m.length ≤ 1000) (c : Ocall) (hc : c.Wf) :
    Calls Try.prog 8 #[.pointer (some ⟨p, 0, none⟩), .pointer (some ⟨wr.heap.size, 0, none⟩), ocallV c] (wr.alloc (.cells #[.slice none 0 0, .slice none 0 0] 31)) fun e w' => e = .returned (.bool (doesB m [] c)) ∧ On Od w w' p (callZ m c) :=
  (odoes_any K (On2.startL K.toIsKind h) hlm (by simp) c hc).mono (fun _ _ e => ⟨e.1, e.2.on1⟩)
end Go.Proofs.Ytgpjbacggcfcmaa
