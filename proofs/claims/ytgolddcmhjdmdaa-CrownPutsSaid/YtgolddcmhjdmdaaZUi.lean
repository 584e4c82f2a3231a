/- CrownPuts: heads put one behind the other, and the row of them. No condition but the disk's. -/
import Derived.Test.YtgolddcmhjdmdaaZUh
import Derived.Test.YtgolddcmhjdmdaaZUg
namespace Go.Proofs.Ytgolddcmhjdmdaa
open Go.RowKit Go.Sort Cr

theorem info_head : ∃ ie, Try.prog.info? 23 = some ie ∧ ie.zero = some (.agg #[.int .i64 0, .int .i64 0, .int .i64 0, .int .i64 0]) ∧ ie.size = 4 ∧ ie.bytes = 32 := by
  have h : (Try.prog.info? 23).map (fun i => (i.zero, i.size, i.bytes)) = some (some (.agg #[.int .i64 0, .int .i64 0, .int .i64 0, .int .i64 0]), 4, 32) := by kernel_rfl
  cases hq : Try.prog.info? 23 with
  | none => simp [hq] at h
  | some ie =>
    rw [hq] at h
    simp only [Option.map_some, Option.some.injEq, Prod.mk.injEq] at h
    exact ⟨ie, rfl, h.1, h.2.1, h.2.2⟩
theorem app_head (W : World) (v : Value) (l : List Hd) (hown : W.ownsRow 0 23 4 v l.length (rowH l)) (x : Hd) (hn : l.length ≤ 1000) :
    ∃ g cap w', (Builtin.append_ #[33, 33] 33 #[v, .slice (some ⟨W.heap.size, 0, none⟩) 1 1]).run Try.prog (W.alloc (.cells #[.int .i64 x.t, .int .i64 x.n, .int .i64 x.z, .int .i64 x.q] 23)) = .ok (.slice (some ⟨g, 0, none⟩) (l.length + 1) cap) w' ∧
      w'.ownsRow 0 23 4 (.slice (some ⟨g, 0, none⟩) (l.length + 1) cap) (l ++ [x]).length (rowH (l ++ [x])) ∧ (W.alloc (.cells #[.int .i64 x.t, .int .i64 x.n, .int .i64 x.z, .int .i64 x.q] 23)).grownBy w' v.ownBlock ∧ (v.ownBlock = some g ∨ g = W.heap.size + 1) := by
  obtain ⟨ie, h1, h2, h3, h4⟩ := info_head
  obtain ⟨v', w', e1, e2, e3, _, e4⟩ := run_append_own_at (P := Try.prog) (W.alloc (.cells #[.int .i64 x.t, .int .i64 x.n, .int .i64 x.z, .int .i64 x.q] 23)) 0 33 33 23 ie _ 4 32 Try.underlying33 h1 h2 h3 h4 (by simp [Value.cells]) (by decide) v l.length _ (hown.alloc _)
    ⟨W.heap.size, 0, none⟩ 1 1 (cellsH x) rfl
    (fun j u hj => by
      rw [Addr.add_mid, Nat.zero_add]
      have hb := BoxAt.new W [.int .i64 x.t, .int .i64 x.n, .int .i64 x.z, .int .i64 x.q] 23
      exact hb.spot j u hj)
    (fun u hu => by
      unfold cellsH at hu
      simp at hu
      rcases hu with rfl | rfl | rfl | rfl <;> rfl) (by unfold maxLen; omega) (by omega) (Nat.zero_le _)
  rcases e2.2 with ⟨_, h0⟩ | ⟨g, cap, cur, rfl, _⟩
  · omega
  · refine ⟨g, cap, w', e1, ?_, e3, ?_⟩
    · rw [List.length_append, rowH_app]; exact e2
    · rcases e4 with e4 | e4
      · exact .inl e4.symm
      · right
        simpa [Value.ownBlock] using e4
/-- A disk of the law's own, and a row of heads beside it. -/
structure Pw (Dk : (Nat → Prop) → World → Nat → St → Prop) (w wr : World) (p : Nat) (st : St) (v : Value) (l : List Hd) : Prop where
  ex : ∃ F, Dk F wr p st ∧ (∀ k, F k → w.heap.size ≤ k) ∧ ∀ g, v.ownBlock = some g → ¬ F g
  row : wr.ownsRow 0 23 4 v l.length (rowH l)
  far : ∀ g, v.ownBlock = some g → w.heap.size ≤ g
  bel : Below w.heap.size w wr
section
variable {Dk : (Nat → Prop) → World → Nat → St → Prop} {w wr w2 : World} {p : Nat} {st st2 : St} {v : Value} {l : List Hd}
theorem Pw.later (K : LandedDk Dk) (h : Pw Dk w wr p st v l) (hb : Below wr.heap.size wr w2) : Pw Dk w w2 p st v l := by
  obtain ⟨⟨F, h1, h2, h3⟩, h4, h5, h6⟩ := h
  exact ⟨⟨F, K.later h1 hb, h2, h3⟩, (Only.of_below (F := fun _ => False) hb).row h4 (fun _ _ e => e), h5, h6.trans (hb.mono h6.size)⟩
theorem Pw.start (_K : LandedDk Dk) (h : Have Dk w wr p st) : Pw Dk w wr p st (.slice none 0 0) [] := by
  obtain ⟨⟨F, h1, h2⟩, h3⟩ := h
  exact ⟨⟨F, h1, h2, fun g hg => by simp [Value.ownBlock] at hg⟩, World.ownsRow_nil _ _ _ _, fun g hg => by simp [Value.ownBlock] at hg, h3⟩
theorem Pw.ask (K : LandedDk Dk) (h : Pw Dk w wr p st v l) {f : FuncId} {args : Array Value} {R : Ending → Prop} (hc : ∀ F, Dk F wr p st → Calls Try.prog f args wr fun e W' => R e ∧ Below wr.heap.size wr W') :
    Calls Try.prog f args wr fun e w2 => R e ∧ Below wr.heap.size wr w2 ∧ Pw Dk w w2 p st v l := by
  have h' := h
  obtain ⟨⟨F, h3, _⟩, _⟩ := h'
  refine (hc F h3).mono ?_
  rintro e w2 ⟨hr, hb⟩
  exact ⟨hr, hb, h.later K hb⟩
/-- A call that turns the disk, a head in a new block beside it. -/
theorem Pw.op (K : LandedDk Dk) (h : Pw Dk w wr p st v l) (x0 x1 x2 x3 : Value) {f : FuncId} {args : Array Value} {R : Ending → Prop}
    (hc : ∀ F W, Dk F W p st → Calls Try.prog f args W fun e W' => R e ∧ DkPost Dk F p st2 W W') :
    Calls Try.prog f args (wr.alloc (.cells #[x0, x1, x2, x3] 23)) fun e w2 => R e ∧ Pw Dk w w2 p st2 v l ∧ Bx w w2 wr.heap.size x0 x1 x2 x3 := by
  obtain ⟨⟨F, h1, h2, h3⟩, h4, h5, h6⟩ := h
  have ha : Below wr.heap.size wr (wr.alloc (.cells #[x0, x1, x2, x3] 23)) := (Below.refl _ _).alloc (Nat.le_refl _) _
  have hnF : ¬ F wr.heap.size := fun e => by have := K.near _ _ _ _ h1 _ e; omega
  have hsz := h6.size
  refine (hc F _ (K.later h1 ha)).mono ?_
  rintro e w2 ⟨hr, F', k1, k2, k3⟩
  have hX := Bx.made h6 x0 x1 x2 x3
  have hrow := (Only.of_below (F := fun _ => False) ha).row h4 (fun _ _ e => e)
  have hbl : Below w.heap.size w w2 := (h6.alloc hsz _).trans (k2.to_below (by simp; omega) (fun k hk => h2 k hk))
  refine ⟨hr, ⟨⟨F', k1, fun k hk => ?_, fun g hg hk => ?_⟩, k2.row hrow h3, h5, hbl⟩, ⟨hX.box.only k2 hnF, hX.new, hbl⟩⟩
  · by_cases e : k < (wr.alloc (.cells #[x0, x1, x2, x3] 23)).heap.size
    · exact h2 k (k3 k e hk)
    · simp at e; omega
  · have hg2 := (hrow.lt g hg).2
    exact h3 g hg (k3 g hg2 hk)
theorem Pw.push (K : LandedDk Dk) (h : Pw Dk w wr p st v l) (x : Hd) (hn : l.length ≤ 1000) :
    ∃ g cap w', (Builtin.append_ #[33, 33] 33 #[v, .slice (some ⟨wr.heap.size, 0, none⟩) 1 1]).run Try.prog (wr.alloc (.cells #[.int .i64 x.t, .int .i64 x.n, .int .i64 x.z, .int .i64 x.q] 23)) = .ok (.slice (some ⟨g, 0, none⟩) (l.length + 1) cap) w' ∧
      Pw Dk w w' p st (.slice (some ⟨g, 0, none⟩) (l.length + 1) cap) (l ++ [x]) := by
  obtain ⟨⟨F, h1, h2, h3⟩, h4, h5, h6⟩ := h
  obtain ⟨g, cap, w', hrun, ho, hgr, hat⟩ := app_head wr v l h4 x hn
  have hO : Only (fun i => v.ownBlock = some i) wr w' := (Only.of_below ((Below.refl _ _).alloc (Nat.le_refl _) _)).trans (Only.of_grown (F := fun i => v.ownBlock = some i) hgr (fun i _ hi => hi)) (fun _ _ e => e)
  have hsz := h6.size
  have hnr := K.near _ _ _ _ h1
  refine ⟨g, cap, w', hrun, ⟨⟨F, K.keep _ _ _ _ _ _ h1 hO (fun k hk e => h3 k e hk), h2, fun i hi hk => ?_⟩, ho, fun i hi => ?_, h6.trans (hO.to_below hsz (fun i hi => h5 i hi))⟩⟩
  · have hi2 : g = i := by simpa [Value.ownBlock] using hi
    subst hi2
    rcases hat with e | e
    · exact h3 g e hk
    · have := hnr g hk; omega
  · have hi2 : g = i := by simpa [Value.ownBlock] using hi
    subst hi2
    rcases hat with e | e
    · exact h5 g e
    · omega
/-- The row as a slice of heads. -/
theorem Pw.heads (h : Pw Dk w wr p st v l) : ∃ ao cap, v = .slice ao l.length cap ∧ HdAt wr ao l := by
  have hrow := h.row
  rcases hrow.2 with ⟨rfl, h0⟩ | ⟨g, cap, cur, rfl, hb, hh, _⟩
  · obtain rfl : l = [] := List.length_eq_zero_iff.1 h0
    exact ⟨none, 0, rfl, ⟨fun k hk => by simp at hk⟩⟩
  · refine ⟨some ⟨g, 0, none⟩, cap, rfl, ⟨fun k hk => ⟨g, 0, rfl, (hrow.lt g rfl).2, ?_⟩⟩⟩
    have key : ∀ j u, j < 4 → (cellsH l[k])[j]? = some u → wr.cell? ⟨g, k * 4 + j, none⟩ = some u := fun j u hj hu => by
      have := hrow.cells (g := g) rfl (k * 4 + j) u (by rw [rowH_at l k j hk hj]; exact hu)
      rw [Addr.add_mid, Nat.zero_add] at this
      exact this
    rw [Nat.zero_add]
    exact ⟨key 0 _ (by omega) rfl, key 1 _ (by omega) rfl, key 2 _ (by omega) rfl, key 3 _ (by omega) rfl⟩
end
/-- What stands where, by the last heads of both places. -/
def asO (h : Hd) : Option Hd := if 0 < h.t then some h else none
structure Stands (st : St) (p : Hd × Hd) : Prop where
  a : standOf (st.now 0) 0 = asO p.1
  b : standOf (st.now 1) 1 = asO p.2
  pa : p.1 = hd0 ∨ 1 ≤ p.1.t
  pb : p.2 = hd0 ∨ 1 ≤ p.2.t
theorem Stands.newest {st : St} {p : Hd × Hd} (h : Stands st p) : hdO st.newest = newL p ∧ st.newest.isSome = newB p := by
  unfold St.newest
  rw [h.a, h.b]
  obtain ⟨x, y⟩ := p
  have pa := h.pa
  have pb := h.pb
  dsimp only at pa pb ⊢
  unfold asO newL newB
  dsimp only
  have z0 : hd0.t = 0 := rfl
  rcases pa with rfl | pa
  · rcases pb with rfl | pb
    · rw [z0, if_neg (by decide), if_neg (by decide), if_neg (by decide)]
      exact ⟨rfl, rfl⟩
    · rw [z0, if_neg (by decide), if_pos (by omega), if_pos (by omega), if_pos (by omega)]
      exact ⟨rfl, rfl⟩
  · rcases pb with rfl | pb
    · rw [z0, if_pos (by omega), if_neg (by decide), if_neg (by omega), if_neg (by omega), decide_eq_true (by omega)]
      exact ⟨rfl, rfl⟩
    · rw [if_pos (by omega), if_pos (by omega)]
      show hdO (if x.t < y.t then some y else some x) = _ ∧ (if x.t < y.t then some y else some x).isSome = _
      by_cases e : x.t < y.t
      · rw [if_pos e, if_pos e, if_pos e]; exact ⟨rfl, rfl⟩
      · rw [if_neg e, if_neg e, if_neg e, decide_eq_true (by omega)]; exact ⟨rfl, rfl⟩
theorem Stands.start : Stands (St.new 4) (lastP []) := by
  have h := fun j => blank_at 4 j
  rw [show ((4 : Nat) : Int) = 4 from rfl] at h
  exact ⟨stand_none (h 0), stand_none (h 1), .inl rfl, .inl rfl⟩
theorem Stands.put {st st' : St} {l : List Hd} (h : Stands st (lastP l)) {x : Hd} (ho : x.Ok) {N : Int} (hN : 1 ≤ N ∧ N ≤ 1152921504606846976) (hn : ∀ j, j < 4 → st'.now j = if j = x.spot then secB N 0 x.B else st.now j) : Stands st' (lastP (l ++ [x])) := by
  have hs := x.spot_le
  have ht := ho.t
  rw [lastP_snoc]
  unfold stepP
  have hx : asO x = some x := by unfold asO; rw [if_pos (by omega)]
  by_cases e : x.t % 2 = 0
  · have e0 : x.spot = 0 := by omega
    rw [if_pos e]
    refine ⟨?_, ?_, .inr ht.1, h.pb⟩
    · rw [hn 0 (by omega), if_pos e0.symm]
      exact (stand_sec hN ho (by omega)).trans hx.symm
    · rw [hn 1 (by omega), if_neg (by omega)]
      exact h.b
  · have e0 : x.spot = 1 := by omega
    rw [if_neg e]
    refine ⟨?_, ?_, h.pa, .inr ht.1⟩
    · rw [hn 0 (by omega), if_neg (by omega)]
      exact h.a
    · rw [hn 1 (by omega), if_pos e0.symm]
      exact (stand_sec hN ho (by omega)).trans hx.symm
end Go.Proofs.Ytgolddcmhjdmdaa
