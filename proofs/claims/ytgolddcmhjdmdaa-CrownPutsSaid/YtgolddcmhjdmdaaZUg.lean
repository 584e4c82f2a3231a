/- The law's own newest of rows of heads, walked; rows of heads appended to. No condition but sizes. -/
import Derived.Test.YtgolddcmhjdmdaaZUc
import Derived.Maps.AppendAt
import Derived.BigRegion
namespace Go.Proofs.Ytgolddcmhjdmdaa
open Go.RowKit Go.Sort Cr

def cellsH (h : Hd) : List Value := [.int .i64 h.t, .int .i64 h.n, .int .i64 h.z, .int .i64 h.q]
def rowH (l : List Hd) : List Value := l.flatMap cellsH
theorem rowH_app (l : List Hd) (h : Hd) : rowH (l ++ [h]) = rowH l ++ cellsH h := by unfold rowH; rw [List.flatMap_append]; simp
theorem rowH_at : ∀ (l : List Hd) (k j : Nat) (hk : k < l.length), j < 4 → (rowH l)[k * 4 + j]? = (cellsH l[k])[j]?
  | [], k, j, hk, _ => by simp at hk
  | x :: r, 0, j, _, hj => by
    show (cellsH x ++ rowH r)[0 * 4 + j]? = _
    rw [Nat.zero_mul, Nat.zero_add, List.getElem?_append_left (by show j < 4; exact hj)]
    rfl
  | x :: r, k + 1, j, hk, hj => by
    show (cellsH x ++ rowH r)[(k + 1) * 4 + j]? = _
    rw [List.getElem?_append_right (by show 4 ≤ _; omega), show (k + 1) * 4 + j - (cellsH x).length = k * 4 + j by show (k + 1) * 4 + j - 4 = _; omega]
    exact rowH_at r k j (by simpa using hk) hj
/-- A slice of heads in memory. -/
structure HdAt (w : World) (ao : Option Addr) (l : List Hd) : Prop where
  spot : ∀ k (_ : k < l.length), ∃ b off, ao = some ⟨b, off, none⟩ ∧ b < w.heap.size ∧ w.cell? ⟨b, off + k * 4, none⟩ = some (.int .i64 l[k].t) ∧ w.cell? ⟨b, off + k * 4 + 1, none⟩ = some (.int .i64 l[k].n) ∧ w.cell? ⟨b, off + k * 4 + 2, none⟩ = some (.int .i64 l[k].z) ∧ w.cell? ⟨b, off + k * 4 + 3, none⟩ = some (.int .i64 l[k].q)
theorem HdAt.later {w w2 : World} {ao : Option Addr} {l : List Hd} (h : HdAt w ao l) (hb : Below w.heap.size w w2) : HdAt w2 ao l :=
  ⟨fun k hk => by
    obtain ⟨b, off, e, hlt, c0, c1, c2, c3⟩ := h.spot k hk
    have e2 : ∀ j, w2.cell? ⟨b, j, none⟩ = w.cell? ⟨b, j, none⟩ := fun j => hb.cell (p := ⟨b, j, none⟩) hlt
    exact ⟨b, off, e, Nat.lt_of_lt_of_le hlt hb.size, by rw [e2]; exact c0, by rw [e2]; exact c1, by rw [e2]; exact c2, by rw [e2]; exact c3⟩⟩
theorem HdAt.below {B : Nat} {w w2 : World} {ao : Option Addr} {l : List Hd} (h : HdAt w ao l) (hb : Below B w w2) (hB : w.heap.size ≤ B) : HdAt w2 ao l := h.later (hb.mono hB)
/-- The last head of each place. -/
def stepP (p : Hd × Hd) (h : Hd) : Hd × Hd := if h.t % 2 = 0 then (h, p.2) else (p.1, h)
def lastP (l : List Hd) : Hd × Hd := l.foldl stepP (hd0, hd0)
theorem lastP_snoc (l : List Hd) (h : Hd) : lastP (l ++ [h]) = stepP (lastP l) h := by unfold lastP; rw [List.foldl_append]; rfl
theorem lastP_take {l : List Hd} {k : Nat} (hk : k < l.length) : lastP (l.take (k + 1)) = stepP (lastP (l.take k)) l[k] := by
  rw [List.take_add_one, List.getElem?_eq_getElem hk]
  exact lastP_snoc _ _
def newL (p : Hd × Hd) : Hd := if p.1.t < p.2.t then p.2 else p.1
def newB (p : Hd × Hd) : Bool := if p.1.t < p.2.t then true else decide (0 < p.1.t)
/-- The two places in a block. -/
structure Two8 (w : World) (b : Nat) (p : Hd × Hd) : Prop where
  c0 : w.cell? ⟨b, 0, none⟩ = some (.int .i64 p.1.t)
  c1 : w.cell? ⟨b, 1, none⟩ = some (.int .i64 p.1.n)
  c2 : w.cell? ⟨b, 2, none⟩ = some (.int .i64 p.1.z)
  c3 : w.cell? ⟨b, 3, none⟩ = some (.int .i64 p.1.q)
  c4 : w.cell? ⟨b, 4, none⟩ = some (.int .i64 p.2.t)
  c5 : w.cell? ⟨b, 5, none⟩ = some (.int .i64 p.2.n)
  c6 : w.cell? ⟨b, 6, none⟩ = some (.int .i64 p.2.z)
  c7 : w.cell? ⟨b, 7, none⟩ = some (.int .i64 p.2.q)
  fz : ∀ i, w.frozen? ⟨b, i, none⟩ = false
  lt : b < w.heap.size
theorem Two8.later {w w2 : World} {b : Nat} {p : Hd × Hd} (h : Two8 w b p) (hb : Below w.heap.size w w2) : Two8 w2 b p := by
  have e : ∀ j, w2.cell? ⟨b, j, none⟩ = w.cell? ⟨b, j, none⟩ := fun j => hb.cell (p := ⟨b, j, none⟩) h.lt
  exact ⟨by rw [e]; exact h.c0, by rw [e]; exact h.c1, by rw [e]; exact h.c2, by rw [e]; exact h.c3, by rw [e]; exact h.c4, by rw [e]; exact h.c5, by rw [e]; exact h.c6, by rw [e]; exact h.c7,
    fun i => by rw [hb.frozen (p := ⟨b, i, none⟩) h.lt]; exact h.fz i, Nat.lt_of_lt_of_le h.lt hb.size⟩
theorem Two8.put0 {w : World} {b : Nat} {p : Hd × Hd} (h : Two8 w b p) (x : Hd) :
    Two8 ((((w.setCell ⟨b, 0, none⟩ (.int .i64 x.t)).setCell ⟨b, 1, none⟩ (.int .i64 x.n)).setCell ⟨b, 2, none⟩ (.int .i64 x.z)).setCell ⟨b, 3, none⟩ (.int .i64 x.q)) b (x, p.2) := by
  have o : ∀ (w : World) (i j : Nat) (v : Value), i ≠ j → (w.setCell ⟨b, i, none⟩ v).cell? ⟨b, j, none⟩ = w.cell? ⟨b, j, none⟩ := fun w i j v hij => World.cell?_setCell_other _ _ _ _ (fun e => by injection e with _ e _; omega)
  have s : ∀ (w : World) (i : Nat) (v u : Value), w.cell? ⟨b, i, none⟩ = some u → (w.setCell ⟨b, i, none⟩ v).cell? ⟨b, i, none⟩ = some v := fun w i v u hu => World.cell?_setCell_same _ _ _ hu
  refine ⟨?_, ?_, ?_, ?_, ?_, ?_, ?_, ?_, fun i => by simpa using h.fz i, by simpa using h.lt⟩
  · rw [o _ _ _ _ (by omega), o _ _ _ _ (by omega), o _ _ _ _ (by omega)]; exact s _ _ _ _ h.c0
  · rw [o _ _ _ _ (by omega), o _ _ _ _ (by omega)]; exact s _ _ _ _ (by rw [o _ _ _ _ (by omega)]; exact h.c1)
  · rw [o _ _ _ _ (by omega)]; exact s _ _ _ _ (by rw [o _ _ _ _ (by omega), o _ _ _ _ (by omega)]; exact h.c2)
  · exact s _ _ _ _ (by rw [o _ _ _ _ (by omega), o _ _ _ _ (by omega), o _ _ _ _ (by omega)]; exact h.c3)
  · rw [o _ _ _ _ (by omega), o _ _ _ _ (by omega), o _ _ _ _ (by omega), o _ _ _ _ (by omega)]; exact h.c4
  · rw [o _ _ _ _ (by omega), o _ _ _ _ (by omega), o _ _ _ _ (by omega), o _ _ _ _ (by omega)]; exact h.c5
  · rw [o _ _ _ _ (by omega), o _ _ _ _ (by omega), o _ _ _ _ (by omega), o _ _ _ _ (by omega)]; exact h.c6
  · rw [o _ _ _ _ (by omega), o _ _ _ _ (by omega), o _ _ _ _ (by omega), o _ _ _ _ (by omega)]; exact h.c7
theorem Two8.put4 {w : World} {b : Nat} {p : Hd × Hd} (h : Two8 w b p) (x : Hd) :
    Two8 ((((w.setCell ⟨b, 4, none⟩ (.int .i64 x.t)).setCell ⟨b, 5, none⟩ (.int .i64 x.n)).setCell ⟨b, 6, none⟩ (.int .i64 x.z)).setCell ⟨b, 7, none⟩ (.int .i64 x.q)) b (p.1, x) := by
  have o : ∀ (w : World) (i j : Nat) (v : Value), i ≠ j → (w.setCell ⟨b, i, none⟩ v).cell? ⟨b, j, none⟩ = w.cell? ⟨b, j, none⟩ := fun w i j v hij => World.cell?_setCell_other _ _ _ _ (fun e => by injection e with _ e _; omega)
  have s : ∀ (w : World) (i : Nat) (v u : Value), w.cell? ⟨b, i, none⟩ = some u → (w.setCell ⟨b, i, none⟩ v).cell? ⟨b, i, none⟩ = some v := fun w i v u hu => World.cell?_setCell_same _ _ _ hu
  refine ⟨?_, ?_, ?_, ?_, ?_, ?_, ?_, ?_, fun i => by simpa using h.fz i, by simpa using h.lt⟩
  · rw [o _ _ _ _ (by omega), o _ _ _ _ (by omega), o _ _ _ _ (by omega), o _ _ _ _ (by omega)]; exact h.c0
  · rw [o _ _ _ _ (by omega), o _ _ _ _ (by omega), o _ _ _ _ (by omega), o _ _ _ _ (by omega)]; exact h.c1
  · rw [o _ _ _ _ (by omega), o _ _ _ _ (by omega), o _ _ _ _ (by omega), o _ _ _ _ (by omega)]; exact h.c2
  · rw [o _ _ _ _ (by omega), o _ _ _ _ (by omega), o _ _ _ _ (by omega), o _ _ _ _ (by omega)]; exact h.c3
  · rw [o _ _ _ _ (by omega), o _ _ _ _ (by omega), o _ _ _ _ (by omega)]; exact s _ _ _ _ h.c4
  · rw [o _ _ _ _ (by omega), o _ _ _ _ (by omega)]; exact s _ _ _ _ (by rw [o _ _ _ _ (by omega)]; exact h.c5)
  · rw [o _ _ _ _ (by omega)]; exact s _ _ _ _ (by rw [o _ _ _ _ (by omega), o _ _ _ _ (by omega)]; exact h.c6)
  · exact s _ _ _ _ (by rw [o _ _ _ _ (by omega), o _ _ _ _ (by omega), o _ _ _ _ (by omega)]; exact h.c7)
theorem put_four {w : World} {b : Nat} {u0 u1 u2 u3 x0 x1 x2 x3 : Value} (h0 : w.cell? ⟨b, 0, none⟩ = some u0) (h1 : w.cell? ⟨b, 1, none⟩ = some u1) (h2 : w.cell? ⟨b, 2, none⟩ = some u2) (h3 : w.cell? ⟨b, 3, none⟩ = some u3) :
    ((((w.setCell ⟨b, 0, none⟩ x0).setCell ⟨b, 1, none⟩ x1).setCell ⟨b, 2, none⟩ x2).setCell ⟨b, 3, none⟩ x3).cell? ⟨b, 0, none⟩ = some x0 ∧
    ((((w.setCell ⟨b, 0, none⟩ x0).setCell ⟨b, 1, none⟩ x1).setCell ⟨b, 2, none⟩ x2).setCell ⟨b, 3, none⟩ x3).cell? ⟨b, 1, none⟩ = some x1 ∧
    ((((w.setCell ⟨b, 0, none⟩ x0).setCell ⟨b, 1, none⟩ x1).setCell ⟨b, 2, none⟩ x2).setCell ⟨b, 3, none⟩ x3).cell? ⟨b, 2, none⟩ = some x2 ∧
    ((((w.setCell ⟨b, 0, none⟩ x0).setCell ⟨b, 1, none⟩ x1).setCell ⟨b, 2, none⟩ x2).setCell ⟨b, 3, none⟩ x3).cell? ⟨b, 3, none⟩ = some x3 := by
  have o : ∀ (w : World) (i j : Nat) (v : Value), i ≠ j → (w.setCell ⟨b, i, none⟩ v).cell? ⟨b, j, none⟩ = w.cell? ⟨b, j, none⟩ := fun w i j v hij => World.cell?_setCell_other _ _ _ _ (fun e => by injection e with _ e _; omega)
  have s : ∀ (w : World) (i : Nat) (v u : Value), w.cell? ⟨b, i, none⟩ = some u → (w.setCell ⟨b, i, none⟩ v).cell? ⟨b, i, none⟩ = some v := fun w i v u hu => World.cell?_setCell_same _ _ _ hu
  refine ⟨?_, ?_, ?_, ?_⟩
  · rw [o _ _ _ _ (by omega), o _ _ _ _ (by omega), o _ _ _ _ (by omega)]; exact s _ _ _ _ h0
  · rw [o _ _ _ _ (by omega), o _ _ _ _ (by omega)]; exact s _ _ _ _ (by rw [o _ _ _ _ (by omega)]; exact h1)
  · rw [o _ _ _ _ (by omega)]; exact s _ _ _ _ (by rw [o _ _ _ _ (by omega), o _ _ _ _ (by omega)]; exact h2)
  · exact s _ _ _ _ (by rw [o _ _ _ _ (by omega), o _ _ _ _ (by omega), o _ _ _ _ (by omega)]; exact h3)
/-- What is known in the round: the result's block, and both places. -/
structure Nw (w wr : World) (p : Hd × Hd) : Prop where
  res : Bx w wr w.heap.size (.int .i64 0) (.int .i64 0) (.int .i64 0) (.int .i64 0)
  rf : ∀ i, wr.frozen? ⟨w.heap.size, i, none⟩ = false
  two : Two8 wr (w.heap.size + 1) p
theorem Nw.later {w wr w2 : World} {p : Hd × Hd} (h : Nw w wr p) (hb : Below wr.heap.size wr w2) : Nw w w2 p :=
  ⟨h.res.later hb, fun i => by rw [hb.frozen (p := ⟨w.heap.size, i, none⟩) h.res.box.lt]; exact h.rf i, h.two.later hb⟩
theorem Bx.past {w wr : World} {b c : Nat} {x0 x1 x2 x3 : Value} (h : Bx w wr b x0 x1 x2 x3) (hc : w.heap.size ≤ c) (hbc : b ≠ c) (i : Nat) (v : Value) : Bx w (wr.setCell ⟨c, i, none⟩ v) b x0 x1 x2 x3 := by
  refine ⟨⟨fun j u hj => ?_, by simpa using h.box.lt⟩, h.new, h.bel.setCell hc _⟩
  rw [World.cell?_setCell_other _ _ _ _ (fun e => by injection e with e _ _; exact hbc e.symm)]
  exact h.box.spot j u hj
theorem Nw.put0 {w wr : World} {p : Hd × Hd} (h : Nw w wr p) (x : Hd) (hx : x.t % 2 = 0) (o : Obj) :
    Nw w (((((wr.setCell ⟨w.heap.size + 1, 0, none⟩ (.int .i64 x.t)).setCell ⟨w.heap.size + 1, 1, none⟩ (.int .i64 x.n)).setCell ⟨w.heap.size + 1, 2, none⟩ (.int .i64 x.z)).setCell ⟨w.heap.size + 1, 3, none⟩ (.int .i64 x.q)).alloc o) (stepP p x) := by
  refine Nw.later (wr := (((wr.setCell ⟨w.heap.size + 1, 0, none⟩ (.int .i64 x.t)).setCell ⟨w.heap.size + 1, 1, none⟩ (.int .i64 x.n)).setCell ⟨w.heap.size + 1, 2, none⟩ (.int .i64 x.z)).setCell ⟨w.heap.size + 1, 3, none⟩ (.int .i64 x.q)) ?_ ((Below.refl _ _).alloc (Nat.le_refl _) o)
  refine ⟨(((h.res.past (by omega) (by omega) _ _).past (by omega) (by omega) _ _).past (by omega) (by omega) _ _).past (by omega) (by omega) _ _, fun i => by simpa using h.rf i, ?_⟩
  unfold stepP
  rw [if_pos hx]
  exact h.two.put0 x
theorem Nw.put4 {w wr : World} {p : Hd × Hd} (h : Nw w wr p) (x : Hd) (hx : ¬ x.t % 2 = 0) (o : Obj) :
    Nw w (((((wr.setCell ⟨w.heap.size + 1, 4, none⟩ (.int .i64 x.t)).setCell ⟨w.heap.size + 1, 5, none⟩ (.int .i64 x.n)).setCell ⟨w.heap.size + 1, 6, none⟩ (.int .i64 x.z)).setCell ⟨w.heap.size + 1, 7, none⟩ (.int .i64 x.q)).alloc o) (stepP p x) := by
  refine Nw.later (wr := (((wr.setCell ⟨w.heap.size + 1, 4, none⟩ (.int .i64 x.t)).setCell ⟨w.heap.size + 1, 5, none⟩ (.int .i64 x.n)).setCell ⟨w.heap.size + 1, 6, none⟩ (.int .i64 x.z)).setCell ⟨w.heap.size + 1, 7, none⟩ (.int .i64 x.q)) ?_ ((Below.refl _ _).alloc (Nat.le_refl _) o)
  refine ⟨(((h.res.past (by omega) (by omega) _ _).past (by omega) (by omega) _ _).past (by omega) (by omega) _ _).past (by omega) (by omega) _ _, fun i => by simpa using h.rf i, ?_⟩
  unfold stepP
  rw [if_neg hx]
  exact h.two.put4 x
set_option maxRecDepth 100000 in
set_option maxHeartbeats 2000000 in
theorem lawnewest_any (ao : Option Addr) (cap : Nat) (l : List Hd) (hl : ∀ h ∈ l, 1 ≤ h.t ∧ h.t ≤ 1152921504606846976) (hlen : l.length ≤ 1000) (w : World) (hA : HdAt w ao l) :
    Calls Try.prog 17 #[.slice ao l.length cap] w fun e w' => e = .returned (.tuple #[headA (newL (lastP l)), .bool (newB (lastP l))]) ∧ Below w.heap.size w w' := by
  have h0 : Nw w ((w.alloc (.cells #[.int .i64 0, .int .i64 0, .int .i64 0, .int .i64 0] 23)).alloc (.cells #[.int .i64 0, .int .i64 0, .int .i64 0, .int .i64 0, .int .i64 0, .int .i64 0, .int .i64 0, .int .i64 0] 74)) (lastP (l.take 0)) := by
    have hb := Bx.made (Below.refl w.heap.size w) (.int .i64 0) (.int .i64 0) (.int .i64 0) (.int .i64 0)
    refine ⟨hb.later ((Below.refl _ _).alloc (Nat.le_refl _) _), fun i => by simp [go_sem], ?_⟩
    refine ⟨?_, ?_, ?_, ?_, ?_, ?_, ?_, ?_, fun i => ?_, ?_⟩ <;> simp [go_sem, lastP, hd0]
  go_enter Try.func17, Try.ntmps17
  go_wp2
  generalize (w.alloc (.cells #[.int .i64 0, .int .i64 0, .int .i64 0, .int .i64 0] 23)).alloc (.cells #[.int .i64 0, .int .i64 0, .int .i64 0, .int .i64 0, .int .i64 0, .int .i64 0, .int .i64 0, .int .i64 0] 74) = wa at *
  go_loopw [10] (fun i wr => ∃ k : Nat, k ≤ l.length ∧ i = .int .i64 k ∧ Nw w wr (lastP (l.take k))) (fun i _ => (l.length - RowKit.intOf i).toNat)
  case atStart => exact ⟨0, by omega, rfl, h0⟩
  case round =>
    clear h0
    obtain ⟨k, hk, rfl, hN⟩ := hrel
    by_cases hlt : k < l.length
    · have hst := lastP_take hlt
      obtain ⟨b, off, rfl, hbl, e0, e1, e2, e3⟩ := (hA.below hN.res.bel (Nat.le_refl _)).spot k hlt
      have hwf := hl l[k] (List.getElem_mem hlt)
      have hb0 : w.heap.size ≤ w.heap.size + 1 := by omega
      have hkl : (k : Int) < (l.length : Int) := by omega
      generalize l[k] = x at *
      generalize lastP (l.take k) = P at *
      have c0 := hN.two.c0
      have c1 := hN.two.c1
      have c2 := hN.two.c2
      have c3 := hN.two.c3
      have c4 := hN.two.c4
      have c5 := hN.two.c5
      have c6 := hN.two.c6
      have c7 := hN.two.c7
      have fz := hN.two.fz
      have l8 := hN.two.lt
      obtain ⟨t, n, z, q⟩ := x
      dsimp only at e0 e1 e2 e3 hwf
      by_cases hp : t % 2 = 0
      · have hm : t.tmod 2 = 0 := by rw [Int.tmod_eq_emod_of_nonneg (by omega)]; exact hp
        have hfin := Lib.hid (hN.put0 ⟨t, n, z, q⟩ hp (.cells #[.int .i64 t, .int .i64 n, .int .i64 z, .int .i64 q] 23))
        rw [← hst] at hfin
        clear hN hst
        go_wp2_with fail
        exact ⟨⟨k + 1, by omega, by go_num, hfin.out⟩, by simp [RowKit.intOf]; omega⟩
      · have hm : t.tmod 2 = 1 := by rw [Int.tmod_eq_emod_of_nonneg (by omega)]; omega
        have hfin := Lib.hid (hN.put4 ⟨t, n, z, q⟩ hp (.cells #[.int .i64 t, .int .i64 n, .int .i64 z, .int .i64 q] 23))
        rw [← hst] at hfin
        clear hN hst
        go_wp2_with fail
        exact ⟨⟨k + 1, by omega, by go_num, hfin.out⟩, by simp [RowKit.intOf]; omega⟩
    · obtain rfl : k = l.length := by omega
      rw [List.take_length] at hN
      obtain ⟨P, hP⟩ : ∃ P, lastP l = P := ⟨_, rfl⟩
      rw [hP] at hN
      obtain ⟨⟨t, n, z, q⟩, ⟨t2, n2, z2, q2⟩⟩ := P
      obtain ⟨c0, c1, c2, c3, c4, c5, c6, c7, fz, l8⟩ := hN.two
      obtain ⟨r0, r1, r2, r3, lr⟩ := hN.res.cells
      have rf := hN.rf
      have hbl := hN.res.bel
      dsimp only at c0 c1 c2 c3 c4 c5 c6 c7
      clear hN
      replace hP := Lib.hid hP
      by_cases hlt2 : t < t2
      · go_wp2_with fail
        obtain ⟨g0, g1, g2, g3⟩ := put_four (x0 := .int .i64 t2) (x1 := .int .i64 n2) (x2 := .int .i64 z2) (x3 := .int .i64 q2) r0 r1 r2 r3
        refine bodyPost_ret (v := .tuple #[headA ⟨t2, n2, z2, q2⟩, .bool true]) ?_ rfl ⟨by rw [hP.out]; unfold newL newB; rw [if_pos hlt2, if_pos hlt2], (((hbl.setCell (Nat.le_refl _) _).setCell (Nat.le_refl _) _).setCell (Nat.le_refl _) _).setCell (Nat.le_refl _) _⟩
        simp [results, Try.results17, go_sem, g0, g1, g2, g3, headA]
      · go_wp2_with fail
        go_big_region
        all_goals (try go_wp2)
        obtain ⟨g0, g1, g2, g3⟩ := put_four (x0 := .int .i64 t) (x1 := .int .i64 n) (x2 := .int .i64 z) (x3 := .int .i64 q) r0 r1 r2 r3
        refine bodyPost_ret (v := .tuple #[headA ⟨t, n, z, q⟩, .bool (decide (0 < t))]) ?_ rfl ⟨by rw [hP.out]; unfold newL newB; rw [if_neg (Int.not_lt.2 hlt2), if_neg (Int.not_lt.2 hlt2)], ((((hbl.setCell (Nat.le_refl _) _).setCell (Nat.le_refl _) _).setCell (Nat.le_refl _) _).setCell (Nat.le_refl _) _).drew⟩
        simp [results, Try.results17, go_sem, g0, g1, g2, g3, headA]
end Go.Proofs.Ytgolddcmhjdmdaa
