/- Stage 26: the landed shelf's Parse. No condition but sizes. -/
import Derived.Test.YtdphflbgecnhkaaZYzb
namespace Go.Proofs.Ytdphflbgecnhkaa
open Go.RowKit Go.Sort Wm

set_option maxRecDepth 100000 in
theorem shCut_q (s : ByteArray) (g t : ByteArray) (b : Bool) (hc : ∀ W, Calls Try.prog 16 #[.string s, .string ⟨#[64]⟩] W fun e w' => e = .returned (.tuple #[.string g, .string t, .bool b]) ∧ Below W.heap.size W w') (w : World) : Calls Try.prog 11 #[.string s, .string ⟨#[64]⟩] w fun e w' => e = .returned (.tuple #[.string g, .string t, .bool b]) ∧ Below w.heap.size w w' := by
  have c := Lib.hid hc
  clear hc
  go_enter Try.func11, Try.ntmps11
  go_wp2_with (go_at_call 16; with_reducible refine (c.out _).mono ?_; rintro e W1 ⟨rfl, hb1⟩)
  go_ret3
  exact ⟨rfl, hb1⟩
/-- What Parse works beside. -/
structure PaW (w wr : World) : Prop where
  r0 : wr.cell? ⟨w.heap.size, 0, none⟩ = some (.string ⟨#[]⟩)
  r1 : wr.cell? ⟨w.heap.size, 1, none⟩ = some (.string ⟨#[]⟩)
  r2 : wr.cell? ⟨w.heap.size, 2, none⟩ = some (.int .i64 0)
  g : ∀ j, wr.frozen? ⟨w.heap.size, j, none⟩ = false
  lt : w.heap.size < wr.heap.size
  below : Below w.heap.size w wr
theorem PaW.later {w wr w2 : World} (h : PaW w wr) (hb : Below wr.heap.size wr w2) : PaW w w2 :=
  ⟨by rw [hb.cell (p := ⟨w.heap.size, 0, none⟩) h.lt]; exact h.r0, by rw [hb.cell (p := ⟨w.heap.size, 1, none⟩) h.lt]; exact h.r1, by rw [hb.cell (p := ⟨w.heap.size, 2, none⟩) h.lt]; exact h.r2,
    fun j => by rw [hb.frozen (p := ⟨w.heap.size, j, none⟩) h.lt]; exact h.g j, Nat.lt_of_lt_of_le h.lt hb.size, h.below.trans (hb.mono h.below.size)⟩
theorem pput3_0 {W : World} {b : Nat} {x y z u v t : Value} (h : W.cell? ⟨b, 0, none⟩ = some u) (_k : W.cell? ⟨b, 1, none⟩ = some v) (_l : W.cell? ⟨b, 2, none⟩ = some t) : (((W.setCell ⟨b, 0, none⟩ x).setCell ⟨b, 1, none⟩ y).setCell ⟨b, 2, none⟩ z).cell? ⟨b, 0, none⟩ = some x := by
  rw [World.cell?_setCell_other (h := by simp), World.cell?_setCell_other (h := by simp), World.cell?_setCell_same (h := h)]
theorem pput3_1 {W : World} {b : Nat} {x y z u v t : Value} (_h : W.cell? ⟨b, 0, none⟩ = some u) (k : W.cell? ⟨b, 1, none⟩ = some v) (_l : W.cell? ⟨b, 2, none⟩ = some t) : (((W.setCell ⟨b, 0, none⟩ x).setCell ⟨b, 1, none⟩ y).setCell ⟨b, 2, none⟩ z).cell? ⟨b, 1, none⟩ = some y := by
  rw [World.cell?_setCell_other (h := by simp), World.cell?_setCell_same (u := v)]
  rw [World.cell?_setCell_other (h := by simp)]; exact k
theorem pput3_2 {W : World} {b : Nat} {x y z u v t : Value} (_h : W.cell? ⟨b, 0, none⟩ = some u) (_k : W.cell? ⟨b, 1, none⟩ = some v) (l : W.cell? ⟨b, 2, none⟩ = some t) : (((W.setCell ⟨b, 0, none⟩ x).setCell ⟨b, 1, none⟩ y).setCell ⟨b, 2, none⟩ z).cell? ⟨b, 2, none⟩ = some z := by
  rw [World.cell?_setCell_same (u := t)]
  rw [World.cell?_setCell_other (h := by simp), World.cell?_setCell_other (h := by simp)]; exact l
set_option maxRecDepth 100000 in
set_option maxHeartbeats 2000000 in
theorem shParse_walk (s : ByteArray) (st : Int) (g t : ByteArray) (b : Bool) (hc : ∀ W, Calls Try.prog 16 #[.string s, .string ⟨#[64]⟩] W fun e w' => e = .returned (.tuple #[.string g, .string t, .bool b]) ∧ Below W.heap.size W w')
    (hw : (⟨g, t, st⟩ : Place).Wf) (gd : Bool) (hgd : goodPl ⟨g, t, st⟩ = gd) (w : World) : Calls Try.prog 6 #[.string s, .int .i64 st] w fun e w' => e = .returned (.tuple #[if gd = true then placeV ⟨g, t, st⟩ else placeV noPl, .int .i64 (if gd = true then 0 else 4)]) ∧ Below w.heap.size w w' := by
  have c := Lib.hid (fun W => shCut_q s g t b hc W)
  have cG := Lib.hid (fun W => shGood_any ⟨g, t, st⟩ hw W)
  have hq : placeV ⟨g, t, st⟩ = .agg #[.string g, .string t, .int .i64 st] := rfl
  have hz : placeV noPl = .agg #[.string ⟨#[]⟩, .string ⟨#[]⟩, .int .i64 0] := rfl
  rw [hgd, hq] at cG
  rw [hq, hz]
  clear hc hw hq hz hgd
  go_enter Try.func6, Try.ntmps6
  go_wp2_with fail
  refine (c.out _).mono ?_
  rintro e W1 ⟨rfl, hb1⟩
  have hO : PaW w W1 := ⟨by rw [hb1.cell (p := ⟨w.heap.size, 0, none⟩) (by simp)]; simp [go_sem], by rw [hb1.cell (p := ⟨w.heap.size, 1, none⟩) (by simp)]; simp [go_sem], by rw [hb1.cell (p := ⟨w.heap.size, 2, none⟩) (by simp)]; simp [go_sem],
    fun j => by rw [hb1.frozen (p := ⟨w.heap.size, j, none⟩) (by simp)]; simp [go_sem], Nat.lt_of_lt_of_le (by simp) hb1.size, ((Below.refl _ _).alloc (Nat.le_refl _) _).trans (hb1.mono (by simp))⟩
  clear hb1 c
  go_wp2_with fail
  have hO2 : PaW w (W1.alloc (.cells #[.string g, .string t, .int .i64 st] 24)) := hO.later ((Below.refl _ _).alloc (Nat.le_refl _) _)
  have hbx : BoxAt (W1.alloc (.cells #[.string g, .string t, .int .i64 st] 24)) W1.heap.size [.string g, .string t, .int .i64 st] := BoxAt.new W1 _ _
  refine (cG.out _).mono ?_
  rintro e W3 ⟨rfl, hb3⟩
  replace hO2 := hO2.later hb3
  replace hbx := hbx.later hb3
  clear hb3 hO
  have r0 := hO2.r0
  have r1 := hO2.r1
  have r2 := hO2.r2
  have q0 := hO2.g 0
  have q1 := hO2.g 1
  have q2 := hO2.g 2
  have k0 := hbx.spot 0 _ rfl
  have k1 := hbx.spot 1 _ rfl
  have k2 := hbx.spot 2 _ rfl
  cases gd
  · go_wp2
    refine bodyPost_ret (v := .tuple #[.agg #[.string ⟨#[]⟩, .string ⟨#[]⟩, .int .i64 0], .int .i64 4]) ?_ rfl ?_
    · simp [results, Try.results6, go_sem, pput3_0 r0 r1 r2, pput3_1 r0 r1 r2, pput3_2 r0 r1 r2]
    · exact ⟨rfl, ((hO2.below.setCell (by simp) _).setCell (by simp) _).setCell (by simp) _⟩
  · go_wp2
    refine bodyPost_ret (v := .tuple #[.agg #[.string g, .string t, .int .i64 st], .int .i64 0]) ?_ rfl ?_
    · simp [results, Try.results6, go_sem, pput3_0 r0 r1 r2, pput3_1 r0 r1 r2, pput3_2 r0 r1 r2]
    · exact ⟨rfl, ((hO2.below.setCell (by simp) _).setCell (by simp) _).setCell (by simp) _⟩
theorem shParse_any (s : ByteArray) (st : Int) (hs : s.size ≤ 140737488351232) (hst : -9223372036854775808 ≤ st ∧ st ≤ 9223372036854775807) (w : World) :
    Calls Try.prog 6 #[.string s, .int .i64 st] w fun e w' => e = .returned (.tuple #[placeV ((parsePl s st).getD noPl), .int .i64 (if (parsePl s st).isSome = true then 0 else 4)]) ∧ Below w.heap.size w w' := by
  have hx := at_index s
  generalize Lib.indexByte s.data.toList 64 = a at hx
  by_cases ha : a = -1
  · subst ha
    rw [parse_none hx]
    have hbad : goodPl ⟨s, ⟨#[]⟩, st⟩ = false := by
      rw [Bool.eq_false_iff]
      intro h
      have := ((nameB_iff _ _).1 ((goodPl_iff _).1 h).2.1).1.1
      exact absurd this (Nat.lt_irrefl 0)
    exact shParse_walk s st s ⟨#[]⟩ false (fun W => shCutlite_miss s hx W) ⟨hs, (by show (0 : Nat) ≤ _; omega), hst⟩ false hbad w
  · obtain ⟨k, rfl⟩ : ∃ k : Nat, a = (k : Int) := by
      rcases hx with ⟨rfl, -⟩ | ⟨k, -, rfl, -⟩
      · exact absurd rfl ha
      · exact ⟨k, rfl⟩
    have hk := (at_split hx).1
    have h := shParse_walk s st (s.extract 0 k) (s.extract (k + 1) s.size) true (fun W => shCutlite_hit s k hx hs W) ⟨by rw [ByteArray.size_extract]; omega, by rw [ByteArray.size_extract]; omega, hst⟩ _ rfl w
    cases hg : goodPl ⟨s.extract 0 k, s.extract (k + 1) s.size, st⟩
    · rw [parse_no hx hg]
      rw [hg] at h
      exact h
    · rw [parse_yes hx hg]
      rw [hg] at h
      exact h
end Go.Proofs.Ytdphflbgecnhkaa
