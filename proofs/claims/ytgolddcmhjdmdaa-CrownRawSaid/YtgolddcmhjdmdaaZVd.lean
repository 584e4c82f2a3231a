/- The landed crown: the head that stands in a sector, the newest one, and putting one. No condition but the disk's. -/
import Derived.Test.YtgolddcmhjdmdaaZDj
import Derived.Test.YtgolddcmhjdmdaaZGf
import Derived.Test.YtgolddcmhjdmdaaZVc
import Derived.Test.YtgolddcmhjdmdaaZIb
import Derived.Test.YtgolddcmhjdmdaaZHe
import Derived.Test.YtgolddcmhjdmdaaZPe
namespace Go.Proofs.Ytgolddcmhjdmdaa
open Go.RowKit Go.Sort Cr Wm Go.Lib

theorem stand_out {st : St} (hok : st.Ok) (i : Nat) (h : ¬ i < st.safe.length) : standOf (st.now i) i = none := by
  have h0 : st.safe.getD i ByteArray.empty = ByteArray.empty := by
    rw [List.getD_eq_getElem?_getD, List.getElem?_eq_none (by omega)]; rfl
  have h1 : ∀ (L : List (Nat × ByteArray)) (x : ByteArray), (∀ w ∈ L, w.2.size = 128 ∧ w.1 < st.safe.length) → nowAt L i x = x := fun L => by
    induction L with
    | nil => intro x _; rfl
    | cons v r ih =>
      intro x hd
      have := (hd v (List.mem_cons_self ..)).2
      show nowAt r i (if v.1 = i then v.2 else x) = x
      rw [if_neg (by omega)]
      exact ih x (fun w hw => hd w (List.mem_cons_of_mem _ hw))
  have h2 : st.now i = ByteArray.empty := by
    unfold St.now
    rw [h1 _ _ hok.data, h0]
  rw [h2]
  refine stand_none ?_
  cases e : leafOf ByteArray.empty with
  | none => rfl
  | some x =>
    obtain ⟨N, I, D⟩ := x
    obtain ⟨a, b⟩ := leafOf_some e
    have := secB_size (N := N) (I := I) a.d
    rw [b] at this
    exact absurd this (by decide)
set_option maxRecDepth 100000 in
theorem placeOf_any (h : Hd) (W : World) : Calls Try.prog 34 #[headA h] W fun e W' => e = .returned (.int .i64 (h.t.tmod 2)) ∧ Below W.heap.size W W' := by
  have hbl := Lib.hid (show Below W.heap.size W (W.alloc (.cells #[.int .i64 h.t, .int .i64 h.n, .int .i64 h.z, .int .i64 h.q] 23)) from (Below.refl _ _).alloc (Nat.le_refl _) _)
  unfold headA
  go_enter Try.func34, Try.ntmps34
  go_wp2
  go_ret
  exact ⟨rfl, hbl.out⟩
/-- A head's block that was made first, to answer by. -/
structure Ans (W w : World) : Prop where
  box : BoxAt w W.heap.size [.int .i64 0, .int .i64 0, .int .i64 0, .int .i64 0]
  fz : ∀ j, w.frozen? ⟨W.heap.size, j, none⟩ = false
  bel : Below W.heap.size W w
theorem Ans.new (W : World) : Ans W (W.alloc (.cells #[.int .i64 0, .int .i64 0, .int .i64 0, .int .i64 0] 23)) := ⟨BoxAt.new W [.int .i64 0, .int .i64 0, .int .i64 0, .int .i64 0] _, fun j => by simp [go_sem], (Below.refl _ _).alloc (Nat.le_refl _) _⟩
theorem Ans.later {W w w2 : World} (h : Ans W w) (hb : Below w.heap.size w w2) : Ans W w2 := ⟨h.box.later hb, fun j => by rw [hb.frozen (p := ⟨W.heap.size, j, none⟩) h.box.lt]; exact h.fz j, h.bel.trans (hb.mono h.bel.size)⟩
theorem Ans.all {W w : World} (h : Ans W w) : w.cell? ⟨W.heap.size, 0, none⟩ = some (.int .i64 0) ∧ w.cell? ⟨W.heap.size, 1, none⟩ = some (.int .i64 0) ∧ w.cell? ⟨W.heap.size, 2, none⟩ = some (.int .i64 0) ∧ w.cell? ⟨W.heap.size, 3, none⟩ = some (.int .i64 0) ∧
    w.frozen? ⟨W.heap.size, 0, none⟩ = false ∧ w.frozen? ⟨W.heap.size, 1, none⟩ = false ∧ w.frozen? ⟨W.heap.size, 2, none⟩ = false ∧ w.frozen? ⟨W.heap.size, 3, none⟩ = false ∧ W.heap.size < w.heap.size ∧ Below W.heap.size W w :=
  ⟨h.box.spot 0 _ rfl, h.box.spot 1 _ rfl, h.box.spot 2 _ rfl, h.box.spot 3 _ rfl, h.fz 0, h.fz 1, h.fz 2, h.fz 3, h.box.lt, h.bel⟩
set_option maxRecDepth 100000 in
set_option maxHeartbeats 1000000 in
theorem standing_any {Dk : (Nat → Prop) → World → Nat → St → Prop} (K : LandedDk Dk) (S : LandedSt Dk) {F : Nat → Prop} {W : World} {p : Nat} {st : St} (h : Dk F W p st) (hok : st.Ok) (i : Nat) (_hi : i ≤ 1) :
    Calls Try.prog 37 #[.pointer (some ⟨p, 0, none⟩), .int .i64 (i : Int)] W fun e W' => e = .returned (.tuple #[headA (hdO (standOf (st.now i) i)), .bool (standOf (st.now i) i).isSome]) ∧ Below W.heap.size W W' := by
  have hrd := Lib.hid (fun W1 (hb : Below W.heap.size W W1) => K.read F W1 p st (i : Int) (K.later h hb) hok)
  have A := Ans.new W
  by_cases hlen : i < st.safe.length
  · rw [(rd_now hlen).1, (rd_now hlen).2] at hrd
    have hs := now_sized hok i hlen
    have hsr := Lib.hid (fun W => S.read (st.now i) W (by rw [hs]; decide))
    clear hlen
    generalize st.now i = s at *
    cases el : leafOf s with
    | none =>
      have hst := Lib.hid (stand_none (i := i) el)
      rw [el, show leafV none = leafA 0 0 ⟨#[]⟩ from rfl, show (none : Option (Int × Int × ByteArray)).isSome = false from rfl] at hsr
      unfold leafA at hsr
      go_enter Try.func37, Try.ntmps37
      go_wp2_with fail
      refine (hrd.out _ A.bel).mono ?_
      rintro e W1 ⟨rfl, hb1⟩
      replace A := A.later hb1
      go_wp2_with fail
      refine (hsr.out _).mono ?_
      rintro e W2 ⟨rfl, hb2⟩
      replace A := (A.later hb2).later ((Below.refl _ _).alloc (Nat.le_refl _) (.cells #[.int .i64 0, .int .i64 0, .string ⟨#[]⟩] 49))
      clear hb1 hb2
      obtain ⟨c0, c1, c2, c3, f0, f1, f2, f3, lt, hall⟩ := A.all
      clear A
      go_wp2_with fail
      obtain ⟨g0, g1, g2, g3⟩ := cells_put4 (x := .int .i64 0) (y := .int .i64 0) (z := .int .i64 0) (v := .int .i64 0) c0 c1 c2 c3
      refine bodyPost_ret (v := .tuple #[headA hd0, .bool false]) ?_ rfl ⟨by rw [hst.out]; rfl, below_put4 (Nat.le_refl _) hall _ _ _ _⟩
      simp [results, Try.results37, go_sem, g0, g1, g2, g3, headA, hd0]
    | some x =>
      obtain ⟨N, I, D⟩ := x
      have hD := (leafOf_some el).1.d
      rw [el, show leafV (some (N, I, D)) = leafA N I D from rfl, show (some (N, I, D)).isSome = true from rfl] at hsr
      unfold leafA at hsr
      have hho := Lib.hid (fun W => crRead_any D W (by omega))
      have hunf : standOf s i = if I = 0 then (match headOf D with | some h => if h.t % 2 = (i : Int) then some h else none | none => none) else none := by
        unfold standOf
        rw [el]
        rfl
      by_cases hI : I = 0
      · subst hI
        rw [if_pos rfl] at hunf
        cases eh : headOf D with
        | none =>
          rw [eh] at hunf hho
          have hst := Lib.hid hunf
          rw [show hdO none = hd0 from rfl, show (none : Option Hd).isSome = false from rfl] at hho
          unfold headA hd0 at hho
          clear hunf
          go_enter Try.func37, Try.ntmps37
          go_wp2_with fail
          refine (hrd.out _ A.bel).mono ?_
          rintro e W1 ⟨rfl, hb1⟩
          replace A := A.later hb1
          go_wp2_with fail
          refine (hsr.out _).mono ?_
          rintro e W2 ⟨rfl, hb2⟩
          replace A := (A.later hb2).later ((Below.refl _ _).alloc (Nat.le_refl _) (.cells #[.int .i64 N, .int .i64 0, .string D] 49))
          clear hb1 hb2
          go_wp2_with fail
          refine (hho.out _).mono ?_
          rintro e W3 ⟨rfl, hb3⟩
          replace A := (A.later hb3).later ((Below.refl _ _).alloc (Nat.le_refl _) (.cells #[.int .i64 0, .int .i64 0, .int .i64 0, .int .i64 0] 23))
          clear hb3
          obtain ⟨c0, c1, c2, c3, f0, f1, f2, f3, lt, hall⟩ := A.all
          clear A
          go_wp2_with fail
          obtain ⟨g0, g1, g2, g3⟩ := cells_put4 (x := .int .i64 0) (y := .int .i64 0) (z := .int .i64 0) (v := .int .i64 0) c0 c1 c2 c3
          refine bodyPost_ret (v := .tuple #[headA hd0, .bool false]) ?_ rfl ⟨by rw [hst.out]; rfl, below_put4 (Nat.le_refl _) hall _ _ _ _⟩
          simp [results, Try.results37, go_sem, g0, g1, g2, g3, headA, hd0]
        | some k =>
          have hk := (headOf_some eh).1
          rw [eh] at hunf hho
          have hpl := Lib.hid (fun W => placeOf_any k W)
          have htm : k.t.tmod 2 = k.t % 2 := Int.tmod_eq_emod_of_nonneg (by have := hk.t; omega)
          rw [htm] at hpl
          obtain ⟨t, n, z, q⟩ := k
          rw [show hdO (some (⟨t, n, z, q⟩ : Hd)) = ⟨t, n, z, q⟩ from rfl, show (some (⟨t, n, z, q⟩ : Hd)).isSome = true from rfl] at hho
          unfold headA at hho hpl
          dsimp only at hho hpl hunf
          clear htm hk
          generalize t % 2 = m at *
          by_cases hm : m = (i : Int)
          · rw [if_pos hm] at hunf
            have hst := Lib.hid hunf
            have hmb : (!m == (i : Int)) = false := by rw [hm]; simp
            clear hunf
            go_enter Try.func37, Try.ntmps37
            go_wp2_with fail
            refine (hrd.out _ A.bel).mono ?_
            rintro e W1 ⟨rfl, hb1⟩
            replace A := A.later hb1
            go_wp2_with fail
            refine (hsr.out _).mono ?_
            rintro e W2 ⟨rfl, hb2⟩
            replace A := (A.later hb2).later ((Below.refl _ _).alloc (Nat.le_refl _) (.cells #[.int .i64 N, .int .i64 0, .string D] 49))
            clear hb1 hb2
            go_wp2_with fail
            refine (hho.out _).mono ?_
            rintro e W3 ⟨rfl, hb3⟩
            have hltB := (A.later hb3).box.lt
            have hY := BoxAt.new W3 [.int .i64 t, .int .i64 n, .int .i64 z, .int .i64 q] 23
            replace A := (A.later hb3).later ((Below.refl _ _).alloc (Nat.le_refl _) (.cells #[.int .i64 t, .int .i64 n, .int .i64 z, .int .i64 q] 23))
            have hltA : W.heap.size < W3.heap.size := hltB
            clear hb3
            go_wp2_with fail
            refine (hpl.out _).mono ?_
            rintro e W4 ⟨rfl, hb4⟩
            replace A := A.later hb4
            replace hY := hY.later hb4
            have y0 := hY.spot 0 _ rfl
            have y1 := hY.spot 1 _ rfl
            have y2 := hY.spot 2 _ rfl
            have y3 := hY.spot 3 _ rfl
            have yl := hY.lt
            have hlt3 := hb4.size
            have hne : W.heap.size ≠ W3.heap.size := by have := A.bel.size; have := hltA; omega
            clear hb4 hY
            obtain ⟨c0, c1, c2, c3, f0, f1, f2, f3, lt, hall⟩ := A.all
            clear A
            go_wp2_with fail
            obtain ⟨g0, g1, g2, g3⟩ := cells_put4 (x := .int .i64 t) (y := .int .i64 n) (z := .int .i64 z) (v := .int .i64 q) c0 c1 c2 c3
            refine bodyPost_ret (v := .tuple #[headA ⟨t, n, z, q⟩, .bool true]) ?_ rfl ⟨by rw [hst.out]; rfl, below_put4 (Nat.le_refl _) hall _ _ _ _⟩
            simp [results, Try.results37, go_sem, g0, g1, g2, g3, headA]
          · rw [if_neg hm] at hunf
            have hst := Lib.hid hunf
            have hmb : (!m == (i : Int)) = true := by simpa using hm
            clear hunf
            go_enter Try.func37, Try.ntmps37
            go_wp2_with fail
            refine (hrd.out _ A.bel).mono ?_
            rintro e W1 ⟨rfl, hb1⟩
            replace A := A.later hb1
            go_wp2_with fail
            refine (hsr.out _).mono ?_
            rintro e W2 ⟨rfl, hb2⟩
            replace A := (A.later hb2).later ((Below.refl _ _).alloc (Nat.le_refl _) (.cells #[.int .i64 N, .int .i64 0, .string D] 49))
            clear hb1 hb2
            go_wp2_with fail
            refine (hho.out _).mono ?_
            rintro e W3 ⟨rfl, hb3⟩
            have hltB := (A.later hb3).box.lt
            have hY := BoxAt.new W3 [.int .i64 t, .int .i64 n, .int .i64 z, .int .i64 q] 23
            replace A := (A.later hb3).later ((Below.refl _ _).alloc (Nat.le_refl _) (.cells #[.int .i64 t, .int .i64 n, .int .i64 z, .int .i64 q] 23))
            have hltA : W.heap.size < W3.heap.size := hltB
            clear hb3
            go_wp2_with fail
            refine (hpl.out _).mono ?_
            rintro e W4 ⟨rfl, hb4⟩
            replace A := A.later hb4
            replace hY := hY.later hb4
            have y0 := hY.spot 0 _ rfl
            have y1 := hY.spot 1 _ rfl
            have y2 := hY.spot 2 _ rfl
            have y3 := hY.spot 3 _ rfl
            have yl := hY.lt
            have hlt3 := hb4.size
            have hne : W.heap.size ≠ W3.heap.size := by have := A.bel.size; have := hltA; omega
            clear hb4 hY
            obtain ⟨c0, c1, c2, c3, f0, f1, f2, f3, lt, hall⟩ := A.all
            clear A
            go_wp2_with fail
            obtain ⟨g0, g1, g2, g3⟩ := cells_put4 (x := .int .i64 0) (y := .int .i64 0) (z := .int .i64 0) (v := .int .i64 0) c0 c1 c2 c3
            refine bodyPost_ret (v := .tuple #[headA hd0, .bool false]) ?_ rfl ⟨by rw [hst.out]; rfl, below_put4 (Nat.le_refl _) hall _ _ _ _⟩
            simp [results, Try.results37, go_sem, g0, g1, g2, g3, headA, hd0]
      · rw [if_neg hI] at hunf
        have hst := Lib.hid hunf
        have hib : (!I == 0) = true := by simpa using hI
        clear hunf
        go_enter Try.func37, Try.ntmps37
        go_wp2_with fail
        refine (hrd.out _ A.bel).mono ?_
        rintro e W1 ⟨rfl, hb1⟩
        replace A := A.later hb1
        go_wp2_with fail
        refine (hsr.out _).mono ?_
        rintro e W2 ⟨rfl, hb2⟩
        replace A := (A.later hb2).later ((Below.refl _ _).alloc (Nat.le_refl _) (.cells #[.int .i64 N, .int .i64 I, .string D] 49))
        clear hb1 hb2
        obtain ⟨c0, c1, c2, c3, f0, f1, f2, f3, lt, hall⟩ := A.all
        clear A
        go_wp2_with fail
        obtain ⟨g0, g1, g2, g3⟩ := cells_put4 (x := .int .i64 0) (y := .int .i64 0) (z := .int .i64 0) (v := .int .i64 0) c0 c1 c2 c3
        refine bodyPost_ret (v := .tuple #[headA hd0, .bool false]) ?_ rfl ⟨by rw [hst.out]; rfl, below_put4 (Nat.le_refl _) hall _ _ _ _⟩
        simp [results, Try.results37, go_sem, g0, g1, g2, g3, headA, hd0]
  · rw [show rdE st (i : Int) = 1 by unfold rdE; rw [if_neg (by omega)]] at hrd
    have hst := Lib.hid (stand_out hok i hlen)
    generalize rdS st (i : Int) = x at *
    go_enter Try.func37, Try.ntmps37
    go_wp2_with fail
    refine (hrd.out _ A.bel).mono ?_
    rintro e W1 ⟨rfl, hb1⟩
    replace A := A.later hb1
    clear hb1
    obtain ⟨c0, c1, c2, c3, f0, f1, f2, f3, lt, hall⟩ := A.all
    clear A
    go_wp2_with fail
    obtain ⟨g0, g1, g2, g3⟩ := cells_put4 (x := .int .i64 0) (y := .int .i64 0) (z := .int .i64 0) (v := .int .i64 0) c0 c1 c2 c3
    refine bodyPost_ret (v := .tuple #[headA hd0, .bool false]) ?_ rfl ⟨by rw [hst.out]; rfl, below_put4 (Nat.le_refl _) hall _ _ _ _⟩
    simp [results, Try.results37, go_sem, g0, g1, g2, g3, headA, hd0]
end Go.Proofs.Ytgolddcmhjdmdaa
