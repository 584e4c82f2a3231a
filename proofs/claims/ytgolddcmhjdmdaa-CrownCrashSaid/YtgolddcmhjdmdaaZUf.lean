/- CrownCrash' walk, out of the landed contracts. -/
import Derived.Test.YtgolddcmhjdmdaaZUc
import Derived.Test.YtgolddcmhjdmdaaZUe
namespace Go.Proofs.Ytgolddcmhjdmdaa
open Go.RowKit Go.Sort Cr

/-- Two heads in blocks, and a disk of the law's own behind both. -/
structure Cw (Dk : (Nat → Prop) → World → Nat → St → Prop) (w wr : World) (b1 b2 : Nat) (x0 x1 x2 x3 y0 y1 y2 y3 : Value) (p : Nat) (st : St) : Prop where
  x : Bx w wr b1 x0 x1 x2 x3
  y : Bx w wr b2 y0 y1 y2 y3
  ex : ∃ F, Dk F wr p st ∧ ∀ k, F k → b1 < k ∧ b2 < k
section
variable {Dk : (Nat → Prop) → World → Nat → St → Prop} {w wr w2 : World} {b1 b2 p : Nat} {x0 x1 x2 x3 y0 y1 y2 y3 : Value} {st st2 : St}
theorem Cw.later (K : LandedDk Dk) (h : Cw Dk w wr b1 b2 x0 x1 x2 x3 y0 y1 y2 y3 p st) (hb : Below wr.heap.size wr w2) : Cw Dk w w2 b1 b2 x0 x1 x2 x3 y0 y1 y2 y3 p st := by
  obtain ⟨h1, h2, F, h3, h4⟩ := h
  exact ⟨h1.later hb, h2.later hb, F, K.later h3 hb, h4⟩
theorem Cw.ask (K : LandedDk Dk) (h : Cw Dk w wr b1 b2 x0 x1 x2 x3 y0 y1 y2 y3 p st) {f : FuncId} {args : Array Value} {R : Ending → Prop} (hc : ∀ F, Dk F wr p st → Calls Try.prog f args wr fun e W' => R e ∧ Below wr.heap.size wr W') :
    Calls Try.prog f args wr fun e w2 => R e ∧ Cw Dk w w2 b1 b2 x0 x1 x2 x3 y0 y1 y2 y3 p st := by
  have h' := h
  obtain ⟨_, _, F, h3, _⟩ := h'
  refine (hc F h3).mono ?_
  rintro e w2 ⟨hr, hb⟩
  exact ⟨hr, h.later K hb⟩
theorem Cw.ask2 (K : LandedDk Dk) {b3 : Nat} {z0 z1 z2 z3 : Value} (h : Cw Dk w wr b1 b2 x0 x1 x2 x3 y0 y1 y2 y3 p st) (hZ : Bx w wr b3 z0 z1 z2 z3) {f : FuncId} {args : Array Value} {R : Ending → Prop} (hc : ∀ F, Dk F wr p st → Calls Try.prog f args wr fun e W' => R e ∧ Below wr.heap.size wr W') :
    Calls Try.prog f args wr fun e w2 => R e ∧ Cw Dk w w2 b1 b2 x0 x1 x2 x3 y0 y1 y2 y3 p st ∧ Bx w w2 b3 z0 z1 z2 z3 := by
  have h' := h
  obtain ⟨_, _, F, h3, _⟩ := h'
  refine (hc F h3).mono ?_
  rintro e w2 ⟨hr, hb⟩
  exact ⟨hr, h.later K hb, hZ.later hb⟩
theorem Cw.op (h : Cw Dk w wr b1 b2 x0 x1 x2 x3 y0 y1 y2 y3 p st) {f : FuncId} {args : Array Value} {R : Ending → Prop} (hc : ∀ F, Dk F wr p st → Calls Try.prog f args wr fun e W' => R e ∧ DkPost Dk F p st2 wr W') :
    Calls Try.prog f args wr fun e w2 => R e ∧ Cw Dk w w2 b1 b2 x0 x1 x2 x3 y0 y1 y2 y3 p st2 := by
  obtain ⟨h1, h2, F, h3, h4⟩ := h
  refine (hc F h3).mono ?_
  rintro e w2 ⟨hr, F', k1, k2, k3⟩
  have hbl : Below w.heap.size w w2 := h1.bel.trans (k2.to_below h1.bel.size (fun k hk => by have := (h4 _ hk).1; have := h1.new; omega))
  refine ⟨hr, ⟨h1.box.only k2 (fun e => by have := (h4 _ e).1; omega), h1.new, hbl⟩, ⟨h2.box.only k2 (fun e => by have := (h4 _ e).2; omega), h2.new, hbl⟩, F', k1, fun k hk => ?_⟩
  by_cases e : k < wr.heap.size
  · exact h4 k (k3 k e hk)
  · have := h1.box.lt
    have := h2.box.lt
    omega
theorem Cw.made (hx : Bx w wr b1 x0 x1 x2 x3) (hy : Bx w wr b2 y0 y1 y2 y3) (h : DkMade Dk st wr (.returned (.pointer (some ⟨p, 0, none⟩))) w2) : Cw Dk w w2 b1 b2 x0 x1 x2 x3 y0 y1 y2 y3 p st := by
  obtain ⟨p2, F, he, h1, h2, h3⟩ := h
  have hp : p = p2 := by
    injection he with he
    injection he with he
    injection he with he
    injection he
  subst hp
  exact ⟨hx.later h3, hy.later h3, F, h1, fun k hk => by have := h2 k hk; have := hx.box.lt; have := hy.box.lt; omega⟩
end
set_option maxRecDepth 100000 in
set_option maxHeartbeats 4000000 in
theorem crownCrash_any {Dk : (Nat → Prop) → World → Nat → St → Prop} (K : LandedDk Dk) (S : LandedSt Dk) (L : LandedCr Dk) (h : Hd) (hi : h.In) (size : Int) (hz : -9223372036854775808 ≤ size ∧ size ≤ 9223372036854775807) (seq : Int) (hq : -9223372036854775808 ≤ seq ∧ seq ≤ 9223372036854775807)
    (fail : Int) (hf : -9223372036854775808 ≤ fail ∧ fail ≤ 9223372036854775807) (mask : Nat) (hmask : mask < 18446744073709551616) (torn cut : Int) (w : World) :
    Calls Try.prog 6 #[headA h, .int .i64 size, .int .i64 seq, .int .i64 fail, .int .u64 ((mask : Nat) : Int), .int .i64 torn, .int .i64 cut] w fun e w' => e = .returned (.bool true) ∧ Below w.heap.size w w' := by
  have hal := Lib.hid (crownAlive_any K L)
  have hg1 := Lib.hid (fun W => lawgood_any h hi W)
  cases hg : h.good with
  | false =>
    rw [hg] at hg1
    unfold headA at *
    obtain ⟨t, n, z, q⟩ := h
    dsimp only at *
    clear hg hi
    go_enter Try.func6, Try.ntmps6
    have hX := Bx.made (Below.refl w.heap.size w) (.int .i64 t) (.int .i64 n) (.int .i64 z) (.int .i64 q)
    go_wp2_with fail
    generalize w.alloc (.cells #[.int .i64 t, .int .i64 n, .int .i64 z, .int .i64 q] 23) = w0 at *
    generalize w.heap.size = bk at *
    refine (hal.out _).mono ?_
    rintro e w1 ⟨rfl, hb⟩
    replace hX := hX.later hb
    clear hb
    obtain ⟨c0, c1, c2, c3, lt⟩ := hX.cells
    have hbl := hX.bel
    clear hX
    go_wp2_with fail
    refine (hg1.out _).mono ?_
    rintro e w2 ⟨rfl, hb⟩
    have hbl2 := hbl.trans (((Below.refl w1.heap.size w1).alloc (Nat.le_refl _) (.cells #[.int .i64 (wrap64 (t + 1)), .int .i64 n, .int .i64 size, .int .i64 seq] 23)).trans (hb.mono (by simp)) |>.mono hbl.size)
    clear hb hbl
    go_wp2
    go_ret
    exact ⟨rfl, hbl2⟩
  | true =>
    have ho := (Hd.good_iff h).1 hg
    have ht1 := ho.t
    rw [hg] at hg1
    have hni : (h.next size seq).In := ⟨⟨by show _ ≤ h.t + 1; omega, by show h.t + 1 ≤ _; omega⟩, hi.n, hz, hq⟩
    have hg2 := Lib.hid (fun W => lawgood_any (h.next size seq) hni W)
    have hwt : IntKind.i64.wrap (h.t + 1) = h.t + 1 := by rw [IntKind.wrap_i64]; omega
    have hwp : IntKind.i64.wrap (h.t - 1) = h.t - 1 := by rw [IntKind.wrap_i64]; omega
    by_cases hbad : (h.next size seq).good = false ∨ ((h.next size seq).good = true ∧ fail < 0)
    · generalize hgn : (h.next size seq).good = gn at *
      unfold headA Hd.next at *
      obtain ⟨t, n, z, q⟩ := h
      dsimp only at *
      clear hg hi hni ho hgn
      rcases hbad with rfl | ⟨rfl, hfl⟩
      all_goals
        go_enter Try.func6, Try.ntmps6
        have hX := Bx.made (Below.refl w.heap.size w) (.int .i64 t) (.int .i64 n) (.int .i64 z) (.int .i64 q)
        go_wp2_with fail
        generalize w.alloc (.cells #[.int .i64 t, .int .i64 n, .int .i64 z, .int .i64 q] 23) = w0 at *
        generalize w.heap.size = bk at *
        refine (hal.out _).mono ?_
        rintro e w1 ⟨rfl, hb⟩
        replace hX := hX.later hb
        clear hb
        obtain ⟨c0, c1, c2, c3, lt⟩ := hX.cells
        have hY := Bx.made hX.bel (.int .i64 (t + 1)) (.int .i64 n) (.int .i64 size) (.int .i64 seq)
        replace hX := hX.later ((Below.refl w1.heap.size w1).alloc (Nat.le_refl _) (.cells #[.int .i64 (t + 1), .int .i64 n, .int .i64 size, .int .i64 seq] 23))
        go_wp2_with fail
        clear c0 c1 c2 c3 lt
        generalize w1.alloc (.cells #[.int .i64 (t + 1), .int .i64 n, .int .i64 size, .int .i64 seq] 23) = w2 at *
        generalize w1.heap.size = bn at *
        refine (hg1.out _).mono ?_
        rintro e w3 ⟨rfl, hb⟩
        replace hX := hX.later hb
        replace hY := hY.later hb
        clear hb
        obtain ⟨c0, c1, c2, c3, lt⟩ := hX.cells
        obtain ⟨d0, d1, d2, d3, ld⟩ := hY.cells
        go_wp2_with fail
        clear c0 c1 c2 c3 lt d0 d1 d2 d3 ld
        refine (hg2.out _).mono ?_
        rintro e w4 ⟨rfl, hb⟩
        replace hX := hX.later hb
        replace hY := hY.later hb
        clear hb hg1 hg2 hal
        have hbl2 := hX.bel
        clear hX hY
        go_wp2
        go_ret
        exact ⟨rfl, hbl2⟩
    · have hgn : (h.next size seq).good = true := by
        cases e : (h.next size seq).good with
        | true => rfl
        | false => exact absurd (.inl e) hbad
      have hfl : ¬ fail < 0 := fun e => hbad (.inr ⟨hgn, e⟩)
      have no := (Hd.good_iff _).1 hgn
      rw [hgn] at hg2
      obtain ⟨st1, st2, er, st3, r1, C1, e2, C2, R2, e3, O3, O4, hl4, gr, hend⟩ := crown_all ho no rfl (next_spot h size seq) fail hf.2 mask torn cut
      have hnew := Lib.hid (fun W => K.new 4 W (by decide) (by decide))
      have hp1 := Lib.hid (fun (ht : 1 < h.t) F W p hd => L.put F W p (St.new 4) 1 h.prev (Hd.prev_ok ho ht).isIn hd ((St.Calm.new 4 (by omega)).room (by omega) (by omega)))
      have hp2 := Lib.hid (fun F W p hd => L.put F W p st1 2 h hi hd (C1.room (by omega) (by omega)))
      have harm := Lib.hid (fun F W p hd => K.arm F W p st2 fail hd (C2.ok (by omega) (by omega)))
      have hp3 := Lib.hid (fun F W p hd => L.put F W p (st2.armed fail) 3 (h.next size seq) hni hd R2)
      have hcr := Lib.hid (fun F W p hd => K.crash F W p st3 mask torn cut hd O3 hmask)
      have hnw := Lib.hid (fun F W p hd => L.newest F W p (st3.crashed mask torn cut) hd O4)
      have hgr := Lib.hid (fun F W p hd => S.great F W p (st3.crashed mask torn cut) hd O4)
      have hsp := (h.next size seq).spot_le
      have hrd := Lib.hid (fun F W p hd => K.read F W p (st3.crashed mask torn cut) (((h.next size seq).spot : Nat) : Int) hd O4)
      rw [(rd_now (st := st3.crashed mask torn cut) (i := (h.next size seq).spot) (by omega)).1, (rd_now (st := st3.crashed mask torn cut) (i := (h.next size seq).spot) (by omega)).2] at hrd
      have hlb := Lib.hid (fun W => lawbytes_any (h.next size seq) W)
      have hse := Lib.hid (refsec_any 3 0 (h.next size seq).B (by rw [Hd.B_size]; omega))
      have hmod : (h.t + 1).tmod 2 = (((h.next size seq).spot : Nat) : Int) := by
        rw [Int.tmod_eq_emod_of_nonneg (by omega)]
        exact hsp.2
      have hne : h ≠ h.next size seq := fun e => by
        have : h.t = h.t + 1 := congrArg Hd.t e
        omega
      rw [e2] at hp2
      rw [e3] at hp3
      generalize (st3.crashed mask torn cut).great = gt at *
      generalize (st3.crashed mask torn cut).now (h.next size seq).spot = xs at *
      generalize secB 3 0 (h.next size seq).B = ys at *
      generalize (h.next size seq).B = nB at *
      generalize (h.next size seq).spot = sp at *
      generalize (st3.crashed mask torn cut).newest = nw at *
      generalize st3.crashed mask torn cut = st4 at *
      generalize St.new 4 = st0 at *
      clear C1 C2 R2 e2 e3 O3 O4 hl4 hni no hg hgn hbad hi ho
      replace gr := Lib.hid gr
      have hcase : (er = 0 ∧ xs = ys ∧ nw = some (h.next size seq)) ∨ (er ≠ 0 ∧ xs = ys ∧ nw = some (h.next size seq)) ∨ (er ≠ 0 ∧ xs ≠ ys ∧ nw = some h) := by
        rcases hend with ⟨q1, q2⟩ | q
        · by_cases e : er = 0
          · exact .inl ⟨e, q1, q2⟩
          · exact .inr (.inl ⟨e, q1, q2⟩)
        · exact .inr (.inr q)
      replace hcase := Lib.hid hcase
      clear hend
      rcases r1 with ⟨ht, r1⟩ | ⟨ht, rfl⟩
      · replace hp1 := Lib.hid (hp1.out ht)
        rw [r1] at hp1
        clear r1
        unfold headA Hd.next Hd.prev at *
        obtain ⟨t, n, z, q⟩ := h
        dsimp only at *
        go_enter Try.func6, Try.ntmps6
        have hX := Bx.made (Below.refl w.heap.size w) (.int .i64 t) (.int .i64 n) (.int .i64 z) (.int .i64 q)
        go_wp2_with fail
        generalize w.alloc (.cells #[.int .i64 t, .int .i64 n, .int .i64 z, .int .i64 q] 23) = w0 at *
        generalize w.heap.size = bk at *
        refine (hal.out _).mono ?_
        rintro e w1 ⟨rfl, hb⟩
        replace hX := hX.later hb
        clear hb
        obtain ⟨c0, c1, c2, c3, lt⟩ := hX.cells
        have hY := Bx.made hX.bel (.int .i64 (t + 1)) (.int .i64 n) (.int .i64 size) (.int .i64 seq)
        replace hX := hX.later ((Below.refl w1.heap.size w1).alloc (Nat.le_refl _) (.cells #[.int .i64 (t + 1), .int .i64 n, .int .i64 size, .int .i64 seq] 23))
        go_wp2_with fail
        clear c0 c1 c2 c3 lt
        generalize w1.alloc (.cells #[.int .i64 (t + 1), .int .i64 n, .int .i64 size, .int .i64 seq] 23) = w2 at *
        generalize w1.heap.size = bn at *
        refine (hg1.out _).mono ?_
        rintro e w3 ⟨rfl, hb⟩
        replace hX := hX.later hb
        replace hY := hY.later hb
        clear hb
        obtain ⟨c0, c1, c2, c3, lt⟩ := hX.cells
        obtain ⟨d0, d1, d2, d3, ld⟩ := hY.cells
        go_wp2_with fail
        clear c0 c1 c2 c3 lt d0 d1 d2 d3 ld
        refine (hg2.out _).mono ?_
        rintro e w4 ⟨rfl, hb⟩
        replace hX := hX.later hb
        replace hY := hY.later hb
        clear hb hg1 hg2 hal
        go_wp2_with fail
        refine (hnew.out _).mono ?_
        rintro e w5 hm
        obtain ⟨p, _, rfl, -⟩ := id hm
        have hT := Cw.made hX hY hm
        clear hm hX hY hnew
        replace hp1 := Lib.hid (hT.op (fun F h => hp1.out F _ _ h))
        obtain ⟨c0, c1, c2, c3, lt⟩ := hT.x.cells
        obtain ⟨d0, d1, d2, d3, ld⟩ := hT.y.cells
        clear hT
        go_wp2_with fail
        refine hp1.out.mono ?_
        rintro e w6 ⟨rfl, hT⟩
        clear hp1
        clear c0 c1 c2 c3 lt d0 d1 d2 d3 ld
        replace hp2 := Lib.hid (hT.op (fun F h => hp2.out F _ _ h))
        obtain ⟨c0, c1, c2, c3, lt⟩ := hT.x.cells
        obtain ⟨d0, d1, d2, d3, ld⟩ := hT.y.cells
        clear hT
        go_wp2_with fail
        refine hp2.out.mono ?_
        rintro e w7 ⟨rfl, hT⟩
        clear hp2
        clear c0 c1 c2 c3 lt d0 d1 d2 d3 ld
        replace harm := Lib.hid (hT.op (fun F h => harm.out F _ _ h))
        obtain ⟨c0, c1, c2, c3, lt⟩ := hT.x.cells
        obtain ⟨d0, d1, d2, d3, ld⟩ := hT.y.cells
        clear hT
        go_wp2_with fail
        refine harm.out.mono ?_
        rintro e w8 ⟨rfl, hT⟩
        clear harm
        clear c0 c1 c2 c3 lt d0 d1 d2 d3 ld
        replace hp3 := Lib.hid (hT.op (fun F h => hp3.out F _ _ h))
        obtain ⟨c0, c1, c2, c3, lt⟩ := hT.x.cells
        obtain ⟨d0, d1, d2, d3, ld⟩ := hT.y.cells
        clear hT
        go_wp2_with fail
        refine hp3.out.mono ?_
        rintro e w9 ⟨rfl, hT⟩
        clear hp3
        clear c0 c1 c2 c3 lt d0 d1 d2 d3 ld
        replace hcr := Lib.hid (hT.op (fun F h => hcr.out F _ _ h))
        obtain ⟨c0, c1, c2, c3, lt⟩ := hT.x.cells
        obtain ⟨d0, d1, d2, d3, ld⟩ := hT.y.cells
        clear hT
        go_wp2_with fail
        refine hcr.out.mono ?_
        rintro e w10 ⟨rfl, hT⟩
        clear hcr
        clear c0 c1 c2 c3 lt d0 d1 d2 d3 ld
        have gr2 := gr.out
        rcases hcase.out with ⟨rfl, rfl, rfl⟩ | ⟨hne0, rfl, rfl⟩ | ⟨hne0, hxy, rfl⟩
        · unfold hdO at hnw
          dsimp only [Option.isSome] at hnw
          replace hnw := Lib.hid (hT.ask K (fun F h => hnw.out F _ _ h))
          obtain ⟨c0, c1, c2, c3, lt⟩ := hT.x.cells
          obtain ⟨d0, d1, d2, d3, ld⟩ := hT.y.cells
          clear hT
          go_wp2_with fail
          refine hnw.out.mono ?_
          rintro e w12 ⟨rfl, hT⟩
          clear hnw
          clear c0 c1 c2 c3 lt d0 d1 d2 d3 ld
          obtain ⟨c0, c1, c2, c3, lt⟩ := hT.x.cells
          obtain ⟨d0, d1, d2, d3, ld⟩ := hT.y.cells
          have hZ := Bx.made hT.x.bel (.int .i64 (t + 1)) (.int .i64 (n)) (.int .i64 (size)) (.int .i64 (seq))
          replace hT := hT.later K ((Below.refl w12.heap.size w12).alloc (Nat.le_refl _) (.cells #[.int .i64 (t + 1), .int .i64 (n), .int .i64 (size), .int .i64 (seq)] 23))
          replace hrd := Lib.hid (hT.ask2 K hZ (fun F h => hrd.out F _ _ h))
          have htl : (xs.toList == xs.toList) = true := beq_self_eq_true _
          clear hZ hT
          go_wp2_with fail
          generalize w12.alloc (.cells #[.int .i64 (t + 1), .int .i64 (n), .int .i64 (size), .int .i64 (seq)] 23) = w13 at *
          generalize w12.heap.size = bz at *
          refine hrd.out.mono ?_
          rintro e w14 ⟨rfl, hT, hZ⟩
          clear hrd
          clear c0 c1 c2 c3 lt d0 d1 d2 d3 ld
          obtain ⟨c0, c1, c2, c3, lt⟩ := hT.x.cells
          obtain ⟨d0, d1, d2, d3, ld⟩ := hT.y.cells
          go_wp2_with fail
          refine (hlb.out _).mono ?_
          rintro e w15 ⟨rfl, hb⟩
          replace hT := hT.later K hb
          replace hZ := hZ.later hb
          clear hb hlb
          clear c0 c1 c2 c3 lt d0 d1 d2 d3 ld
          obtain ⟨c0, c1, c2, c3, lt⟩ := hT.x.cells
          obtain ⟨d0, d1, d2, d3, ld⟩ := hT.y.cells
          go_wp2_with fail
          refine (hse.out _).mono ?_
          rintro e w16 ⟨rfl, hb⟩
          replace hT := hT.later K hb
          replace hZ := hZ.later hb
          clear hb hse
          clear c0 c1 c2 c3 lt d0 d1 d2 d3 ld
          obtain ⟨c0, c1, c2, c3, lt⟩ := hT.x.cells
          obtain ⟨d0, d1, d2, d3, ld⟩ := hT.y.cells
          obtain ⟨z0, z1, z2, z3, lz⟩ := hZ.cells
          replace hgr := Lib.hid (hT.ask K (fun F h => hgr.out F _ _ h))
          clear hT hZ
          go_wp2_with fail
          clear z0 z1 z2 z3 lz
          clear c0 c1 c2 c3 lt d0 d1 d2 d3 ld
          refine hgr.out.mono ?_
          rintro e w17 ⟨rfl, hT⟩
          have hbl := hT.x.bel
          clear hT hgr
          go_wp2
          go_ret
          exact ⟨by first | rfl | simp [gr2], hbl⟩
        · unfold hdO at hnw
          dsimp only [Option.isSome] at hnw
          replace hnw := Lib.hid (hT.ask K (fun F h => hnw.out F _ _ h))
          obtain ⟨c0, c1, c2, c3, lt⟩ := hT.x.cells
          obtain ⟨d0, d1, d2, d3, ld⟩ := hT.y.cells
          clear hT
          go_wp2_with fail
          refine hnw.out.mono ?_
          rintro e w12 ⟨rfl, hT⟩
          clear hnw
          clear c0 c1 c2 c3 lt d0 d1 d2 d3 ld
          obtain ⟨c0, c1, c2, c3, lt⟩ := hT.x.cells
          obtain ⟨d0, d1, d2, d3, ld⟩ := hT.y.cells
          have hZ := Bx.made hT.x.bel (.int .i64 (t + 1)) (.int .i64 (n)) (.int .i64 (size)) (.int .i64 (seq))
          replace hT := hT.later K ((Below.refl w12.heap.size w12).alloc (Nat.le_refl _) (.cells #[.int .i64 (t + 1), .int .i64 (n), .int .i64 (size), .int .i64 (seq)] 23))
          replace hrd := Lib.hid (hT.ask2 K hZ (fun F h => hrd.out F _ _ h))
          have htl : (xs.toList == xs.toList) = true := beq_self_eq_true _
          clear hZ hT
          go_wp2_with fail
          generalize w12.alloc (.cells #[.int .i64 (t + 1), .int .i64 (n), .int .i64 (size), .int .i64 (seq)] 23) = w13 at *
          generalize w12.heap.size = bz at *
          refine hrd.out.mono ?_
          rintro e w14 ⟨rfl, hT, hZ⟩
          clear hrd
          clear c0 c1 c2 c3 lt d0 d1 d2 d3 ld
          obtain ⟨c0, c1, c2, c3, lt⟩ := hT.x.cells
          obtain ⟨d0, d1, d2, d3, ld⟩ := hT.y.cells
          go_wp2_with fail
          refine (hlb.out _).mono ?_
          rintro e w15 ⟨rfl, hb⟩
          replace hT := hT.later K hb
          replace hZ := hZ.later hb
          clear hb hlb
          clear c0 c1 c2 c3 lt d0 d1 d2 d3 ld
          obtain ⟨c0, c1, c2, c3, lt⟩ := hT.x.cells
          obtain ⟨d0, d1, d2, d3, ld⟩ := hT.y.cells
          go_wp2_with fail
          refine (hse.out _).mono ?_
          rintro e w16 ⟨rfl, hb⟩
          replace hT := hT.later K hb
          replace hZ := hZ.later hb
          clear hb hse
          clear c0 c1 c2 c3 lt d0 d1 d2 d3 ld
          obtain ⟨c0, c1, c2, c3, lt⟩ := hT.x.cells
          obtain ⟨d0, d1, d2, d3, ld⟩ := hT.y.cells
          obtain ⟨z0, z1, z2, z3, lz⟩ := hZ.cells
          replace hgr := Lib.hid (hT.ask K (fun F h => hgr.out F _ _ h))
          clear hT hZ
          go_wp2_with fail
          clear z0 z1 z2 z3 lz
          clear c0 c1 c2 c3 lt d0 d1 d2 d3 ld
          refine hgr.out.mono ?_
          rintro e w17 ⟨rfl, hT⟩
          have hbl := hT.x.bel
          clear hT hgr
          go_wp2
          go_ret
          exact ⟨by first | rfl | simp [gr2], hbl⟩
        · unfold hdO at hnw
          dsimp only [Option.isSome] at hnw
          replace hnw := Lib.hid (hT.ask K (fun F h => hnw.out F _ _ h))
          obtain ⟨c0, c1, c2, c3, lt⟩ := hT.x.cells
          obtain ⟨d0, d1, d2, d3, ld⟩ := hT.y.cells
          clear hT
          go_wp2_with fail
          refine hnw.out.mono ?_
          rintro e w12 ⟨rfl, hT⟩
          clear hnw
          clear c0 c1 c2 c3 lt d0 d1 d2 d3 ld
          obtain ⟨c0, c1, c2, c3, lt⟩ := hT.x.cells
          obtain ⟨d0, d1, d2, d3, ld⟩ := hT.y.cells
          have hZ := Bx.made hT.x.bel (.int .i64 (t)) (.int .i64 (n)) (.int .i64 (z)) (.int .i64 (q))
          replace hT := hT.later K ((Below.refl w12.heap.size w12).alloc (Nat.le_refl _) (.cells #[.int .i64 (t), .int .i64 (n), .int .i64 (z), .int .i64 (q)] 23))
          replace hrd := Lib.hid (hT.ask2 K hZ (fun F h => hrd.out F _ _ h))
          have htl : (xs.toList == ys.toList) = false := by rw [toList_beq, decide_eq_false hxy]
          clear hZ hT
          go_wp2_with fail
          generalize w12.alloc (.cells #[.int .i64 (t), .int .i64 (n), .int .i64 (z), .int .i64 (q)] 23) = w13 at *
          generalize w12.heap.size = bz at *
          refine hrd.out.mono ?_
          rintro e w14 ⟨rfl, hT, hZ⟩
          clear hrd
          clear c0 c1 c2 c3 lt d0 d1 d2 d3 ld
          obtain ⟨c0, c1, c2, c3, lt⟩ := hT.x.cells
          obtain ⟨d0, d1, d2, d3, ld⟩ := hT.y.cells
          go_wp2_with fail
          refine (hlb.out _).mono ?_
          rintro e w15 ⟨rfl, hb⟩
          replace hT := hT.later K hb
          replace hZ := hZ.later hb
          clear hb hlb
          clear c0 c1 c2 c3 lt d0 d1 d2 d3 ld
          obtain ⟨c0, c1, c2, c3, lt⟩ := hT.x.cells
          obtain ⟨d0, d1, d2, d3, ld⟩ := hT.y.cells
          go_wp2_with fail
          refine (hse.out _).mono ?_
          rintro e w16 ⟨rfl, hb⟩
          replace hT := hT.later K hb
          replace hZ := hZ.later hb
          clear hb hse
          clear c0 c1 c2 c3 lt d0 d1 d2 d3 ld
          obtain ⟨c0, c1, c2, c3, lt⟩ := hT.x.cells
          obtain ⟨d0, d1, d2, d3, ld⟩ := hT.y.cells
          obtain ⟨z0, z1, z2, z3, lz⟩ := hZ.cells
          replace hgr := Lib.hid (hT.ask K (fun F h => hgr.out F _ _ h))
          clear hT hZ
          go_wp2_with fail
          clear z0 z1 z2 z3 lz
          clear c0 c1 c2 c3 lt d0 d1 d2 d3 ld
          refine hgr.out.mono ?_
          rintro e w17 ⟨rfl, hT⟩
          have hbl := hT.x.bel
          clear hT hgr
          go_wp2
          go_ret
          exact ⟨by first | rfl | simp [gr2], hbl⟩
      · unfold headA Hd.next Hd.prev at *
        obtain ⟨t, n, z, q⟩ := h
        dsimp only at *
        clear hp1
        go_enter Try.func6, Try.ntmps6
        have hX := Bx.made (Below.refl w.heap.size w) (.int .i64 t) (.int .i64 n) (.int .i64 z) (.int .i64 q)
        go_wp2_with fail
        generalize w.alloc (.cells #[.int .i64 t, .int .i64 n, .int .i64 z, .int .i64 q] 23) = w0 at *
        generalize w.heap.size = bk at *
        refine (hal.out _).mono ?_
        rintro e w1 ⟨rfl, hb⟩
        replace hX := hX.later hb
        clear hb
        obtain ⟨c0, c1, c2, c3, lt⟩ := hX.cells
        have hY := Bx.made hX.bel (.int .i64 (t + 1)) (.int .i64 n) (.int .i64 size) (.int .i64 seq)
        replace hX := hX.later ((Below.refl w1.heap.size w1).alloc (Nat.le_refl _) (.cells #[.int .i64 (t + 1), .int .i64 n, .int .i64 size, .int .i64 seq] 23))
        go_wp2_with fail
        clear c0 c1 c2 c3 lt
        generalize w1.alloc (.cells #[.int .i64 (t + 1), .int .i64 n, .int .i64 size, .int .i64 seq] 23) = w2 at *
        generalize w1.heap.size = bn at *
        refine (hg1.out _).mono ?_
        rintro e w3 ⟨rfl, hb⟩
        replace hX := hX.later hb
        replace hY := hY.later hb
        clear hb
        obtain ⟨c0, c1, c2, c3, lt⟩ := hX.cells
        obtain ⟨d0, d1, d2, d3, ld⟩ := hY.cells
        go_wp2_with fail
        clear c0 c1 c2 c3 lt d0 d1 d2 d3 ld
        refine (hg2.out _).mono ?_
        rintro e w4 ⟨rfl, hb⟩
        replace hX := hX.later hb
        replace hY := hY.later hb
        clear hb hg1 hg2 hal
        go_wp2_with fail
        refine (hnew.out _).mono ?_
        rintro e w5 hm
        obtain ⟨p, _, rfl, -⟩ := id hm
        have hT := Cw.made hX hY hm
        clear hm hX hY hnew
        replace hp2 := Lib.hid (hT.op (fun F h => hp2.out F _ _ h))
        obtain ⟨c0, c1, c2, c3, lt⟩ := hT.x.cells
        obtain ⟨d0, d1, d2, d3, ld⟩ := hT.y.cells
        clear hT
        go_wp2_with fail
        refine hp2.out.mono ?_
        rintro e w7 ⟨rfl, hT⟩
        clear hp2
        clear c0 c1 c2 c3 lt d0 d1 d2 d3 ld
        replace harm := Lib.hid (hT.op (fun F h => harm.out F _ _ h))
        obtain ⟨c0, c1, c2, c3, lt⟩ := hT.x.cells
        obtain ⟨d0, d1, d2, d3, ld⟩ := hT.y.cells
        clear hT
        go_wp2_with fail
        refine harm.out.mono ?_
        rintro e w8 ⟨rfl, hT⟩
        clear harm
        clear c0 c1 c2 c3 lt d0 d1 d2 d3 ld
        replace hp3 := Lib.hid (hT.op (fun F h => hp3.out F _ _ h))
        obtain ⟨c0, c1, c2, c3, lt⟩ := hT.x.cells
        obtain ⟨d0, d1, d2, d3, ld⟩ := hT.y.cells
        clear hT
        go_wp2_with fail
        refine hp3.out.mono ?_
        rintro e w9 ⟨rfl, hT⟩
        clear hp3
        clear c0 c1 c2 c3 lt d0 d1 d2 d3 ld
        replace hcr := Lib.hid (hT.op (fun F h => hcr.out F _ _ h))
        obtain ⟨c0, c1, c2, c3, lt⟩ := hT.x.cells
        obtain ⟨d0, d1, d2, d3, ld⟩ := hT.y.cells
        clear hT
        go_wp2_with fail
        refine hcr.out.mono ?_
        rintro e w10 ⟨rfl, hT⟩
        clear hcr
        clear c0 c1 c2 c3 lt d0 d1 d2 d3 ld
        have gr2 := gr.out
        rcases hcase.out with ⟨rfl, rfl, rfl⟩ | ⟨hne0, rfl, rfl⟩ | ⟨hne0, hxy, rfl⟩
        · unfold hdO at hnw
          dsimp only [Option.isSome] at hnw
          replace hnw := Lib.hid (hT.ask K (fun F h => hnw.out F _ _ h))
          obtain ⟨c0, c1, c2, c3, lt⟩ := hT.x.cells
          obtain ⟨d0, d1, d2, d3, ld⟩ := hT.y.cells
          clear hT
          go_wp2_with fail
          refine hnw.out.mono ?_
          rintro e w12 ⟨rfl, hT⟩
          clear hnw
          clear c0 c1 c2 c3 lt d0 d1 d2 d3 ld
          obtain ⟨c0, c1, c2, c3, lt⟩ := hT.x.cells
          obtain ⟨d0, d1, d2, d3, ld⟩ := hT.y.cells
          have hZ := Bx.made hT.x.bel (.int .i64 (t + 1)) (.int .i64 (n)) (.int .i64 (size)) (.int .i64 (seq))
          replace hT := hT.later K ((Below.refl w12.heap.size w12).alloc (Nat.le_refl _) (.cells #[.int .i64 (t + 1), .int .i64 (n), .int .i64 (size), .int .i64 (seq)] 23))
          replace hrd := Lib.hid (hT.ask2 K hZ (fun F h => hrd.out F _ _ h))
          have htl : (xs.toList == xs.toList) = true := beq_self_eq_true _
          clear hZ hT
          go_wp2_with fail
          generalize w12.alloc (.cells #[.int .i64 (t + 1), .int .i64 (n), .int .i64 (size), .int .i64 (seq)] 23) = w13 at *
          generalize w12.heap.size = bz at *
          refine hrd.out.mono ?_
          rintro e w14 ⟨rfl, hT, hZ⟩
          clear hrd
          clear c0 c1 c2 c3 lt d0 d1 d2 d3 ld
          obtain ⟨c0, c1, c2, c3, lt⟩ := hT.x.cells
          obtain ⟨d0, d1, d2, d3, ld⟩ := hT.y.cells
          go_wp2_with fail
          refine (hlb.out _).mono ?_
          rintro e w15 ⟨rfl, hb⟩
          replace hT := hT.later K hb
          replace hZ := hZ.later hb
          clear hb hlb
          clear c0 c1 c2 c3 lt d0 d1 d2 d3 ld
          obtain ⟨c0, c1, c2, c3, lt⟩ := hT.x.cells
          obtain ⟨d0, d1, d2, d3, ld⟩ := hT.y.cells
          go_wp2_with fail
          refine (hse.out _).mono ?_
          rintro e w16 ⟨rfl, hb⟩
          replace hT := hT.later K hb
          replace hZ := hZ.later hb
          clear hb hse
          clear c0 c1 c2 c3 lt d0 d1 d2 d3 ld
          obtain ⟨c0, c1, c2, c3, lt⟩ := hT.x.cells
          obtain ⟨d0, d1, d2, d3, ld⟩ := hT.y.cells
          obtain ⟨z0, z1, z2, z3, lz⟩ := hZ.cells
          replace hgr := Lib.hid (hT.ask K (fun F h => hgr.out F _ _ h))
          clear hT hZ
          go_wp2_with fail
          clear z0 z1 z2 z3 lz
          clear c0 c1 c2 c3 lt d0 d1 d2 d3 ld
          refine hgr.out.mono ?_
          rintro e w17 ⟨rfl, hT⟩
          have hbl := hT.x.bel
          clear hT hgr
          go_wp2
          go_ret
          exact ⟨by first | rfl | simp [gr2], hbl⟩
        · unfold hdO at hnw
          dsimp only [Option.isSome] at hnw
          replace hnw := Lib.hid (hT.ask K (fun F h => hnw.out F _ _ h))
          obtain ⟨c0, c1, c2, c3, lt⟩ := hT.x.cells
          obtain ⟨d0, d1, d2, d3, ld⟩ := hT.y.cells
          clear hT
          go_wp2_with fail
          refine hnw.out.mono ?_
          rintro e w12 ⟨rfl, hT⟩
          clear hnw
          clear c0 c1 c2 c3 lt d0 d1 d2 d3 ld
          obtain ⟨c0, c1, c2, c3, lt⟩ := hT.x.cells
          obtain ⟨d0, d1, d2, d3, ld⟩ := hT.y.cells
          have hZ := Bx.made hT.x.bel (.int .i64 (t + 1)) (.int .i64 (n)) (.int .i64 (size)) (.int .i64 (seq))
          replace hT := hT.later K ((Below.refl w12.heap.size w12).alloc (Nat.le_refl _) (.cells #[.int .i64 (t + 1), .int .i64 (n), .int .i64 (size), .int .i64 (seq)] 23))
          replace hrd := Lib.hid (hT.ask2 K hZ (fun F h => hrd.out F _ _ h))
          have htl : (xs.toList == xs.toList) = true := beq_self_eq_true _
          clear hZ hT
          go_wp2_with fail
          generalize w12.alloc (.cells #[.int .i64 (t + 1), .int .i64 (n), .int .i64 (size), .int .i64 (seq)] 23) = w13 at *
          generalize w12.heap.size = bz at *
          refine hrd.out.mono ?_
          rintro e w14 ⟨rfl, hT, hZ⟩
          clear hrd
          clear c0 c1 c2 c3 lt d0 d1 d2 d3 ld
          obtain ⟨c0, c1, c2, c3, lt⟩ := hT.x.cells
          obtain ⟨d0, d1, d2, d3, ld⟩ := hT.y.cells
          go_wp2_with fail
          refine (hlb.out _).mono ?_
          rintro e w15 ⟨rfl, hb⟩
          replace hT := hT.later K hb
          replace hZ := hZ.later hb
          clear hb hlb
          clear c0 c1 c2 c3 lt d0 d1 d2 d3 ld
          obtain ⟨c0, c1, c2, c3, lt⟩ := hT.x.cells
          obtain ⟨d0, d1, d2, d3, ld⟩ := hT.y.cells
          go_wp2_with fail
          refine (hse.out _).mono ?_
          rintro e w16 ⟨rfl, hb⟩
          replace hT := hT.later K hb
          replace hZ := hZ.later hb
          clear hb hse
          clear c0 c1 c2 c3 lt d0 d1 d2 d3 ld
          obtain ⟨c0, c1, c2, c3, lt⟩ := hT.x.cells
          obtain ⟨d0, d1, d2, d3, ld⟩ := hT.y.cells
          obtain ⟨z0, z1, z2, z3, lz⟩ := hZ.cells
          replace hgr := Lib.hid (hT.ask K (fun F h => hgr.out F _ _ h))
          clear hT hZ
          go_wp2_with fail
          clear z0 z1 z2 z3 lz
          clear c0 c1 c2 c3 lt d0 d1 d2 d3 ld
          refine hgr.out.mono ?_
          rintro e w17 ⟨rfl, hT⟩
          have hbl := hT.x.bel
          clear hT hgr
          go_wp2
          go_ret
          exact ⟨by first | rfl | simp [gr2], hbl⟩
        · unfold hdO at hnw
          dsimp only [Option.isSome] at hnw
          replace hnw := Lib.hid (hT.ask K (fun F h => hnw.out F _ _ h))
          obtain ⟨c0, c1, c2, c3, lt⟩ := hT.x.cells
          obtain ⟨d0, d1, d2, d3, ld⟩ := hT.y.cells
          clear hT
          go_wp2_with fail
          refine hnw.out.mono ?_
          rintro e w12 ⟨rfl, hT⟩
          clear hnw
          clear c0 c1 c2 c3 lt d0 d1 d2 d3 ld
          obtain ⟨c0, c1, c2, c3, lt⟩ := hT.x.cells
          obtain ⟨d0, d1, d2, d3, ld⟩ := hT.y.cells
          have hZ := Bx.made hT.x.bel (.int .i64 (t)) (.int .i64 (n)) (.int .i64 (z)) (.int .i64 (q))
          replace hT := hT.later K ((Below.refl w12.heap.size w12).alloc (Nat.le_refl _) (.cells #[.int .i64 (t), .int .i64 (n), .int .i64 (z), .int .i64 (q)] 23))
          replace hrd := Lib.hid (hT.ask2 K hZ (fun F h => hrd.out F _ _ h))
          have htl : (xs.toList == ys.toList) = false := by rw [toList_beq, decide_eq_false hxy]
          clear hZ hT
          go_wp2_with fail
          generalize w12.alloc (.cells #[.int .i64 (t), .int .i64 (n), .int .i64 (z), .int .i64 (q)] 23) = w13 at *
          generalize w12.heap.size = bz at *
          refine hrd.out.mono ?_
          rintro e w14 ⟨rfl, hT, hZ⟩
          clear hrd
          clear c0 c1 c2 c3 lt d0 d1 d2 d3 ld
          obtain ⟨c0, c1, c2, c3, lt⟩ := hT.x.cells
          obtain ⟨d0, d1, d2, d3, ld⟩ := hT.y.cells
          go_wp2_with fail
          refine (hlb.out _).mono ?_
          rintro e w15 ⟨rfl, hb⟩
          replace hT := hT.later K hb
          replace hZ := hZ.later hb
          clear hb hlb
          clear c0 c1 c2 c3 lt d0 d1 d2 d3 ld
          obtain ⟨c0, c1, c2, c3, lt⟩ := hT.x.cells
          obtain ⟨d0, d1, d2, d3, ld⟩ := hT.y.cells
          go_wp2_with fail
          refine (hse.out _).mono ?_
          rintro e w16 ⟨rfl, hb⟩
          replace hT := hT.later K hb
          replace hZ := hZ.later hb
          clear hb hse
          clear c0 c1 c2 c3 lt d0 d1 d2 d3 ld
          obtain ⟨c0, c1, c2, c3, lt⟩ := hT.x.cells
          obtain ⟨d0, d1, d2, d3, ld⟩ := hT.y.cells
          obtain ⟨z0, z1, z2, z3, lz⟩ := hZ.cells
          replace hgr := Lib.hid (hT.ask K (fun F h => hgr.out F _ _ h))
          clear hT hZ
          go_wp2_with fail
          clear z0 z1 z2 z3 lz
          clear c0 c1 c2 c3 lt d0 d1 d2 d3 ld
          refine hgr.out.mono ?_
          rintro e w17 ⟨rfl, hT⟩
          have hbl := hT.x.bel
          clear hT hgr
          go_wp2
          go_ret
          exact ⟨by first | rfl | simp [gr2], hbl⟩
end Go.Proofs.Ytgolddcmhjdmdaa
