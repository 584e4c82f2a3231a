/- SlotCrash' walk, out of the landed contracts. -/
import Derived.Test.YtageeodmpbngaaaYIf
namespace Go.Proofs.Ytageeodmpbngaaa
open Go.RowKit Go.Sort Cr

set_option maxRecDepth 100000 in
set_option maxHeartbeats 4000000 in
theorem slotCrash_any {Dk : (Nat → Prop) → World → Nat → St → Prop} (K : LandedDk Dk) (S : LandedSt Dk) (L : LandedSl Dk) (sectors : Int) (hs : InI sectors) (a : ByteArray) (ha : a.size ≤ 140737488351232) (b : ByteArray) (hb : b.size ≤ 140737488351232) (fail : Int) (hf : InI fail)
    (mask : Nat) (hmask : mask < 18446744073709551616) (torn cut : Int) (w : World) :
    Calls Try.prog 5 #[.int .i64 sectors, .string a, .string b, .int .i64 fail, .int .u64 ((mask : Nat) : Int), .int .i64 torn, .int .i64 cut] w fun e w' => e = .returned (.bool true) ∧ Below w.heap.size w w' := by
  have hal := Lib.hid (slotAlive_any K L)
  have hsum : IntKind.i64.wrap ((a.size : Int) + (b.size : Int)) = (a.size : Int) + (b.size : Int) := by rw [IntKind.wrap_i64]; omega
  by_cases hg : sectors < 12 ∨ 60 < sectors ∨ 3000 < (a.size : Int) + (b.size : Int) ∨ fail < 0
  · have hb2 : sectors < 12 ∨ (¬ sectors < 12 ∧ 60 < sectors) ∨ (¬ sectors < 12 ∧ ¬ 60 < sectors ∧ 3000 < (a.size : Int) + (b.size : Int)) ∨ (¬ sectors < 12 ∧ ¬ 60 < sectors ∧ ¬ 3000 < (a.size : Int) + (b.size : Int) ∧ fail < 0) := by omega
    clear hg hs hf
    rcases hb2 with q | ⟨q, q'⟩ | ⟨q, q', q''⟩ | ⟨q, q', q'', q3⟩
    all_goals
      go_enter Try.func5, Try.ntmps5
      go_wp2_with fail
      refine (hal.out _).mono ?_
      rintro e w1 ⟨rfl, hb1⟩
      go_wp2
      go_ret
      exact ⟨rfl, hb1⟩
  · obtain ⟨m, rfl⟩ := Int.eq_ofNat_of_zero_le (show 0 ≤ sectors by omega)
    have h12 : 12 ≤ m := by omega
    have hm : m ≤ 4096 := by omega
    have g1 : ¬ ((m : Nat) : Int) < 12 := by omega
    have g2 : ¬ 60 < ((m : Nat) : Int) := by omega
    have g3 : ¬ 3000 < (a.size : Int) + (b.size : Int) := by omega
    have g4 : ¬ fail < 0 := by omega
    have ca := count_30 (n := a.size) (by omega)
    have cb := count_30 (n := b.size) (by omega)
    have hje := plan_ends h12
    have hof := Lib.hid (fun W => L.of m W h12 hm)
    have hnew := Lib.hid (fun W => K.new ((m : Nat) : Int) W (by omega) (by omega))
    have hf1 := Lib.hid (fun W => L.fits m (a.size : Int) W h12 hm ⟨by omega, by omega⟩)
    have hf2 := Lib.hid (fun W => L.fits m (b.size : Int) W h12 hm ⟨by omega, by omega⟩)
    cases fa : fitsP m (a.size : Int) with
    | false =>
      rw [fa] at hf1
      unfold planV planA at hof hf1
      generalize ((2 + sizeP m : Nat) : Int) = S at *
      generalize ((2 + sizeP m + sizeP m : Nat) : Int) = J at *
      generalize ((sizeP m : Nat) : Int) = Z at *
      generalize St.new ((m : Nat) : Int) = st0 at *
      clear hs hg hf hf2 ca cb
      go_enter Try.func5, Try.ntmps5
      go_wp2_with fail
      refine (hal.out _).mono ?_
      rintro e w1 ⟨rfl, hb1⟩
      go_wp2_with fail
      refine (hof.out _).mono ?_
      rintro e w3 ⟨rfl, hb2⟩
      replace hb1 := hb1.trans (hb2.mono hb1.size)
      clear hb2
      go_wp2_with fail
      refine (hnew.out _).mono ?_
      rintro e w4 hm4
      obtain ⟨p, _, rfl, -⟩ := id hm4
      have hT := Sl.made hb1 hm4
      replace hf1 := Lib.hid (hT.ask K (fun F h => hf1.out _))
      clear hm4 hb1 hof hnew
      obtain ⟨b0, b1, b2, b3, b4, bl⟩ := hT.cells
      clear hT
      go_wp2_with fail
      refine hf1.out.mono ?_
      rintro e w5 ⟨rfl, hT⟩
      have hbl := hT.below
      clear hf1 hT b0 b1 b2 b3 b4 bl
      go_wp2
      go_ret
      exact ⟨rfl, hbl⟩
    | true =>
      rw [fa] at hf1
      cases fb : fitsP m (b.size : Int) with
      | false =>
        rw [fb] at hf2
        unfold planV planA at hof hf1 hf2
        generalize ((2 + sizeP m : Nat) : Int) = S at *
        generalize ((2 + sizeP m + sizeP m : Nat) : Int) = J at *
        generalize ((sizeP m : Nat) : Int) = Z at *
        generalize St.new ((m : Nat) : Int) = st0 at *
        clear hs hg hf ca cb
        go_enter Try.func5, Try.ntmps5
        go_wp2_with fail
        refine (hal.out _).mono ?_
        rintro e w1 ⟨rfl, hb1⟩
        go_wp2_with fail
        refine (hof.out _).mono ?_
        rintro e w3 ⟨rfl, hb2⟩
        replace hb1 := hb1.trans (hb2.mono hb1.size)
        clear hb2
        go_wp2_with fail
        refine (hnew.out _).mono ?_
        rintro e w4 hm4
        obtain ⟨p, _, rfl, -⟩ := id hm4
        have hT := Sl.made hb1 hm4
        replace hf1 := Lib.hid (hT.ask K (fun F h => hf1.out _))
        clear hm4 hb1 hof hnew
        obtain ⟨b0, b1, b2, b3, b4, bl⟩ := hT.cells
        clear hT
        go_wp2_with fail
        refine hf1.out.mono ?_
        rintro e w5 ⟨rfl, hT⟩
        replace hf2 := Lib.hid (hT.ask K (fun F h => hf2.out _))
        clear hf1 b0 b1 b2 b3 b4 bl
        obtain ⟨b0, b1, b2, b3, b4, bl⟩ := hT.cells
        clear hT
        go_wp2_with fail
        refine hf2.out.mono ?_
        rintro e w6 ⟨rfl, hT⟩
        have hbl := hT.below
        clear hf2 hT b0 b1 b2 b3 b4 bl
        go_wp2
        go_ret
        exact ⟨rfl, hbl⟩
      | true =>
        rw [fb] at hf2
        obtain ⟨st1, er, st2, e1, C1, R1, e2, O2, O3, hl3, t0, gr, t1⟩ := crash_all h12 hm a b (by omega) fa fb fail hf.2 mask torn cut
        have hp1 := Lib.hid (fun F W p h => L.put F W p (St.new ((m : Nat) : Int)) m 0 1 a h12 hm (by unfold InI; omega) h ((St.Calm.new m hm).room hm (by omega)) ha)
        have hp2 := Lib.hid (fun F W p h => L.put F W p (st1.armed fail) m 1 2 b h12 hm (by unfold InI; omega) h (R1.less (by omega)) hb)
        have harm := Lib.hid (fun F W p h => K.arm F W p st1 fail h (C1.ok hm (by omega)))
        have hcr := Lib.hid (fun F W p h => K.crash F W p st2 mask torn cut h O2 hmask)
        have hq1 := Lib.hid (fun F W p h => L.get F W p (st2.crashed mask torn cut) m 0 1 (a.size : Int) h12 hm (by unfold InI; omega) h O3 (by omega))
        have hq2 := Lib.hid (fun F W p h => L.get F W p (st2.crashed mask torn cut) m 1 2 (b.size : Int) h12 hm (by unfold InI; omega) h O3 (by omega))
        have hgr := Lib.hid (fun F W p h => S.great F W p (st2.crashed mask torn cut) h O3)
        have hrd := Lib.hid (fun i F W p h => K.read F W p (st2.crashed mask torn cut) i h O3)
        rw [show spotP m 0 = 2 from rfl, e1] at hp1
        rw [show spotP m 1 = 2 + sizeP m from rfl, e2] at hp2
        rw [show spotP m 0 = 2 from rfl, t0] at hq1
        rw [show spotP m 1 = 2 + sizeP m from rfl] at hq2
        generalize (st2.crashed mask torn cut).take ((2 + sizeP m : Nat) : Int) ((2 + sizeP m + sizeP m : Nat) : Int) 2 (b.size : Int) = tk at *
        unfold planV planA at hof hf1 hf2 hp1 hp2 hq1 hq2
        have hrs : ∀ k, k < countN b.size → rdS (st2.crashed mask torn cut) (((2 + sizeP m : Nat) : Int) + ((k : Nat) : Int)) = (st2.crashed mask torn cut).now (2 + sizeP m + k) ∧ rdE (st2.crashed mask torn cut) (((2 + sizeP m : Nat) : Int) + ((k : Nat) : Int)) = 0 := fun k hk => by
          have hfb := fb
          rw [fits_count] at hfb
          have := of_decide_eq_true hfb
          rw [show ((2 + sizeP m : Nat) : Int) + ((k : Nat) : Int) = ((2 + sizeP m + k : Nat) : Int) by omega]
          unfold rdS rdE
          rw [if_pos ⟨by omega, by omega⟩, if_pos ⟨by omega, by omega⟩, Int.toNat_natCast]
          exact ⟨rfl, rfl⟩
        generalize (st2.crashed mask torn cut).great = gt at *
        generalize hst3 : st2.crashed mask torn cut = st3 at *
        clear hs hg hf ca e1 e2 C1 R1 O2 O3 t0 hst3 fa fb hl3
        have hc30 := cb
        have hcnt := Lib.hid (fun W => refcount_any b.size (by omega) W)
        generalize hcc : countN b.size = c at *
        replace hcc := Lib.hid hcc
        replace gr := Lib.hid gr
        replace t1 := Lib.hid t1
        replace hrs := Lib.hid hrs
        have hS2 : ((2 + sizeP m : Nat) : Int) ≤ 4096 := by have := sizeP_le m; omega
        generalize sizeP m = z at *
        generalize St.new ((m : Nat) : Int) = st0 at *
        generalize hSS : ((2 + z : Nat) : Int) = SS at *
        generalize ((2 + z + z : Nat) : Int) = J at *
        generalize ((z : Nat) : Int) = Z at *
        have hS0 : 0 ≤ SS := by omega
        replace hSS := Lib.hid hSS
        have g5 : ¬ ((0 : Int) ≠ 0) := fun h => h rfl
        go_enter Try.func5, Try.ntmps5
        go_wp2_with fail
        refine (hal.out _).mono ?_
        rintro e w1 ⟨rfl, hb1⟩
        go_wp2_with fail
        refine (hof.out _).mono ?_
        rintro e w3 ⟨rfl, hb2⟩
        replace hb1 := hb1.trans (hb2.mono hb1.size)
        clear hb2
        go_wp2_with fail
        refine (hnew.out _).mono ?_
        rintro e w4 hm4
        obtain ⟨p, _, rfl, -⟩ := id hm4
        have hT := Sl.made hb1 hm4
        generalize w3.heap.size = bk at *
        replace hf1 := Lib.hid (hT.ask K (fun F h => hf1.out _))
        clear hm4 hb1 hof hnew
        obtain ⟨b0, b1, b2, b3, b4, bl⟩ := hT.cells
        clear hT
        go_wp2_with fail
        refine hf1.out.mono ?_
        rintro e w5 ⟨rfl, hT⟩
        replace hf2 := Lib.hid (hT.ask K (fun F h => hf2.out _))
        clear hf1 b0 b1 b2 b3 b4 bl
        obtain ⟨b0, b1, b2, b3, b4, bl⟩ := hT.cells
        clear hT
        go_wp2_with fail
        refine hf2.out.mono ?_
        rintro e w6 ⟨rfl, hT⟩
        replace hp1 := Lib.hid (hT.op (fun F h => hp1.out F _ _ h))
        clear hf2 b0 b1 b2 b3 b4 bl
        obtain ⟨b0, b1, b2, b3, b4, bl⟩ := hT.cells
        clear hT
        go_wp2_with fail
        refine hp1.out.mono ?_
        rintro e w7 ⟨rfl, hT⟩
        replace harm := Lib.hid (hT.op (fun F h => harm.out F _ _ h))
        clear hp1 b0 b1 b2 b3 b4 bl
        obtain ⟨b0, b1, b2, b3, b4, bl⟩ := hT.cells
        clear hT
        go_wp2_with fail
        refine harm.out.mono ?_
        rintro e w8 ⟨rfl, hT⟩
        replace hp2 := Lib.hid (hT.op (fun F h => hp2.out F _ _ h))
        clear harm b0 b1 b2 b3 b4 bl
        obtain ⟨b0, b1, b2, b3, b4, bl⟩ := hT.cells
        clear hT
        go_wp2_with fail
        refine hp2.out.mono ?_
        rintro e w9 ⟨rfl, hT⟩
        replace hcr := Lib.hid (hT.op (fun F h => hcr.out F _ _ h))
        clear hp2 b0 b1 b2 b3 b4 bl
        obtain ⟨b0, b1, b2, b3, b4, bl⟩ := hT.cells
        clear hT
        go_wp2_with fail
        refine hcr.out.mono ?_
        rintro e w10 ⟨rfl, hT⟩
        replace hq1 := Lib.hid (hT.ask K (fun F h => hq1.out F _ _ h))
        clear hcr b0 b1 b2 b3 b4 bl
        obtain ⟨b0, b1, b2, b3, b4, bl⟩ := hT.cells
        clear hT
        go_wp2_with fail
        refine hq1.out.mono ?_
        rintro e w11 ⟨rfl, hT⟩
        replace hq2 := Lib.hid (hT.ask K (fun F h => hq2.out F _ _ h))
        clear hq1 b0 b1 b2 b3 b4 bl
        obtain ⟨b0, b1, b2, b3, b4, bl⟩ := hT.cells
        clear hT
        go_wp2_with fail
        refine hq2.out.mono ?_
        rintro e w12 ⟨rfl, hT0⟩
        clear hq2 b0 b1 b2 b3 b4 bl
        go_wp2_with fail
        go_loopw [23, 24] (fun al i wr => ∃ k : Nat, k ≤ c ∧ i = .int .i64 k ∧ al = .bool (wholeB (fun i => st3.now (2 + z + i)) (fun i => secB 2 ((i : Nat) : Int) (partS b i)) k) ∧ Sl Dk w wr bk SS Z J ((m : Nat) : Int) p st3) (fun _ i _ => (c - RowKit.intOf i).toNat)
        case atStart => exact ⟨0, by omega, rfl, rfl, hT0⟩
        case round =>
          clear hT0
          obtain ⟨k, hk, rfl, rfl, hT⟩ := hrel
          by_cases hlt : k < c
          · obtain ⟨r1, r2⟩ := hrs.out k hlt
            replace hrd := Lib.hid (hT.ask K (fun F h => hrd.out (SS + (k : Int)) F _ _ h))
            rw [r1, r2] at hrd
            have hwn := Lib.hid (show wholeB (fun i => st3.now (2 + z + i)) (fun i => secB 2 ((i : Nat) : Int) (partS b i)) (k + 1) = (wholeB (fun i => st3.now (2 + z + i)) (fun i => secB 2 ((i : Nat) : Int) (partS b i)) k && decide (st3.now (2 + z + k) = secB 2 ((k : Nat) : Int) (partS b k))) from rfl)
            have hpa := Lib.hid (refpart_any b (by omega) k (by omega))
            have hse := Lib.hid (refsec_any 2 ((k : Nat) : Int) (partS b k) (partS_le b k))
            generalize wholeB (fun i => st3.now (2 + z + i)) (fun i => secB 2 ((i : Nat) : Int) (partS b i)) k = al at *
            have hkc : (k : Int) < (c : Int) := by omega
            have hkw : IntKind.i64.wrap (SS + (k : Int)) = SS + (k : Int) := by rw [IntKind.wrap_i64]; omega
            clear r1 r2
            obtain ⟨b0, b1, b2, b3, b4, bl⟩ := hT.cells
            clear hT
            cases al with
            | false =>
              go_wp2_with fail
              refine (hcnt.out _).mono ?_
              rintro e wq ⟨rfl, rfl⟩
              go_wp2_with fail
              refine hrd.out.mono ?_
              rintro e w7 ⟨rfl, hT7⟩
              clear hrd b0 b1 b2 b3 b4 bl
              go_wp2
              refine ⟨⟨k + 1, by omega, by go_num, ?_, hT7⟩, by simp [RowKit.intOf]; omega⟩
              rw [hwn.out, Bool.false_and]
            | true =>
              go_wp2_with fail
              refine (hcnt.out _).mono ?_
              rintro e wq ⟨rfl, rfl⟩
              go_wp2_with fail
              refine hrd.out.mono ?_
              rintro e w7 ⟨rfl, hT7⟩
              clear hrd b0 b1 b2 b3 b4 bl
              go_wp2_with fail
              refine (hpa.out _).mono ?_
              rintro e w8 ⟨rfl, rfl⟩
              go_wp2_with fail
              refine (hse.out _).mono ?_
              rintro e w8 ⟨rfl, hb8⟩
              replace hT7 := hT7.later K hb8
              generalize st3.now (2 + z + k) = x at *
              generalize secB 2 ((k : Nat) : Int) (partS b k) = y at *
              go_wp2
              refine ⟨⟨k + 1, by omega, by go_num, ?_, hT7⟩, by simp [RowKit.intOf]; omega⟩
              rw [hwn.out, Bool.true_and]
              exact congrArg Value.bool (toList_beq x y)
          · obtain rfl : k = c := by omega
            replace hgr := Lib.hid (hT.ask K (fun F h => hgr.out F _ _ h))
            obtain ⟨b0, b1, b2, b3, b4, bl⟩ := hT.cells
            clear hT
            have hl3 : (a.toList == a.toList) = true := beq_self_eq_true _
            have hl4 : (b.toList == b.toList) = true := beq_self_eq_true _
            have gr2 := gr.out
            have hfin : Below w.heap.size w wr ∨ True := .inr trivial
            have hcase : (er = 0 ∧ tk = some b ∧ wholeB (fun i => st3.now (2 + z + i)) (fun i => secB 2 ((i : Nat) : Int) (partS b i)) k = true) ∨ (er ≠ 0 ∧ tk = some b ∧ wholeB (fun i => st3.now (2 + z + i)) (fun i => secB 2 ((i : Nat) : Int) (partS b i)) k = true) ∨
                (er ≠ 0 ∧ tk = none ∧ wholeB (fun i => st3.now (2 + z + i)) (fun i => secB 2 ((i : Nat) : Int) (partS b i)) k = false) := by
              rcases t1.out with ⟨q1, q2⟩ | ⟨q0, q1, q2⟩
              · by_cases e : er = 0
                · exact .inl ⟨e, q1, q2⟩
                · exact .inr (.inl ⟨e, q1, q2⟩)
              · exact .inr (.inr ⟨q0, q1, q2⟩)
            clear hfin
            rcases hcase with ⟨rfl, rfl, q⟩ | ⟨hne, rfl, q⟩ | ⟨hne, rfl, q⟩
            all_goals
              rw [q]
              unfold textO
              dsimp only [Option.isSome]
              replace q := 0
              go_wp2_with fail
              refine (hcnt.out _).mono ?_
              rintro e wq ⟨rfl, rfl⟩
              go_wp2_with fail
              refine hgr.out.mono ?_
              rintro e w7 ⟨rfl, hT7⟩
              have hbl := hT7.below
              clear hgr hT7 b0 b1 b2 b3 b4 bl
              go_wp2
              go_ret
              exact ⟨by first | rfl | simp [gr2], hbl⟩
end Go.Proofs.Ytageeodmpbngaaa
