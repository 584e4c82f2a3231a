/- JournalFlying's walk, out of the landed contracts. -/
import Derived.Test.YtmhafgginbeihaaZJh
import Derived.Test.YtmhafgginbeihaaZJm
import Derived.Test.YtmhafgginbeihaaZJp
namespace Go.Proofs.Ytmhafgginbeihaa
open Go.RowKit Go.Sort Cr

section
variable {Dk : (Nat → Prop) → World → Nat → St → Prop} {Jo : (Nat → Prop) → World → Nat → Nat → JSt → Prop} {w wr : World} {p j : Nat} {st : St} {js : JSt}
theorem Both.arm (K : LandedDk Dk) (J : LandedJo Dk Jo) (h : Both Dk Jo w wr p j st js) (hok : st.Ok) (n : Int) :
    Calls Try.prog 21 #[.pointer (some ⟨p, 0, none⟩), .int .i64 n] wr fun e w2 => e = .returned (.tuple #[]) ∧ Both Dk Jo w w2 p j (st.armed n) js := by
  obtain ⟨⟨Fd, Fj, h1, h2, h3, h4, h5⟩, hbl⟩ := h
  refine (K.arm Fd wr p st n h1 hok).mono ?_
  rintro e w2 ⟨rfl, Fd', k1, k2, k3⟩
  have hsz := hbl.size
  refine ⟨rfl, ⟨Fd', Fj, k1, J.keep _ _ _ _ _ _ _ h2 k2 (fun k hk hd => h3 k hd hk), fun k hd hk => h3 k (k3 k (J.near _ _ _ _ _ h2 k hk) hd) hk, fun k hk => ?_, h5⟩, hbl.trans (k2.to_below hsz h4)⟩
  by_cases e : k < wr.heap.size
  · exact h4 k (k3 k e hk)
  · omega
theorem Both.readB (K : LandedDk Dk) (J : LandedJo Dk Jo) (h : Both Dk Jo w wr p j st js) (hok : st.Ok) (i : Nat) (hi : i < st.safe.length) :
    Calls Try.prog 24 #[.pointer (some ⟨p, 0, none⟩), .int .i64 (i : Int)] wr fun e w2 => e = .returned (.tuple #[.string (st.now i), .int .i64 0]) ∧ Both Dk Jo w w2 p j st js ∧ Below wr.heap.size wr w2 := by
  have h' := h
  obtain ⟨⟨Fd, Fj, h1, h2, _⟩, _⟩ := h'
  refine (K.read Fd wr p st (i : Int) h1 hok).mono ?_
  rintro e w2 ⟨rfl, hb⟩
  refine ⟨?_, h.later K J hb, hb⟩
  have e1 : rdS st (i : Int) = st.now i := by unfold rdS; rw [if_pos ⟨by omega, by omega⟩, Int.toNat_natCast]
  have e2 : rdE st (i : Int) = 0 := by unfold rdE; rw [if_pos ⟨by omega, by omega⟩]
  rw [e1, e2]
end
set_option maxRecDepth 100000 in
set_option maxHeartbeats 4000000 in
theorem journalFlying_any {Dk : (Nat → Prop) → World → Nat → St → Prop} {Jo : (Nat → Prop) → World → Nat → Nat → JSt → Prop} (K : LandedDk Dk) (J : LandedJo Dk Jo) (ao : Option Addr) (cap : Nat) (l : List ByteArray) (hl : ∀ x ∈ l, x.size ≤ 140737488351232) (hlen : l.length ≤ 140737488351232)
    (last : ByteArray) (hlast : last.size ≤ 140737488351232) (fail : Int) (hfail : -9223372036854775808 ≤ fail ∧ fail ≤ 9223372036854775807) (mask : Nat) (hmask : mask < 18446744073709551616) (torn cut : Int) (w : World) (hS : StrsAt w ao l) :
    Calls Try.prog 4 #[.slice ao l.length cap, .string last, .int .i64 fail, .int .u64 ((mask : Nat) : Int), .int .i64 torn, .int .i64 cut] w fun e w' => e = .returned (.bool true) ∧ Below w.heap.size w w' := by
  have hal := Lib.hid (journalAlive_any K J)
  have hSw := hS
  by_cases h10 : l.length ≤ 10
  · have hsl := sumTo_le l hl
    go_enter Try.func4, Try.ntmps4
    go_wp2_with fail
    refine (hal.out _).mono ?_
    rintro e w1 ⟨rfl, hb1⟩
    replace hS := hS.later hb1
    go_wp2
    go_loopw [13, 39] (fun z i wr => ∃ k : Nat, k ≤ l.length ∧ i = .int .i64 k ∧ z = .int .i64 ((last.size + sumTo l k : Nat) : Int) ∧ w1 = wr) (fun _ i _ => (l.length - RowKit.intOf i).toNat)
    case atStart => exact ⟨0, by omega, rfl, rfl, rfl⟩
    case round =>
      obtain ⟨k, hk, rfl, rfl, rfl⟩ := hrel
      by_cases hlt : k < l.length
      · obtain ⟨b, off, rfl, hbl, hc⟩ := hS.spot k hlt
        have hs1 : sumTo l (k + 1) = sumTo l k + l[k].size := by
          show sumTo l k + (l.getD k ByteArray.empty).size = _
          rw [List.getD_eq_getElem?_getD, List.getElem?_eq_getElem hlt]; rfl
        have hs2 := hsl (k + 1)
        have hsum : IntKind.i64.wrap (((last.size + sumTo l k : Nat) : Int) + ((l[k].size : Nat) : Int)) = ((last.size + sumTo l (k + 1) : Nat) : Int) := by
          rw [IntKind.wrap_i64, hs1]
          have : k + 1 ≤ 20 := by omega
          have h6 : (k + 1) * 140737488351232 ≤ 20 * 140737488351232 := Nat.mul_le_mul_right _ this
          omega
        generalize l[k] = t at *
        generalize hz2 : last.size + sumTo l (k + 1) = z2 at *
        generalize hz1 : last.size + sumTo l k = z1 at *
        replace hz2 := Lib.hid hz2
        replace hz1 := Lib.hid hz1
        replace hs1 := Lib.hid hs1
        clear hs2
        go_wp2
        exact ⟨⟨k + 1, by omega, by go_num, by rw [hz2.out], by first | rfl | trivial⟩, by simp [RowKit.intOf]; omega⟩
      · obtain rfl : k = l.length := by omega
        have hat := sumTo_at l
        generalize sumTo l l.length = tot at *
        by_cases hq : last.size + tot ≤ 4096 ∧ 1 ≤ fail
        · obtain ⟨q1, q2⟩ := hq
          have m0 : ¬ (10 : Int) < (l.length : Int) := by omega
          have m1 : ¬ (4096 : Int) < ((last.size + tot : Nat) : Int) := by omega
          have m2 : ¬ fail < 1 := by omega
          have hsz : last.size ≤ 4096 := by omega
          have hnew := Lib.hid (fun W => K.new 80 W (by decide) (by decide))
          have hrm := Full.start l
          have hop := fun F W p h => J.openJ F W p (St.new 80) 0 80 0 [] 0 h (St.Ok.new 80) (⟨by omega, by omega, by rw [hrm.dry.len]; omega, by omega, by omega⟩ : openPlace (St.new 80) 0 80 0) (recs_blank (blank_now 80 0 (by omega)))
          generalize St.new 80 = st0 at *
          replace hop := Lib.hid hop
          replace hrm := Lib.hid hrm
          replace hat := Lib.hid hat
          generalize hlt2 : last.size + tot = tot2 at *
          replace hlt2 := Lib.hid hlt2
          go_wp2_with fail
          refine (hnew.out _).mono ?_
          rintro e w2 ⟨p, F, rfl, hD, hF, hb2⟩
          have hH : Have Dk w w2 p st0 := Have.of_wet hb1 hD hF hb2
          have hDh := Lib.hid (hop.out F w2 p hD)
          clear hD hF hb1 hb2 hop hnew hS
          go_wp2_with fail
          refine (hDh.out).mono ?_
          intro e w3 hO
          obtain ⟨j, v, rfl, hB, hr, -, hb3⟩ := Both.opened K hH hO
          obtain ⟨ao2, cap2, rfl, -⟩ := row_slice hr
          have hB0 : ∃ st js, Both Dk Jo w w3 p j st js ∧ Full l 0 st js := ⟨_, _, hB, by simpa using hrm.out⟩
          clear hr hO hH hDh hb3 hB hrm
          replace hB0 := Lib.hid hB0
          go_wp2
          go_loopw [68] (fun i wr => ∃ k : Nat, k ≤ l.length ∧ i = .int .i64 k ∧ ∃ st js, Both Dk Jo w wr p j st js ∧ Full l k st js) (fun i _ => (l.length - RowKit.intOf i).toNat)
          case atStart => exact ⟨0, by omega, rfl, hB0.out⟩
          case round =>
            clear hB0
            obtain ⟨k, hk, rfl, st, js, hB, hR⟩ := hrel
            by_cases hlt : k < l.length
            · obtain ⟨b, off, rfl, hbl, hc⟩ := (hSw.below hB.below (Nat.le_refl _)).spot k hlt
              have hlsz := hat.out k hlt
              have hcr : l[k].size ≤ 32768 := by have := hlt2.out; omega
              have hcl := cntR_le hcr
              have had := hB.add J (hR.ok (by omega)) ((k + 1 : Nat) : Int) l[k] (hR.dry.room (by omega) (by omega) (by omega)) (by omega)
              have hnx := fun hr => Full.next hR (by omega) hlt hr
              have hsk := hR.jok.2.2.2
              clear hB hlsz
              cases hrm : js.room (l[k].size : Int)
              case' true =>
                obtain ⟨st', js', ha, hR'⟩ := hnx hrm
                rw [ha] at had
                replace hR' := Lib.hid hR'
              case' false =>
                have ha := add_full (st := st) hsk (N := ((k + 1 : Nat) : Int)) (by omega) hrm
                rw [ha] at had
              all_goals
                replace had := Lib.hid had
                clear ha hnx hsk hR hcr hcl
                generalize l[k] = t at *
                go_wp2_with fail
                refine had.out.mono ?_
                rintro e w6 ⟨rfl, hB6⟩
                clear had
                go_wp2
              all_goals
                first
                | exact ⟨⟨k + 1, by omega, by go_num, st', js', hB6, hR'.out⟩, by simp [RowKit.intOf]; omega⟩
                | (go_ret; exact ⟨rfl, hB6.below⟩)
            · obtain rfl : k = l.length := by omega
              have hsp := Lib.hid (hB.spot K J)
              have hr4 := hR.dry.ok (by omega) (by omega)
              obtain ⟨e1, st', js', ha, hok', he1, hLd⟩ := hR.fly (by omega) fail hfail.2 (by omega : last.size ≤ 32768) mask torn cut
              have hcl := cntR_le (by omega : last.size ≤ 32768)
              have hjo := hR.ok (by omega)
              have hrm1 : (st.armed fail).Room (cntR last.size + 1) := (hR.dry.idle.armed fail hfail.2).room (by omega) (by omega) (by omega)
              have had := fun wr (h : Both Dk Jo w wr p j (st.armed fail) js) => h.add J (⟨hjo.fr, hjo.spot, hjo.upto, hjo.seq⟩ : js.Ok (st.armed fail)) (((l.length : Nat) : Int) + 1) last hrm1 hlast
              rw [ha] at had
              have hspot := hR.jok.2.2.1
              replace had := Lib.hid had
              replace hLd := Lib.hid hLd
              clear hR ha hrm1 hjo hat
              go_wp2_with fail
              refine hsp.out.mono ?_
              rintro e w4 ⟨rfl, hB4⟩
              have har := Lib.hid (hB4.arm K J hr4 fail)
              clear hsp hB hB4
              go_wp2_with fail
              refine har.out.mono ?_
              rintro e w5 ⟨rfl, hB5⟩
              have had2 := Lib.hid (had.out _ hB5)
              clear har had hB5
              go_wp2_with fail
              refine had2.out.mono ?_
              rintro e w6 ⟨rfl, hB6⟩
              have hcra := Lib.hid (hB6.crash K J hok' mask hmask torn cut)
              clear had2 hB6
              go_wp2_with fail
              refine hcra.out.mono ?_
              rintro e w7 ⟨rfl, hB7⟩
              clear hcra
              generalize st'.crashed mask torn cut = st3 at *
              have hse := Lib.hid (fun w => refsectors_any (((l.length : Nat) : Int) + 1) (((l.length : Nat) : Int) + 1) last (by omega) w)
              have hcp := cntR_pos last.size
              generalize hcc : cntR last.size = c at *
              replace hcc := Lib.hid hcc
              go_wp2_with fail
              refine (hse.out _).mono ?_
              rintro e w8 ⟨v, rfl, hNR⟩
              obtain ⟨ao5, cap5, rfl, -⟩ := row_slice hNR.row
              have hS5 := strs_of_row hNR.row (by simp)
              have hB8 := hB7.later K J hNR.below
              clear hse hNR hB7
              have hw0 := wholeB_zero st3.now js.spot (((l.length : Nat) : Int) + 1) (((l.length : Nat) : Int) + 1) last
              have hB80 := Below.refl w8.heap.size w8
              go_wp2_with fail
              go_loopw [24, 105] (fun wv iv wr => ∃ k : Nat, k ≤ c ∧ iv = .int .i64 k ∧ wv = .bool (wholeB st3.now js.spot (((l.length : Nat) : Int) + 1) (((l.length : Nat) : Int) + 1) last k) ∧ Both Dk Jo w wr p j st3 js' ∧ Below w8.heap.size w8 wr) (fun _ iv _ => (c - RowKit.intOf iv).toNat)
              case atStart => exact ⟨0, by omega, rfl, by rw [hw0], hB8, hB80⟩
              case round =>
                clear hw0 hB80 hB8
                obtain ⟨k, hk, rfl, rfl, hB, hbl8⟩ := hrel
                have hid := hLd.out.idle
                by_cases hlt : k < c
                · obtain ⟨b, off, rfl, hblk, hc⟩ := (hS5.below hbl8 (Nat.le_refl _)).spot k (by simpa using hlt)
                  have hget : ((List.range c).map (secsOf (((l.length : Nat) : Int) + 1) (((l.length : Nat) : Int) + 1) last))[k]'(by simpa using hlt) = secB (((l.length : Nat) : Int) + 1) ((k : Nat) : Int) (partS (frameB (((l.length : Nat) : Int) + 1) last) k) := by
                    rw [List.getElem_map, List.getElem_range]; rfl
                  rw [hget] at hc
                  have hrd := hB.readB K J (hid.ok (by omega) (by omega)) (min (js.spot + k) 79) (by rw [hid.len]; omega)
                  have hmi : ((min (js.spot + k) 79 : Nat) : Int) = min (((js.spot : Nat) : Int) + ((k : Nat) : Int)) 79 := by omega
                  rw [hmi] at hrd
                  have hnx := Lib.hid (wholeB_next st3.now js.spot (((l.length : Nat) : Int) + 1) (((l.length : Nat) : Int) + 1) last k)
                  generalize wholeB st3.now js.spot (((l.length : Nat) : Int) + 1) (((l.length : Nat) : Int) + 1) last k = wk at *
                  generalize secB (((l.length : Nat) : Int) + 1) ((k : Nat) : Int) (partS (frameB (((l.length : Nat) : Int) + 1) last) k) = sx at *
                  generalize st3.now (min (js.spot + k) 79) = sy at *
                  have hbq := texts_beq sy sx
                  replace hrd := Lib.hid hrd
                  clear hB hget hmi
                  go_wp2_with fail
                  refine hrd.out.mono ?_
                  rintro e w9 ⟨rfl, hB9, hb9⟩
                  have hbl9 := hbl8.trans (hb9.mono hbl8.size)
                  clear hrd hb9 hbl8
                  cases wk
                  · rw [Bool.false_and] at hnx
                    clear hbq
                    go_wp2_with fail
                    exact ⟨⟨k + 1, by omega, by go_num, by rw [hnx.out], hB9, hbl9⟩, by simp [RowKit.intOf]; omega⟩
                  · rw [Bool.true_and] at hnx
                    generalize decide (sy = sx) = bq at *
                    go_wp2_with fail
                    exact ⟨⟨k + 1, by omega, by go_num, by rw [hnx.out], hB9, hbl9⟩, by simp [RowKit.intOf]; omega⟩
                · obtain rfl : k = c := by omega
                  have hop0 := hLd.out.recs
                  obtain ⟨z, hrec⟩ := hop0
                  have hokW := hLd.out.ok
                  rw [hcc.out] at hrec hokW
                  obtain ⟨⟨Fd, Fj, k1, k2, k3, k4, k5⟩, k6⟩ := hB
                  have hop := fun (L : List ByteArray) (hr : Recs st3.now 80 0 0 L z) => J.openJ Fd wr p st3 0 80 0 L z k1 (hid.ok (by omega) (by omega)) ⟨by omega, by omega, by rw [hid.len]; omega, by omega, by omega⟩ hr
                  generalize wholeB st3.now js.spot (((l.length : Nat) : Int) + 1) (((l.length : Nat) : Int) + 1) last k = wk at *
                  clear k2 k3 k4 k5 hid hLd
                  have caseA : e1 ≠ 0 → (e1 = 6 ∨ wk = false) → Recs st3.now 80 0 0 l z := fun _ h2 => by
                    rw [if_neg (fun e => by rcases h2 with h2 | h2; exact e.2 h2; rw [h2] at e; cases e.1)] at hrec
                    exact hrec
                  have caseB : e1 ≠ 6 → wk = true → Recs st3.now 80 0 0 (l ++ [last]) z := fun h1 h2 => by
                    rw [if_pos ⟨h2, h1⟩] at hrec
                    exact hrec
                  clear hrec
                  rcases he1 with rfl | rfl | rfl
                  case' inl =>
                    have hwk := hokW rfl
                    subst hwk
                    have hB := Lib.hid (caseB (by decide) rfl)
                  case' inr.inl =>
                    have hA := Lib.hid (caseA (by decide) (.inl rfl))
                  case' inr.inr =>
                    cases wk
                    case' true => have hB := Lib.hid (caseB (by decide) rfl)
                    case' false => have hA := Lib.hid (caseA (by decide) (.inr rfl))
                  all_goals clear caseA caseB hokW
                  case' inr.inl =>
                    cases wk
                  all_goals
                    try
                      (have hopA := Lib.hid (hop l hA.out)
                       clear hop hA
                       go_wp2_with fail
                       refine hopA.out.mono ?_
                       rintro e w10 ⟨j2, F2, v, rfl, n1, n2, n3, n4, n5⟩
                       obtain ⟨ao6, cap6, rfl, hS6⟩ := row_strs n3
                       have hT : StrsAt w10 ao l := hSw.below (k6.trans (n5.mono k6.size)) (Nat.le_refl _)
                       have hss := refsame_eq ao6 cap6 l.length l ao cap l rfl rfl hlen w10 hS6 hT
                       have e0 : sameB l l = true := decide_eq_true rfl
                       rw [e0] at hss
                       have hfin := k6.trans (n5.mono k6.size)
                       clear hopA n1 n2 n3 n4 n5
                       replace hss := Lib.hid hss
                       go_wp2_with fail
                       refine hss.out.mono ?_
                       rintro e w11 ⟨rfl, hb11⟩
                       go_wp2
                       go_ret
                       exact ⟨rfl, hfin.trans (hb11.mono hfin.size)⟩)
                  all_goals
                    have hlap : (l ++ [last]).length = l.length + 1 := by simp
                    have hopB := Lib.hid (hop (l ++ [last]) hB.out)
                    clear hop hB
                    go_wp2_with fail
                    refine hopB.out.mono ?_
                    rintro e w10 ⟨j2, F2, v, rfl, n1, n2, n3, n4, n5⟩
                    obtain ⟨ao6, cap6, rfl, hS6⟩ := row_strs n3
                    have hT : StrsAt w10 ao l := hSw.below (k6.trans (n5.mono k6.size)) (Nat.le_refl _)
                    have hfin := k6.trans (n5.mono k6.size)
                    clear hopB n1 n2 n3 n4 n5
                    rw [hlap]
                    obtain ⟨ao7, cap7, w11, ha7, hr7, hb7⟩ := app_new w10 ao cap l hT (by omega)
                    obtain ⟨ao8, cap8, w12, ha8, hr8, hb8⟩ := app_last w11 w10.heap.size hb7.size ao7 l.length cap7 l rfl hr7 last (by omega)
                    have hS8 := strs_of_row hr8 hlap
                    have hbx := hb7.trans hb8
                    have hss := refsame_eq ao6 cap6 (l.length + 1) (l ++ [last]) ao8 cap8 (l ++ [last]) hlap hlap (by omega) w12 (hS6.later hbx) hS8
                    have e0 : sameB (l ++ [last]) (l ++ [last]) = true := decide_eq_true rfl
                    rw [e0] at hss
                    have hfin2 := hfin.trans (hbx.mono hfin.size)
                    replace hss := Lib.hid hss
                    clear hS6 hT hr7 hb7 hr8 hb8 hS8 hbx hfin
                    have tok : True := trivial
                    go_wp2_with (first | (clear tok; at_builtin; refine Lib.wpList_append_run _ rfl _ _ _ _ rfl _ _ rfl rfl _ _ ha7 ?_; clear ha7) | (at_builtin; refine Lib.wpList_append_run _ rfl _ _ _ _ rfl _ _ rfl rfl _ _ ha8 ?_; clear ha8))
                    refine hss.out.mono ?_
                    rintro e w13 ⟨rfl, hb13⟩
                    go_wp2
                    go_ret
                    exact ⟨rfl, hfin2.trans (hb13.mono hfin2.size)⟩
        · have m0 : ¬ (10 : Int) < (l.length : Int) := by omega
          have hq' : (4096 : Int) < ((last.size + tot : Nat) : Int) ∨ (¬ (4096 : Int) < ((last.size + tot : Nat) : Int) ∧ fail < 1) := by omega
          generalize last.size + tot = tot2 at *
          clear hq
          rcases hq' with q | ⟨q, q2⟩
          all_goals
            go_wp2
            go_ret
            exact ⟨rfl, hb1⟩
  · go_enter Try.func4, Try.ntmps4
    go_wp2_with fail
    refine (hal.out _).mono ?_
    rintro e w1 ⟨rfl, hb1⟩
    replace hS := hS.later hb1
    go_wp2
    go_loopw [13, 39] (fun z i wr => ∃ (k : Nat) (y : Int), k ≤ l.length ∧ i = .int .i64 k ∧ z = .int .i64 y ∧ w1 = wr) (fun _ i _ => (l.length - RowKit.intOf i).toNat)
    case atStart => exact ⟨0, _, by omega, rfl, rfl, rfl⟩
    case round =>
      obtain ⟨k, y, hk, rfl, rfl, rfl⟩ := hrel
      by_cases hlt : k < l.length
      · obtain ⟨b, off, rfl, hbl, hc⟩ := hS.spot k hlt
        generalize l[k] = t at *
        go_wp2
        exact ⟨⟨k + 1, _, by omega, by go_num, rfl, by first | rfl | trivial⟩, by simp [RowKit.intOf]; omega⟩
      · obtain rfl : k = l.length := by omega
        have m0 : (10 : Int) < (l.length : Int) := by omega
        go_wp2
        go_ret
        exact ⟨rfl, hb1⟩
end Go.Proofs.Ytmhafgginbeihaa
