/- JournalRaw's walk, out of the landed contracts. -/
import Derived.Test.YtmhafgginbeihaaZQg
import Derived.Test.YtmhafgginbeihaaZJd
import Derived.Test.YtmhafgginbeihaaZJf
import Derived.Test.YtmhafgginbeihaaZJg
namespace Go.Proofs.Ytmhafgginbeihaa
open Go.RowKit Go.Sort Cr

theorem Chain.len_le {get : Nat → ByteArray} {u a : Nat} {q : Int} {l : List ByteArray} {e : Nat} (h : Chain get u a q l e) : a + l.length ≤ e := by
  induction h with
  | nil a q => exact Nat.le_refl _
  | @cons a q N s l e hr r ih =>
    have p := cntR_pos s.size
    rw [List.length_cons]; omega
/-- The next one of a chain, and what is left. -/
theorem Chain.head {get : Nat → ByteArray} {u a : Nat} {q : Int} {l : List ByteArray} {e k : Nat} (hk : k < l.length) (h : Chain get u a q (l.drop k) e) : (∃ N, RecAt get a u (q + 1) N l[k]) ∧ Chain get u (a + cntR l[k].size) (q + 1) (l.drop (k + 1)) e := by
  rw [List.drop_eq_getElem_cons hk] at h
  cases h with
  | @cons _ _ N _ _ _ hr r => exact ⟨⟨N, hr⟩, r⟩
theorem Chain.last {get : Nat → ByteArray} {u a : Nat} {q : Int} {l : List ByteArray} {e : Nat} (h : Chain get u a q (l.drop l.length) e) : a = e := by
  rw [List.drop_length] at h
  cases h
  rfl
/-- A disk and a journal of a law's own, and all that was known behind a world. -/
structure Stay (Dk : (Nat → Prop) → World → Nat → St → Prop) (Jo : (Nat → Prop) → World → Nat → Nat → JSt → Prop) (w wB wr : World) (p j : Nat) (st : St) (js : JSt) : Prop where
  both : Both Dk Jo w wr p j st js
  stay : Below wB.heap.size wB wr
section
variable {Dk : (Nat → Prop) → World → Nat → St → Prop} {Jo : (Nat → Prop) → World → Nat → Nat → JSt → Prop} {w wB wr w2 : World} {p j : Nat} {st : St} {js : JSt}
theorem Stay.start (h : Both Dk Jo w wr p j st js) : Stay Dk Jo w wr wr p j st js := ⟨h, Below.refl _ _⟩
theorem Stay.later (K : LandedDk Dk) (J : LandedJo Dk Jo) (h : Stay Dk Jo w wB wr p j st js) (hb : Below wr.heap.size wr w2) : Stay Dk Jo w wB w2 p j st js :=
  ⟨h.both.later K J hb, h.stay.trans (hb.mono h.stay.size)⟩
theorem Stay.over (h : Stay Dk Jo w wB wr p j st js) (h2 : Stay Dk Jo w wr w2 p j st js) : Stay Dk Jo w wB w2 p j st js :=
  ⟨h2.both, h.stay.trans (h2.stay.mono h.stay.size)⟩
theorem Stay.seq (K : LandedDk Dk) (J : LandedJo Dk Jo) (h : Stay Dk Jo w wB wr p j st js) :
    Calls Try.prog 22 #[.pointer (some ⟨j, 0, none⟩)] wr fun e w2 => e = .returned (.int .i64 js.seq) ∧ Stay Dk Jo w wB w2 p j st js := by
  obtain ⟨⟨Fd, Fj, _, k2, _⟩, _⟩ := id h.both
  refine (J.seq Fj wr j p js k2).mono ?_
  rintro e w2 ⟨rfl, hb⟩
  exact ⟨rfl, h.later K J hb⟩
theorem Stay.spot (K : LandedDk Dk) (J : LandedJo Dk Jo) (h : Stay Dk Jo w wB wr p j st js) :
    Calls Try.prog 15 #[.pointer (some ⟨j, 0, none⟩)] wr fun e w2 => e = .returned (.int .i64 (js.spot : Int)) ∧ Stay Dk Jo w wB w2 p j st js := by
  obtain ⟨⟨Fd, Fj, _, k2, _⟩, _⟩ := id h.both
  refine (J.spot Fj wr j p js k2).mono ?_
  rintro e w2 ⟨rfl, hb⟩
  exact ⟨rfl, h.later K J hb⟩
theorem Stay.read (K : LandedDk Dk) (J : LandedJo Dk Jo) (h : Stay Dk Jo w wB wr p j st js) (hok : st.Ok) (i : Nat) (hi : i < st.safe.length) :
    Calls Try.prog 24 #[.pointer (some ⟨p, 0, none⟩), .int .i64 (i : Int)] wr fun e w2 => e = .returned (.tuple #[.string (st.now i), .int .i64 0]) ∧ Stay Dk Jo w wB w2 p j st js := by
  obtain ⟨⟨Fd, Fj, h1, _⟩, _⟩ := id h.both
  refine (K.read Fd wr p st (i : Int) h1 hok).mono ?_
  rintro e w2 ⟨rfl, hb⟩
  refine ⟨?_, h.later K J hb⟩
  have e1 : rdS st (i : Int) = st.now i := by unfold rdS; rw [if_pos ⟨by omega, by omega⟩, Int.toNat_natCast]
  have e2 : rdE st (i : Int) = 0 := by unfold rdE; rw [if_pos ⟨by omega, by omega⟩]
  rw [e1, e2]
end
set_option maxRecDepth 100000 in
set_option maxHeartbeats 4000000 in
theorem journalRaw_any {Dk : (Nat → Prop) → World → Nat → St → Prop} {Jo : (Nat → Prop) → World → Nat → Nat → JSt → Prop} (K : LandedDk Dk) (S : LandedSt Dk) (J : LandedJo Dk Jo) (Z : LandedJoNone) (ao : Option Addr) (cap : Nat) (l : List ByteArray) (hlen : l.length ≤ 140737488351232)
    (fr upto seq : Int) (hfr : -9223372036854775808 ≤ fr ∧ fr ≤ 9223372036854775807) (hup : -9223372036854775808 ≤ upto ∧ upto ≤ 9223372036854775807) (hsq : -9223372036854775808 ≤ seq ∧ seq ≤ 9223372036854775807) (w : World) (hS : StrsAt w ao l) :
    Calls Try.prog 6 #[.slice ao l.length cap, .int .i64 fr, .int .i64 upto, .int .i64 seq] w fun e w' => e = .returned (.bool true) ∧ Below w.heap.size w w' := by
  have hal := Lib.hid (journalAlive_any K J)
  have hnew := Lib.hid (fun W => K.new 12 W (by decide) (by decide))
  have hw0 := Lib.hid St.Wet.new
  generalize St.new 12 = st0 at *
  go_enter Try.func6, Try.ntmps6
  go_wp2_with fail
  refine (hal.out _).mono ?_
  rintro e w1 ⟨rfl, hb1⟩
  go_wp2_with fail
  refine (hnew.out _).mono ?_
  rintro e w2 ⟨p, F, rfl, hD, hF, hb⟩
  have hT0 : Wetting Dk w w2 p 0 := ⟨⟨F, st0, hD, hw0.out, fun k hk => by have := hF k hk; have := hb1.size; omega⟩, hb1.trans (hb.mono hb1.size)⟩
  clear hD hF hb hnew hw0 hb1
  go_wp2
  go_loopw [35] (fun i wr => ∃ k : Nat, k ≤ l.length ∧ i = .int .i64 k ∧ Wetting Dk w wr p k) (fun i _ => (l.length - RowKit.intOf i).toNat)
  case atStart => exact ⟨0, by omega, rfl, hT0⟩
  case round =>
    clear hT0
    obtain ⟨k, hk, rfl, hT⟩ := hrel
    by_cases hlt : k < l.length
    · obtain ⟨b, off, rfl, hbl, hc⟩ := (hS.below hT.below (Nat.le_refl _)).spot k hlt
      generalize l[k] = t at *
      by_cases hq : k < 12 ∧ t.size ≤ 128
      · obtain ⟨q1, q2⟩ := hq
        obtain ⟨⟨F, st, hD, hW, hF⟩, hb⟩ := hT
        have hWr := Lib.hid (K.write F wr p st (k : Int) t hD (hW.ok (by omega)) (by omega))
        have hN := Lib.hid (fun w2 h => Wetting.next (Dk := Dk) (w := w) (wr := wr) (w2 := w2) (p := p) (k := k) hF hb (show (st.write (k : Int) t).2.Wet (min (k + 1) 12) from by rw [show min (k + 1) 12 = min k 12 + 1 by omega]; exact hW.write _ _) h)
        have d1 : (k : Int) < 12 := by omega
        have d2 : (t.size : Int) ≤ 128 := by omega
        clear hD hW hF hb
        go_wp2_with fail
        refine hWr.out.mono ?_
        rintro e w3 ⟨rfl, hP⟩
        have hT3 := Lib.hid (hN.out _ hP)
        clear hP hN hWr
        go_wp2
        exact ⟨⟨k + 1, by omega, by go_num, hT3.out⟩, by simp [RowKit.intOf]; omega⟩
      · have hT3 : Wetting Dk w wr p (k + 1) := by
          obtain ⟨⟨F, st, hD, hW, hF⟩, hb⟩ := hT
          exact ⟨⟨F, st, hD, hW.mono (by omega), hF⟩, hb⟩
        have hq' : (12 : Int) ≤ (k : Int) ∨ ((k : Int) < 12 ∧ (128 : Int) < (t.size : Int)) := by omega
        replace hT3 := Lib.hid hT3
        clear hq hT
        rcases hq' with q | ⟨q, q'⟩
        all_goals
          go_wp2
          exact ⟨⟨k + 1, by omega, by go_num, hT3.out⟩, by simp [RowKit.intOf]; omega⟩
    · obtain rfl : k = l.length := by omega
      obtain ⟨⟨F, st, hD, hW, hF⟩, hb⟩ := hT
      have hW' := hW.mono (show min l.length 12 ≤ 12 by omega)
      have hSy := Lib.hid (K.sync F wr p st hD (hW'.ok (by omega)))
      have hW2 := hW'.sync.1
      have hfin := Lib.hid (fun w3 h => Have.post (Dk := Dk) (w := w) (wr := wr) (w2 := w3) (p := p) (st2 := st.sync.2) hF hb h)
      clear hD hW hW' hF hb
      generalize hse : st.sync.1 = se at *
      clear hse
      generalize st.sync.2 = st2 at *
      have hok := hW2.ok (by omega)
      have hl12 := hW2.len
      clear hW2
      go_wp2_with fail
      refine hSy.out.mono ?_
      rintro e w3 ⟨rfl, hP⟩
      have hH := hfin.out _ hP
      clear hP hfin hSy
      by_cases hq : 0 ≤ fr ∧ fr < upto ∧ upto ≤ 12 ∧ 0 ≤ seq ∧ seq ≤ 1152921504606846976
      · obtain ⟨q1, q2, q3, q4, q5⟩ := hq
        obtain ⟨f0, rfl⟩ := Int.eq_ofNat_of_zero_le q1
        obtain ⟨u0, rfl⟩ := Int.eq_ofNat_of_zero_le (by omega : 0 ≤ upto)
        have m2 : ¬ ((u0 : Nat) : Int) ≤ ((f0 : Nat) : Int) := by omega
        have m3 : ¬ (12 : Int) < ((u0 : Nat) : Int) := by omega
        have m5 : ¬ (1152921504606846976 : Int) < seq := by omega
        obtain ⟨l2, e2, hre⟩ := recs_any st2.now u0 12 f0 seq (by omega)
        obtain ⟨⟨Fd, hD, hF⟩, hb⟩ := hH
        have hop := Lib.hid (J.openJ Fd w3 p st2 f0 u0 seq l2 e2 hD hok ⟨by omega, by omega, by omega, by omega, by omega⟩ hre)
        have hH3 : Have Dk w w3 p st2 := ⟨⟨Fd, hD, hF⟩, hb⟩
        have hch := Lib.hid hre.chain
        have hl2 := hre.chain.len_le
        have hend := hre.chain.ends
        clear hD hF hb hre
        go_wp2_with fail
        refine hop.out.mono ?_
        intro e w4 hO
        obtain ⟨j, v, rfl, hB, hr, -, hb3⟩ := Both.opened K hH3 hO
        obtain ⟨ao3, cap3, rfl, hS3⟩ := row_strs hr
        clear hr hO hH3 hb3 hop
        have hsj := Lib.hid ((Stay.start hB).seq K J)
        dsimp only at hsj
        clear hB
        go_wp2_with fail
        refine hsj.out.mono ?_
        rintro e w5 ⟨rfl, hB⟩
        clear hsj
        have hwr : IntKind.i64.wrap (seq + (l2.length : Int)) = seq + (l2.length : Int) := by rw [IntKind.wrap_i64]; omega
        have hbq : ((seq + (l2.length : Int)) == (seq + (l2.length : Int))) = true := by simp
        generalize hjs : (⟨f0, u0, e2, seq + (l2.length : Nat), false⟩ : JSt) = js at *
        have hspot : js.spot = e2 := by rw [← hjs]
        clear hjs
        replace hB := Lib.hid hB
        go_wp2
        go_loopw [15, 107] (fun at_ i wr => ∃ k a : Nat, k ≤ l2.length ∧ i = .int .i64 k ∧ at_ = .int .i64 a ∧ Chain st2.now u0 a (seq + (k : Int)) (l2.drop k) e2 ∧ Stay Dk Jo w w4 wr p j st2 js) (fun _ i _ => (l2.length - RowKit.intOf i).toNat)
        case atStart => exact ⟨0, f0, by omega, rfl, rfl, by simpa using hch.out, hB.out⟩
        case round =>
          clear hB hch
          obtain ⟨k, a, hk, rfl, rfl, hch, hSt⟩ := hrel
          by_cases hlt : k < l2.length
          · obtain ⟨b, off, rfl, hbl, hc⟩ := (hS3.below hSt.stay (Nat.le_refl _)).spot k hlt
            obtain ⟨⟨N, hrec⟩, hch2⟩ := hch.head hlt
            generalize l2[k] = s at *
            have hfit := hrec.fit
            have hslen := hrec.len
            have hcp := cntR_pos s.size
            have hlf := hrec.leaf 0 hcp
            rw [Nat.add_zero] at hlf
            have hrd := Lib.hid (hSt.read K J hok a (by omega))
            have hzz := now_size hok a (by omega)
            have hsr := Lib.hid (fun W => S.read (st2.now a) W (by omega))
            rw [hlf] at hsr
            unfold leafV leafA at hsr
            dsimp only at hsr
            have hsec : ∀ i, i < cntR s.size → st2.now (a + i) = secsOf (seq + 1 + (k : Int)) N s i := fun i hi => by
              rw [hrec.sec i hi, show seq + 1 + (k : Int) = seq + (k : Int) + 1 by omega]; rfl
            have hcs := Lib.hid (fun W => refsectors_any (seq + 1 + (k : Int)) N s (by omega) W)
            have hcnE : countN (12 + s.size) = cntR s.size := rfl
            have hcn := fun W => refcount_any (12 + s.size) (by omega) W
            rw [hcnE, show ((12 + s.size : Nat) : Int) = 12 + (s.size : Int) by omega] at hcn
            replace hcn := Lib.hid hcn
            clear hcnE
            clear hrec hlf hch
            generalize hxx : st2.now a = x at *
            clear hxx
            generalize partS _ 0 = D at *
            replace hch2 := Lib.hid hch2
            go_wp2_with fail
            refine hrd.out.mono ?_
            rintro e w6 ⟨rfl, hSt6⟩
            go_wp2_with fail
            refine (hsr.out _).mono ?_
            rintro e w7 ⟨rfl, hb7⟩
            replace hSt6 := Lib.hid (hSt6.later K J hb7)
            clear hrd hsr hb7
            have hadd : IntKind.i64.wrap (IntKind.i64.wrap (seq + 1) + (k : Int)) = seq + (k : Int) + 1 := by rw [IntKind.wrap_i64, IntKind.wrap_i64]; omega
            generalize hg : secsOf (seq + 1 + (k : Int)) N s = f at *
            clear hg
            generalize hcc : cntR s.size = c at *
            clear hcc
            have hSt7 := Lib.hid (hSt6.out.later K J ((Below.refl _ _).alloc (Nat.le_refl _) (.cells #[.int .i64 N, .int .i64 0, .string D] 52)))
            replace hsec := Lib.hid hsec
            clear hSt6 hSt
            go_wp2_with fail
            refine (hcs.out _).mono ?_
            rintro e w8 ⟨v, rfl, hN⟩
            have hSt8 := hSt7.out.later K J hN.below
            have hll : ((List.range c).map f).length = c := by simp
            have hrow : w8.ownsRow 0 9 1 v ((List.range c).map f).length (rowS ((List.range c).map f)) := by rw [hll]; exact hN.row
            obtain ⟨ao4, cap4, rfl, hS4⟩ := row_strs hrow
            rw [hll]
            clear hN hrow hSt7 hcs hll
            have hSt9 := Lib.hid (Stay.start hSt8.both)
            replace hSt8 := Lib.hid hSt8
            go_wp2
            go_loopw [134] (fun i wr => ∃ m : Nat, m ≤ c ∧ i = .int .i64 m ∧ Stay Dk Jo w w8 wr p j st2 js) (fun i _ => (c - RowKit.intOf i).toNat)
            case atStart => exact ⟨0, by omega, rfl, hSt9.out⟩
            case round =>
              clear hSt9
              obtain ⟨m, hm, rfl, hSa⟩ := hrel
              by_cases hmc : m < c
              · obtain ⟨b', off', rfl, hbl', hc'⟩ := (hS4.below hSa.stay (Nat.le_refl _)).spot m (by simpa using hmc)
                have hfm := hsec.out m hmc
                have hel : ((List.range c).map f)[m]'(by simpa using hmc) = f m := by simp
                rw [hel, ← hfm] at hc'
                have hrd := hSa.read K J hok (a + m) (by omega)
                rw [show ((a + m : Nat) : Int) = (a : Int) + (m : Int) by omega] at hrd
                replace hrd := Lib.hid hrd
                clear hel hfm hSa
                generalize st2.now (a + m) = y at *
                have ham : IntKind.i64.wrap ((a : Int) + (m : Int)) = ((a + m : Nat) : Int) := by rw [IntKind.wrap_i64]; omega
                go_wp2_with fail
                refine hrd.out.mono ?_
                rintro e wa ⟨rfl, hSb⟩
                replace hSb := Lib.hid hSb
                clear hrd
                go_wp2
                exact ⟨⟨m + 1, by omega, by go_num, hSb.out⟩, by simp [RowKit.intOf]; omega⟩
              · obtain rfl : m = c := by omega
                have hSf := Lib.hid (hSt8.out.over hSa)
                clear hSa hSt8
                have hch3 : Chain st2.now u0 (a + m) (seq + ((k + 1 : Nat) : Int)) (l2.drop (k + 1)) e2 := by
                  have := hch2.out
                  rwa [show seq + (k : Int) + 1 = seq + ((k + 1 : Nat) : Int) by omega] at this
                replace hch3 := Lib.hid hch3
                clear hch2
                go_wp2_with fail
                refine (hcn.out _).mono ?_
                rintro e wa ⟨rfl, rfl⟩
                have ham : IntKind.i64.wrap ((a : Int) + (m : Int)) = ((a + m : Nat) : Int) := by rw [IntKind.wrap_i64]; omega
                go_wp2
                exact ⟨⟨k + 1, a + m, by omega, by go_num, by go_num, hch3.out, hSf.out⟩, by simp [RowKit.intOf]; omega⟩
          · obtain rfl : k = l2.length := by omega
            obtain rfl := hch.last
            have hna := Z.restart
            have hon := J.openNil
            clear hch hl2
            have hsp := Lib.hid (fun wr (h : Stay Dk Jo w w4 wr p j st2 js) => h.spot K J)
            rw [hspot] at hsp
            replace hna := Lib.hid hna
            replace hon := Lib.hid hon
            go_wp2_with fail
            refine (hna.out _).mono ?_
            rintro e w6 ⟨rfl, hb6⟩
            have hS6 := Lib.hid (hSt.later K J hb6)
            clear hSt hb6
            go_wp2_with fail
            refine (hon.out _).mono ?_
            rintro e w7 ⟨x1, x2, rfl, hb7⟩
            have hS7 := Lib.hid (hS6.out.later K J hb7)
            clear hS6 hb7
            have hS8 := Lib.hid (hsp.out _ hS7.out)
            have z1 := Lib.hid Z.add
            have z2 := Lib.hid Z.seq
            have z3 := Lib.hid Z.spot
            have z4 := Lib.hid Z.sick
            have z5 := Lib.hid Z.room
            have m6 : (a : Int) ≤ (u0 : Int) := by omega
            clear hS7 hsp
            go_wp2_with fail
            refine hS8.out.mono ?_
            rintro e w8 ⟨rfl, hS9⟩
            have hb8 := Lib.hid hS9.both.below
            clear hS8 hS9
            go_wp2_with fail
            refine (z1.out _).mono ?_
            rintro e w9 ⟨rfl, hb9⟩
            have hc9 := Lib.hid (hb8.out.trans (hb9.mono hb8.out.size))
            clear hb8 hb9
            go_wp2_with fail
            refine (z2.out _).mono ?_
            rintro e w10 ⟨rfl, hb10⟩
            have hc10 := Lib.hid (hc9.out.trans (hb10.mono hc9.out.size))
            clear hc9 hb10
            go_wp2_with fail
            refine (z3.out _).mono ?_
            rintro e w11 ⟨rfl, hb11⟩
            have hc11 := Lib.hid (hc10.out.trans (hb11.mono hc10.out.size))
            clear hc10 hb11
            go_wp2_with fail
            refine (z4.out _).mono ?_
            rintro e w12 ⟨rfl, hb12⟩
            have hc12 := Lib.hid (hc11.out.trans (hb12.mono hc11.out.size))
            clear hc11 hb12
            go_wp2_with fail
            refine (z5.out _).mono ?_
            rintro e w13 ⟨rfl, hb13⟩
            have hc13 := Lib.hid (hc12.out.trans (hb13.mono hc12.out.size))
            clear hc12 hb13
            go_wp2
            go_ret
            exact ⟨rfl, hc13.out⟩
      · have hbad : ¬ openPlace st2 fr upto seq := fun ⟨a, b, c, d, e⟩ => hq ⟨a, b, by omega, d, e⟩
        obtain ⟨⟨Fd, hD, hF⟩, hb⟩ := hH
        have hop := Lib.hid (J.openBad Fd w3 p st2 fr upto seq hD hok hbad)
        replace hb := Lib.hid hb
        clear hD hF hbad
        have hq' : fr < 0 ∨ (¬ fr < 0 ∧ upto ≤ fr) ∨ (¬ fr < 0 ∧ ¬ upto ≤ fr ∧ 12 < upto) ∨ (¬ fr < 0 ∧ ¬ upto ≤ fr ∧ ¬ 12 < upto ∧ seq < 0) ∨ (¬ fr < 0 ∧ ¬ upto ≤ fr ∧ ¬ 12 < upto ∧ ¬ seq < 0 ∧ 1152921504606846976 < seq) := by omega
        clear hq
        go_wp2_with fail
        refine hop.out.mono ?_
        rintro e w4 ⟨ao4, cap4, rfl, hb4⟩
        have hb5 := Lib.hid (hb.out.trans (hb4.mono hb.out.size))
        clear hb hb4 hop
        rcases hq' with q | ⟨q, q2⟩ | ⟨q, q2, q3⟩ | ⟨q, q2, q3, q4⟩ | ⟨q, q2, q3, q4, q5⟩
        all_goals
          go_wp2
          go_ret
          exact ⟨rfl, hb5.out⟩
end Go.Proofs.Ytmhafgginbeihaa
