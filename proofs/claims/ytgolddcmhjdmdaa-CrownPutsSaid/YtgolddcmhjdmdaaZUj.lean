/- CrownPuts' walk, out of the landed contracts. -/
import Derived.Test.YtgolddcmhjdmdaaZUi
namespace Go.Proofs.Ytgolddcmhjdmdaa
open Go.RowKit Go.Sort Cr

def h11 : Hd := ⟨1, 1, 0, 0⟩
theorem h11_ok : h11.Ok := ⟨by decide, by decide, by decide, by decide⟩
theorem h11_bad (st : St) : st.putH 0 h11 = (1, st) := by
  unfold St.putH
  rw [if_pos ((Hd.good_iff h11).2 h11_ok)]
  unfold St.put
  have hp : layPlace st ((h11.spot : Nat) : Int) ((h11.spot + 1 : Nat) : Int) 0 = false := by unfold layPlace; rfl
  rw [lay_bad hp]
  exact if_pos (show (1 : Int) ≠ 0 by decide)
theorem none_new : (St.new 0).newest = none := by
  have h := fun j => blank_at 0 j
  rw [show ((0 : Nat) : Int) = 0 from rfl] at h
  unfold St.newest
  rw [stand_none (h 0), stand_none (h 1)]; rfl
/-- What is known in the round. -/
structure Pr (Dk : (Nat → Prop) → World → Nat → St → Prop) (w wr : World) (p k : Nat) (v : Value) : Prop where
  ex : ∃ (pl : List Hd) (st : St), Pw Dk w wr p st v pl ∧ st.Calm 4 (2 * k) ∧ Stands st (lastP pl) ∧ (∀ x ∈ pl, x.Ok) ∧ pl.length ≤ k
set_option maxRecDepth 100000 in
set_option maxHeartbeats 4000000 in
theorem crownPuts_any {Dk : (Nat → Prop) → World → Nat → St → Prop} (K : LandedDk Dk) (L : LandedCr Dk) (ao : Option Addr) (cap : Nat) (l : List Head) (hl : ∀ x ∈ l, x.Wf) (_hlen : l.length ≤ 140737488351232) (number : Int) (hN : -9223372036854775808 ≤ number ∧ number ≤ 9223372036854775807) (w : World) (hS : HeadsAt w ao l) :
    Calls Try.prog 5 #[.slice ao l.length cap, .int .i64 number] w fun e w' => e = .returned (.bool true) ∧ Below w.heap.size w w' := by
  have hal := Lib.hid (crownAlive_any K L)
  by_cases hg : (30 : Int) < (l.length : Int) ∨ number < 1 ∨ 1099511627776 < number
  · have hb2 : (30 : Int) < (l.length : Int) ∨ (¬ (30 : Int) < (l.length : Int) ∧ number < 1) ∨ (¬ (30 : Int) < (l.length : Int) ∧ ¬ number < 1 ∧ 1099511627776 < number) := by omega
    clear hg hN
    rcases hb2 with q | ⟨q, q'⟩ | ⟨q, q', q''⟩
    all_goals
      go_enter Try.func5, Try.ntmps5
      go_wp2_with fail
      refine (hal.out _).mono ?_
      rintro e w1 ⟨rfl, hb1⟩
      go_wp2
      go_ret
      exact ⟨rfl, hb1⟩
  · have g1 : ¬ (30 : Int) < (l.length : Int) := by omega
    have g1' : ¬ 30 < l.length := by omega
    have g2 : ¬ number < 1 := by omega
    have g3 : ¬ 1099511627776 < number := by omega
    have hnew := Lib.hid (fun W => K.new 4 W (by decide) (by decide))
    have hnew0 := Lib.hid (fun W => K.new 0 W (by decide) (by decide))
    have C0 := St.Calm.new 4 (by omega)
    rw [show ((4 : Nat) : Int) = 4 from rfl] at C0
    have hst0 := Stands.start
    have hno := Lib.hid (fun F W p h => L.newest F W p (St.new 0) h ((St.Calm.new 0 (by omega)).ok (by omega) (by omega)))
    rw [none_new] at hno
    have hbad := Lib.hid (fun F W p h => L.put F W p (St.new 4) 0 h11 h11_ok.isIn h (C0.room (by omega) (by omega)))
    rw [h11_bad] at hbad
    have hpn := Lib.hid (fun W => L.putNil h11 W h11_ok.isIn)
    unfold headA h11 at hbad hpn
    unfold headA hdO hd0 at hno
    dsimp only [Option.isSome] at hno
    dsimp only at hbad
    generalize St.new 0 = stz at *
    generalize St.new 4 = st4 at *
    clear hg
    go_enter Try.func5, Try.ntmps5
    go_wp2_with fail
    refine (hal.out _).mono ?_
    rintro e w1 ⟨rfl, hb1⟩
    go_wp2_with fail
    refine (hnew.out _).mono ?_
    rintro e w2 hm
    obtain ⟨p, _, rfl, -⟩ := id hm
    have hH := Have.made hb1 hm
    have hP0 : Pr Dk w w2 p 0 (.slice none 0 0) := ⟨[], st4, Pw.start K hH, C0, hst0, fun x hx => by simp at hx, by simp⟩
    clear hm hb1 hH hal
    go_wp2
    go_loopw [6, 32] (fun pv i wr => ∃ k : Nat, k ≤ l.length ∧ i = .int .i64 k ∧ Pr Dk w wr p k pv) (fun _ i _ => (l.length - RowKit.intOf i).toNat)
    case atStart => exact ⟨0, by omega, rfl, hP0⟩
    case round =>
      clear hP0 C0 hst0
      obtain ⟨k, hk, rfl, hP⟩ := hrel
      by_cases hlt : k < l.length
      · obtain ⟨pl, st, hT, hC, hst, hall, hpl⟩ := hP.ex
        obtain ⟨b, off, rfl, hbl, hc⟩ := (hS.below hT.bel (Nat.le_refl _)).spot k hlt
        have hwf := hl l[k] (List.getElem_mem hlt)
        generalize l[k] = x0 at *
        have e0 := hc 0 _ rfl
        have e1 := hc 1 _ rfl
        have e2 := hc 2 _ rfl
        have e3 := hc 3 _ rfl
        rw [Nat.add_zero] at e0
        obtain ⟨x, hx⟩ : ∃ x : Hd, x = ⟨x0.Turn, x0.Number, x0.Size, x0.Seq⟩ := ⟨_, rfl⟩
        have hxi : x.In := by rw [hx]; exact ⟨hwf.Turn, hwf.Number, hwf.Size, hwf.Seq⟩
        have q0 : x0.Turn = x.t := by rw [hx]
        have q1 : x0.Number = x.n := by rw [hx]
        have q2 : x0.Size = x.z := by rw [hx]
        have q3 : x0.Seq = x.q := by rw [hx]
        rw [q0] at e0
        rw [q1] at e1
        rw [q2] at e2
        rw [q3] at e3
        clear hx hwf hc q0 q1 q2 q3
        have hkl : (k : Int) < (l.length : Int) := by omega
        have hkw : IntKind.i64.wrap (number + (k : Int)) = number + (k : Int) := by rw [IntKind.wrap_i64]; omega
        have hput := Lib.hid (fun F W p h => L.put F W p st (number + (k : Int)) x hxi h (hC.room (by omega) (by omega)))
        have hgo := Lib.hid (fun W => lawgood_any x hxi W)
        have hlen30 : l.length ≤ 30 := by omega
        obtain ⟨ao3, cap3, rfl, -⟩ := hT.heads
        cases hgd : x.good with
        | false =>
          rw [hgd] at hgo
          rw [putH_bad hgd] at hput
          have hfin := Lib.hid (fun w2 v (h : Pw Dk w w2 p st v pl) => (⟨pl, st, h, hC.mono (by omega), hst, hall, by omega⟩ : Pr Dk w w2 p (k + 1) v))
          unfold headA at hput hgo
          dsimp only at hput
          replace hput := Lib.hid (hT.op K (.int .i64 x.t) (.int .i64 x.n) (.int .i64 x.z) (.int .i64 x.q) (fun F W h => hput.out F W p h))
          clear hT hC hst hall hpl hP
          go_wp2_with fail
          generalize wr.heap.size = bk at *
          refine hput.out.mono ?_
          rintro e w3 ⟨rfl, hT, hX⟩
          obtain ⟨c0, c1, c2, c3, lt⟩ := hX.cells
          clear hput
          go_wp2_with fail
          clear c0 c1 c2 c3 lt
          refine (hgo.out _).mono ?_
          rintro e w4 ⟨rfl, hb⟩
          replace hT := Lib.hid (hfin.out _ _ (hT.later K hb))
          clear hX hb hfin
          go_wp2_with fail
          exact ⟨⟨k + 1, by omega, by go_num, hT.out⟩, by simp [RowKit.intOf]; omega⟩
        | true =>
          rw [hgd] at hgo
          have ho := (Hd.good_iff x).1 hgd
          obtain ⟨st2, ep, hC2, -, hn2⟩ := hC.putH (by omega) (N := number + (k : Int)) (by omega) ho
          have hst2 := hst.put ho (N := number + (k : Int)) (by omega) hn2
          have hok2 := hC2.ok (by omega) (by omega)
          have hall2 : ∀ y ∈ pl ++ [x], y.Ok := fun y hy => by
            rcases List.mem_append.mp hy with hy | hy
            · exact hall y hy
            · rw [List.mem_singleton.mp hy]; exact ho
          have hfin := Lib.hid (fun w2 v (h : Pw Dk w w2 p st2 v (pl ++ [x])) => (⟨pl ++ [x], st2, h, hC2.mono (by omega), hst2, hall2, by rw [List.length_append, List.length_singleton]; omega⟩ : Pr Dk w w2 p (k + 1) v))
          have hnw := Lib.hid (fun F W p h => L.newest F W p st2 h hok2)
          obtain ⟨n1, n2⟩ := hst2.newest
          rw [n1, n2] at hnw
          rw [ep] at hput
          have hln := Lib.hid (fun ao cap W h => lawnewest_any ao cap (pl ++ [x]) (fun y hy => (hall2 y hy).t) (by rw [List.length_append, List.length_singleton]; omega) W h)
          have hpush := Lib.hid (fun wr v (h : Pw Dk w wr p st2 v pl) => h.push K x (by omega))
          have hlap : (pl ++ [x]).length = pl.length + 1 := by simp
          unfold headA at hput hgo hnw hln
          generalize newL (lastP (pl ++ [x])) = nh at *
          generalize newB (lastP (pl ++ [x])) = nb at *
          dsimp only at hput
          replace hput := Lib.hid (hT.op K (.int .i64 x.t) (.int .i64 x.n) (.int .i64 x.z) (.int .i64 x.q) (fun F W h => hput.out F W p h))
          clear hT hC hst hall hpl hP hC2 hst2 hok2 hall2 hn2 n1 n2 ep ho
          go_wp2_with fail
          generalize wr.heap.size = bk at *
          refine hput.out.mono ?_
          rintro e w3 ⟨rfl, hT, hX⟩
          obtain ⟨c0, c1, c2, c3, lt⟩ := hX.cells
          clear hput
          go_wp2_with fail
          clear c0 c1 c2 c3 lt
          refine (hgo.out _).mono ?_
          rintro e w4 ⟨rfl, hb⟩
          replace hT := hT.later K hb
          replace hX := hX.later hb
          clear hb
          obtain ⟨c0, c1, c2, c3, lt⟩ := hX.cells
          obtain ⟨g, cap2, w5, hrun, hT5⟩ := hpush.out _ _ hT
          clear hX hT hpush
          have hnw5 := Lib.hid (hT5.ask K (fun F h => hnw.out F _ _ h))
          clear hnw
          go_wp2_with (at_builtin; refine Lib.wpList_append_run _ rfl _ _ _ _ rfl _ _ rfl rfl _ _ hrun ?_)
          clear hrun c0 c1 c2 c3 lt hT5
          refine hnw5.out.mono ?_
          rintro e w6 ⟨rfl, -, hT⟩
          clear hnw5
          obtain ⟨ao6, cap6, heq6, hHd⟩ := hT.heads
          injection heq6 with i1 i2 i3
          subst i1 i3
          have ha6 : Below w6.heap.size w6 (w6.alloc (.cells #[.int .i64 nh.t, .int .i64 nh.n, .int .i64 nh.z, .int .i64 nh.q] 23)) := (Below.refl _ _).alloc (Nat.le_refl _) _
          have hln6 := Lib.hid (hln.out _ cap2 _ (hHd.later ha6))
          rw [hlap] at hln6
          have hX := Bx.made hT.bel (.int .i64 nh.t) (.int .i64 nh.n) (.int .i64 nh.z) (.int .i64 nh.q)
          replace hT := hT.later K ha6
          clear hHd ha6 hln i2
          go_wp2_with fail
          generalize w6.alloc (.cells #[.int .i64 nh.t, .int .i64 nh.n, .int .i64 nh.z, .int .i64 nh.q] 23) = w7 at *
          generalize w6.heap.size = bx at *
          refine hln6.out.mono ?_
          rintro e w8 ⟨rfl, hb⟩
          replace hT := hT.later K hb
          replace hX := hX.later hb
          clear hb hln6
          obtain ⟨c0, c1, c2, c3, lt⟩ := hX.cells
          have hT9 := Lib.hid (hfin.out _ _ (hT.later K ((Below.refl w8.heap.size w8).alloc (Nat.le_refl _) (.cells #[.int .i64 nh.t, .int .i64 nh.n, .int .i64 nh.z, .int .i64 nh.q] 23))))
          clear hT hfin
          go_wp2_with fail
          exact ⟨⟨k + 1, by omega, by go_num, hT9.out⟩, by simp [RowKit.intOf]; omega⟩
      · obtain rfl : k = l.length := by omega
        obtain ⟨pl, st, hT, -⟩ := hP.ex
        have hb := hT.bel
        clear hT hP
        go_wp2_with fail
        refine (hnew0.out _).mono ?_
        rintro e w3 ⟨p3, F3, rfl, hD3, hF3, hb3⟩
        replace hb := hb.trans (hb3.mono hb.size)
        clear hb3 hF3 hnew0
        go_wp2_with fail
        refine (hno.out _ _ _ hD3).mono ?_
        rintro e w4 ⟨rfl, hb4⟩
        replace hb := hb.trans (hb4.mono hb.size)
        have hb5 : Below w.heap.size w (w4.alloc (.cells #[.int .i64 0, .int .i64 0, .int .i64 0, .int .i64 0] 23)) := hb.alloc hb.size _
        clear hb4 hno hD3 hb
        go_wp2_with fail
        generalize w4.alloc (.cells #[.int .i64 0, .int .i64 0, .int .i64 0, .int .i64 0] 23) = w5 at *
        refine (hpn.out _).mono ?_
        rintro e w6 ⟨rfl, hb6⟩
        have hb := hb5.trans (hb6.mono hb5.size)
        clear hb5 hb6 hpn
        go_wp2_with fail
        refine (hnew.out _).mono ?_
        rintro e w7 ⟨p7, F7, rfl, hD7, hF7, hb7⟩
        have hw7 := hb.trans (hb7.mono hb.size)
        go_wp2_with fail
        refine (hbad.out _ _ _ hD7).mono ?_
        rintro e w8 ⟨rfl, hP8⟩
        have hbl : Below w.heap.size w w8 := hw7.trans (hP8.only.to_below hw7.size (fun k hk => by have := hF7 k hk; have := hb.size; omega))
        clear hP8 hbad hD7 hF7 hb7 hb hw7
        go_wp2
        go_ret
        exact ⟨by first | rfl | simp, hbl⟩
end Go.Proofs.Ytgolddcmhjdmdaa
