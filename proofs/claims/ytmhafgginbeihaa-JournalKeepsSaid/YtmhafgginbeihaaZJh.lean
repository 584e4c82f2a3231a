/- JournalRestarts' walk, out of the landed contracts. -/
import Derived.Test.YtmhafgginbeihaaZJe
import Derived.Test.YtmhafgginbeihaaZJf
import Derived.Test.YtmhafgginbeihaaZJg
namespace Go.Proofs.Ytmhafgginbeihaa
open Go.RowKit Go.Sort Cr

theorem strs_sub0 {w : World} {ao : Option Addr} {l : List ByteArray} {c : Nat} (h : l.length ≤ c) : StrsAt w ao (l.drop c) :=
  ⟨fun k hk => by rw [List.length_drop] at hk; omega⟩
theorem strs_sub1 {w : World} {ao : Option Addr} {l : List ByteArray} (h : StrsAt w ao l) (c : Nat) : StrsAt w (ao.map fun x => x.add c) (l.drop c) :=
  ⟨fun k hk => by
    rw [List.length_drop] at hk
    obtain ⟨b, off, rfl, hlt, hc⟩ := h.spot (c + k) (by omega)
    refine ⟨b, off + c, ?_, hlt, ?_⟩
    · simp only [Option.map_some, Addr.add]
      split
      · rename_i h0; subst h0; rfl
      · rfl
    · rw [List.getElem_drop, Nat.add_assoc]; exact hc⟩
open Go.Deep in
theorem strs_cap {H : Type} {enc : TypeId × Value → H} {w : World} {base : Nat} {spare : Nat → Bool} {held : Bool} {ao : Option Addr} {n cap : Nat} {d : DataW H} {p : List MemPlace}
    (h : DataW.Trod enc Try.prog w base spare held 28 (.slice ao n cap) d p) : n ≤ cap := by
  obtain ⟨fuel, hf⟩ := h
  have hC : Try.prog.cellsOf 9 = 1 := by kernel_rfl
  rcases open_slice1 Try.underlying28 hC hf with ⟨hc, hx⟩ | ⟨a, len', cap', m, n', V, D, Pl, hc, hb, hl, hm, hmm, hx, hi⟩
  · simp [Value.cells] at hc
    omega
  · simp [Value.cells] at hc
    omega

section
variable {Dk : (Nat → Prop) → World → Nat → St → Prop} {Jo : (Nat → Prop) → World → Nat → Nat → JSt → Prop} {w wr : World} {p j : Nat} {st : St} {js : JSt}
theorem Both.restart (K : LandedDk Dk) (J : LandedJo Dk Jo) (h : Both Dk Jo w wr p j st js) :
    Calls Try.prog 26 #[.pointer (some ⟨j, 0, none⟩)] wr fun e w2 => e = .returned (.tuple #[]) ∧ Both Dk Jo w w2 p j st js.back := by
  obtain ⟨⟨Fd, Fj, h1, h2, h3, h4, h5⟩, hbl⟩ := h
  refine (J.restart Fj wr j p js h2).mono ?_
  rintro e w2 ⟨rfl, k1, k2⟩
  exact ⟨rfl, ⟨Fd, Fj, K.keep _ _ _ _ _ _ h1 k2 h3, k1, h3, h4, h5⟩, hbl.trans (k2.to_below hbl.size h5)⟩
theorem Both.crash (K : LandedDk Dk) (J : LandedJo Dk Jo) (h : Both Dk Jo w wr p j st js) (hok : st.Ok) (mask : Nat) (hm : mask < 18446744073709551616) (torn cut : Int) :
    Calls Try.prog 19 #[.pointer (some ⟨p, 0, none⟩), .int .u64 ((mask : Nat) : Int), .int .i64 torn, .int .i64 cut] wr fun e w2 => e = .returned (.tuple #[]) ∧ Both Dk Jo w w2 p j (st.crashed mask torn cut) js := by
  obtain ⟨⟨Fd, Fj, h1, h2, h3, h4, h5⟩, hbl⟩ := h
  refine (K.crash Fd wr p st mask torn cut h1 hok hm).mono ?_
  rintro e w2 ⟨rfl, Fd', k1, k2, k3⟩
  have hsz := hbl.size
  refine ⟨rfl, ⟨Fd', Fj, k1, J.keep _ _ _ _ _ _ _ h2 k2 (fun k hk hd => h3 k hd hk), fun k hd hk => h3 k (k3 k (J.near _ _ _ _ _ h2 k hk) hd) hk, fun k hk => ?_, h5⟩, hbl.trans (k2.to_below hsz h4)⟩
  by_cases e : k < wr.heap.size
  · exact h4 k (k3 k e hk)
  · omega
theorem Both.great (K : LandedDk Dk) (S : LandedSt Dk) (J : LandedJo Dk Jo) (h : Both Dk Jo w wr p j st js) (hok : st.Ok) :
    Calls Try.prog 17 #[.pointer (some ⟨p, 0, none⟩)] wr fun e w2 => e = .returned (.int .i64 st.great) ∧ Both Dk Jo w w2 p j st js := by
  have h' := h
  obtain ⟨⟨Fd, Fj, k1, _⟩, _⟩ := h'
  refine (S.great Fd wr p st k1 hok).mono ?_
  rintro e w2 ⟨rfl, hb⟩
  exact ⟨rfl, h.later K J hb⟩
end

set_option maxRecDepth 100000 in
set_option maxHeartbeats 4000000 in
theorem journalRestarts_any {Dk : (Nat → Prop) → World → Nat → St → Prop} {Jo : (Nat → Prop) → World → Nat → Nat → JSt → Prop} (K : LandedDk Dk) (S : LandedSt Dk) (J : LandedJo Dk Jo) (ao : Option Addr) (cap : Nat) (l : List ByteArray) (hl : ∀ x ∈ l, x.size ≤ 140737488351232) (hlen : l.length ≤ 140737488351232) (hcap : l.length ≤ cap)
    (cut : Int) (hcut : -9223372036854775808 ≤ cut ∧ cut ≤ 9223372036854775807) (mask : Nat) (hmask : mask < 18446744073709551616) (w : World) (hS : StrsAt w ao l) :
    Calls Try.prog 5 #[.slice ao l.length cap, .int .i64 cut, .int .u64 ((mask : Nat) : Int)] w fun e w' => e = .returned (.bool true) ∧ Below w.heap.size w w' := by
  have hal := Lib.hid (journalAlive_any K J)
  have hSw := hS
  by_cases h20 : l.length ≤ 20
  · have hsl := sumTo_le l hl
    go_enter Try.func5, Try.ntmps5
    go_wp2_with fail
    refine (hal.out _).mono ?_
    rintro e w1 ⟨rfl, hb1⟩
    replace hS := hS.later hb1
    go_wp2
    go_loopw [7, 23] (fun z i wr => ∃ k : Nat, k ≤ l.length ∧ i = .int .i64 k ∧ z = .int .i64 ((sumTo l k : Nat) : Int) ∧ w1 = wr) (fun _ i _ => (l.length - RowKit.intOf i).toNat)
    case atStart => exact ⟨0, by omega, rfl, rfl, rfl⟩
    case round =>
      obtain ⟨k, hk, rfl, rfl, rfl⟩ := hrel
      by_cases hlt : k < l.length
      · obtain ⟨b, off, rfl, hbl, hc⟩ := hS.spot k hlt
        have hs1 : sumTo l (k + 1) = sumTo l k + l[k].size := by
          show sumTo l k + (l.getD k ByteArray.empty).size = _
          rw [List.getD_eq_getElem?_getD, List.getElem?_eq_getElem hlt]; rfl
        have hs2 := hsl (k + 1)
        have hsum : IntKind.i64.wrap (((sumTo l k : Nat) : Int) + ((l[k].size : Nat) : Int)) = ((sumTo l (k + 1) : Nat) : Int) := by
          rw [IntKind.wrap_i64, hs1]
          have : k + 1 ≤ 20 := by omega
          have h6 : (k + 1) * 140737488351232 ≤ 20 * 140737488351232 := Nat.mul_le_mul_right _ this
          omega
        generalize l[k] = t at *
        generalize hz2 : sumTo l (k + 1) = z2 at *
        replace hz2 := Lib.hid hz2
        replace hs1 := Lib.hid hs1
        clear hs2
        go_wp2
        exact ⟨⟨k + 1, by omega, by go_num, by rw [hz2.out], by first | rfl | trivial⟩, by simp [RowKit.intOf]; omega⟩
      · obtain rfl : k = l.length := by omega
        have hat := sumTo_at l
        generalize sumTo l l.length = tot at *
        by_cases hq : tot ≤ 4096 ∧ 0 ≤ cut ∧ cut ≤ (l.length : Int)
        · obtain ⟨q1, q2, q3⟩ := hq
          obtain ⟨c0, rfl⟩ := Int.eq_ofNat_of_zero_le q2
          have m0 : ¬ (20 : Int) < (l.length : Int) := by omega
          have m1 : ¬ (4096 : Int) < (tot : Int) := by omega
          have m2 : ¬ (l.length : Int) < (c0 : Int) := by omega
          have hnew := Lib.hid (fun W => K.new 80 W (by decide) (by decide))
          have hrm := Again.start l c0
          have hop := fun F W p h => J.openJ F W p (St.new 80) 0 80 0 [] 0 h (St.Ok.new 80) (⟨by omega, by omega, by rw [hrm.dry.len]; omega, by omega, by omega⟩ : openPlace (St.new 80) 0 80 0) (recs_blank (blank_now 80 0 (by omega)))
          generalize St.new 80 = st0 at *
          replace hop := Lib.hid hop
          replace hrm := Lib.hid hrm
          replace hat := Lib.hid hat
          go_wp2_with fail
          refine (hnew.out _).mono ?_
          rintro e w2 ⟨p, F, rfl, hD, hF, hb2⟩
          have hH : Have Dk w w2 p st0 := Have.of_wet hb1 hD hF hb2
          have hDh := Lib.hid (hop.out F w2 p hD)
          clear hD hF hb1 hb2 hop hnew hS
          go_wp2_with fail
          refine (hDh.out).mono ?_
          intro e w3 hO
          obtain ⟨j, v, rfl, hB, hr, -, hb3⟩ := Both.opened K hH hO
          obtain ⟨ao2, cap2, rfl, -⟩ := row_slice hr
          have hB0 : ∃ st js, Both Dk Jo w w3 p j st js ∧ Again l c0 0 st js := ⟨_, _, hB, by simpa using hrm.out⟩
          clear hr hO hH hDh hb3 hB hrm
          replace hB0 := Lib.hid hB0
          go_wp2
          go_loopw [58] (fun i wr => ∃ k : Nat, k ≤ l.length ∧ i = .int .i64 k ∧ ∃ st js, Both Dk Jo w wr p j st js ∧ Again l c0 k st js) (fun i _ => (l.length - RowKit.intOf i).toNat)
          case atStart => exact ⟨0, by omega, rfl, hB0.out⟩
          case round =>
            clear hB0
            obtain ⟨k, hk, rfl, st, js, hB, hR⟩ := hrel
            by_cases hlt : k < l.length
            · obtain ⟨b, off, rfl, hbl, hc⟩ := (hSw.below hB.below (Nat.le_refl _)).spot k hlt
              have hsz := hat.out k hlt
              rcases Classical.em (k = c0) with hkc | hkc
              case' inl =>
                subst hkc
                have hkk : ((k : Int) == (k : Int)) = true := by simp
                have hrs := Lib.hid (hB.restart K J)
                have hRR := Lib.hid hR.back
                have hat0 := Lib.hid (show k = k → js.back.spot = 0 from fun _ => hR.jok.1)
                clear hB hR
                generalize js.back = js2 at *
                go_wp2_with fail
                refine hrs.out.mono ?_
                rintro e w4 ⟨rfl, hB⟩
                clear hrs
                clear js
                obtain ⟨js, ejs⟩ : ∃ js, js = js2 := ⟨_, rfl⟩
                subst ejs
              case' inr =>
                have hkk : ((k : Int) == (c0 : Int)) = false := beq_eq_false_iff_ne.2 (by omega)
                have hRR := Lib.hid hR
                have hat0 := Lib.hid (show k = c0 → js.spot = 0 from fun e => absurd e hkc)
                clear hR
              all_goals
                have hok := hRR.out.dry.ok (by omega) (by omega)
                have hgr := Lib.hid (hB.great K S J hok)
                obtain ⟨g0, g1⟩ := great_ok st
                have hcr : l[k].size ≤ 32768 := by omega
                have hcl := cntR_le hcr
                have had := fun wr (h : Both Dk Jo w wr p j st js) => h.add J (hRR.out.ok (by omega)) (st.great + 1) l[k] (hRR.out.dry.room (by omega) (by omega) (by omega)) (by omega)
                have hnx := fun hN hr => Again.next hRR.out (by omega) hlt (fun e0 => hat0.out (by first | trivial | exact e0)) (N := st.great + 1) hN hr
                have hsk := hRR.out.jok.2.2.2
                clear hok hB hat0 hRR
                generalize hgg : st.great = g at *
                clear hgg
                rcases Classical.em (g + 1 ≤ 1152921504606846976) with hN | hN
                case' inl =>
                  cases hrm : js.room (l[k].size : Int)
                  case' true =>
                    obtain ⟨st', js', ha, hR'⟩ := hnx ⟨by omega, hN⟩ hrm
                    rw [ha] at had
                    replace hR' := Lib.hid hR'
                  case' false =>
                    have ha := add_full (st := st) hsk (N := g + 1) ⟨by omega, hN⟩ hrm
                    rw [ha] at had
                case' inr =>
                  have ha := add_bad (st := st) hsk (N := g + 1) (fun e => hN e.2) l[k]
                  rw [ha] at had
                all_goals
                  replace had := Lib.hid had
                  clear ha hnx hsk
                  generalize l[k] = t at *
                  go_wp2_with fail
                  refine hgr.out.mono ?_
                  rintro e w5 ⟨rfl, hB5⟩
                  have hA := Lib.hid (had.out _ hB5)
                  clear hgr had hB5
                  go_wp2_with fail
                  refine hA.out.mono ?_
                  rintro e w6 ⟨rfl, hB6⟩
                  clear hA
                  go_wp2
                all_goals
                  first
                  | exact ⟨⟨k + 1, by omega, by go_num, st', js', hB6, hR'.out⟩, by simp [RowKit.intOf]; omega⟩
                  | (go_ret; exact ⟨rfl, hB6.below⟩)
            · obtain rfl : k = l.length := by omega
              rcases Classical.em (c0 = l.length) with hcc | hcc
              case' inl =>
                have hkk : ((c0 : Int) == (l.length : Int)) = true := by simp [hcc]
                have hrs := Lib.hid (hB.restart K J)
                have hRR : Again l c0 l.length st js.back := by subst hcc; exact hR.back
                replace hRR := Lib.hid hRR
                replace hcc := Lib.hid hcc
                clear hB hR
                generalize js.back = js2 at *
                go_wp2_with fail
                refine hrs.out.mono ?_
                rintro e w4 ⟨rfl, hB⟩
                clear hrs
                clear js
                obtain ⟨js, ejs⟩ : ∃ js, js = js2 := ⟨_, rfl⟩
                subst ejs
              case' inr =>
                have hkk : ((c0 : Int) == (l.length : Int)) = false := beq_eq_false_iff_ne.2 (by omega)
                have hRR := Lib.hid hR
                replace hcc := Lib.hid hcc
                clear hR
              all_goals
                have hcr := hB.crash K J (hRR.out.dry.ok (by omega) (by omega)) mask hmask (-1) 0
                rw [crash_dry hRR.out.dry] at hcr
                have hRa := hRR.out.armless
                clear hB hRR
                replace hcr := Lib.hid hcr
                generalize ({ st with arm := 0 } : St) = st2 at *
                replace hRa := Lib.hid hRa
                go_wp2_with fail
                refine hcr.out.mono ?_
                rintro e w5 ⟨rfl, hB5⟩
                clear hcr
                obtain ⟨e2, hre⟩ := hRa.out.recs (by omega) (by omega)
                obtain ⟨⟨Fd, Fj, k1, k2, k3, k4, k5⟩, k6⟩ := hB5
                have hop := J.openJ Fd w5 p st2 0 80 c0 (l.drop c0) e2 k1 (hRa.out.dry.ok (by omega) (by omega)) ⟨by omega, by omega, by rw [hRa.out.dry.len]; omega, by omega, by omega⟩ hre
                have hsq := hRa.out.seq
                have hlq : ((c0 : Nat) : Int) + (((l.drop c0).length : Nat) : Int) = (l.length : Int) := by rw [List.length_drop]; omega
                rw [hlq] at hop
                replace hop := Lib.hid hop
                clear hRa hre hlq
                go_wp2_with fail
                refine hop.out.mono ?_
                rintro e w6 ⟨j2, F2, v, rfl, n1, n2, n3, n4, n5⟩
                obtain ⟨ao3, cap3, rfl, hS3⟩ := row_strs n3
                clear hop n3
                go_wp2_with fail
                all_goals
                  have hss : Calls Try.prog 25 #[.slice ao3 (l.length - c0) cap3, .slice (if cap = c0 then ao else ao.map fun x => x.add c0) (l.length - c0) (cap - c0)] w6 fun e w' => e = .returned (.bool true) ∧ Below w6.heap.size w6 w' := by
                    have hT : StrsAt w6 (if cap = c0 then ao else ao.map fun x => x.add c0) (l.drop c0) := by
                      by_cases hq2 : cap = c0
                      · rw [if_pos hq2]; exact strs_sub0 (by omega)
                      · rw [if_neg hq2]; exact strs_sub1 (hSw.below (k6.trans (n5.mono k6.size)) (Nat.le_refl _)) c0
                    have e0 : sameB (l.drop c0) (l.drop c0) = true := decide_eq_true rfl
                    have e1 := refsame_eq ao3 cap3 (l.length - c0) (l.drop c0) _ (cap - c0) (l.drop c0) (by simp) (by simp) (by omega) w6 hS3 hT
                    rw [e0] at e1
                    exact e1
                  have s1 := fun W (hb : Below w5.heap.size w5 W) => J.seq Fj W j p js (J.keep _ (fun _ => False) _ _ _ _ _ k2 (Only.of_below hb) (fun _ _ e => e))
                  rw [hsq] at s1
                  have s2 := fun W (hb : Below w6.heap.size w6 W) => J.seq F2 W j2 p _ (J.keep _ (fun _ => False) _ _ _ _ _ n1 (Only.of_below hb) (fun _ _ e => e))
                  dsimp only at s2
                  have b1 := k6.trans (n5.mono k6.size)
                  replace hss := Lib.hid hss
                  replace s1 := Lib.hid s1
                  replace s2 := Lib.hid s2
                  replace b1 := Lib.hid b1
                  replace n5 := Lib.hid n5
                  clear k1 k2 k3 k4 k5 k6 n1 n2 n4 hS3
                  first
                  | (refine Calls.mono (by simpa [*] using hss.out) ?_)
                  | trace_state
                  rintro e w7 ⟨rfl, hb7⟩
                  have s3 := Lib.hid (s2.out w7 hb7)
                  clear hss s2
                  go_wp2_with fail
                  refine s3.out.mono ?_
                  rintro e w8 ⟨rfl, hb8⟩
                  have b2 := hb7.trans (hb8.mono hb7.size)
                  have b3 := n5.out.trans (b2.mono n5.out.size)
                  have s4 := Lib.hid (s1.out w8 b3)
                  have b4 := b1.out.trans (b2.mono b1.out.size)
                  clear s3 s1 b3 b2 hb7 hb8
                  go_wp2_with fail
                  refine s4.out.mono ?_
                  rintro e w9 ⟨rfl, hb9⟩
                  have b5 := b4.trans (hb9.mono b4.size)
                  clear s4
                  go_wp2
                  go_ret
                  exact ⟨rfl, b5⟩
        · have m0 : ¬ (20 : Int) < (l.length : Int) := by omega
          have hq' : (4096 : Int) < (tot : Int) ∨ (¬ (4096 : Int) < (tot : Int) ∧ cut < 0) ∨ (¬ (4096 : Int) < (tot : Int) ∧ ¬ cut < 0 ∧ (l.length : Int) < cut) := by omega
          clear hq
          rcases hq' with q | ⟨q, q2⟩ | ⟨q, q2, q3⟩
          all_goals
            go_wp2
            go_ret
            exact ⟨rfl, hb1⟩
  · go_enter Try.func5, Try.ntmps5
    go_wp2_with fail
    refine (hal.out _).mono ?_
    rintro e w1 ⟨rfl, hb1⟩
    replace hS := hS.later hb1
    go_wp2
    go_loopw [7, 23] (fun z i wr => ∃ (k : Nat) (y : Int), k ≤ l.length ∧ i = .int .i64 k ∧ z = .int .i64 y ∧ w1 = wr) (fun _ i _ => (l.length - RowKit.intOf i).toNat)
    case atStart => exact ⟨0, 0, by omega, rfl, rfl, rfl⟩
    case round =>
      obtain ⟨k, y, hk, rfl, rfl, rfl⟩ := hrel
      by_cases hlt : k < l.length
      · obtain ⟨b, off, rfl, hbl, hc⟩ := hS.spot k hlt
        generalize l[k] = t at *
        go_wp2
        exact ⟨⟨k + 1, _, by omega, by go_num, rfl, by first | rfl | trivial⟩, by simp [RowKit.intOf]; omega⟩
      · obtain rfl : k = l.length := by omega
        have m0 : (20 : Int) < (l.length : Int) := by omega
        go_wp2
        go_ret
        exact ⟨rfl, hb1⟩
end Go.Proofs.Ytmhafgginbeihaa
