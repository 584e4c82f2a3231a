/- JournalRoom's walk, out of the landed contracts. -/
import Derived.Test.YtmhafgginbeihaaZJd
namespace Go.Proofs.Ytmhafgginbeihaa
open Go.RowKit Go.Sort Cr

/-- How many bytes the first so many texts have. -/
def sumTo (l : List ByteArray) : Nat → Nat
  | 0 => 0
  | k + 1 => sumTo l k + (l.getD k ByteArray.empty).size
theorem sumTo_le (l : List ByteArray) (hl : ∀ x ∈ l, x.size ≤ 140737488351232) : ∀ k, sumTo l k ≤ k * 140737488351232
  | 0 => by simp [sumTo]
  | k + 1 => by
    have h1 := sumTo_le l hl k
    have h2 : (l.getD k ByteArray.empty).size ≤ 140737488351232 := by
      rw [List.getD_eq_getElem?_getD]
      by_cases h : k < l.length
      · rw [List.getElem?_eq_getElem h]; exact hl _ (List.getElem_mem h)
      · rw [List.getElem?_eq_none (by omega)]; decide
    unfold sumTo
    omega
theorem sumTo_mono (l : List ByteArray) : ∀ k j, k ≤ j → sumTo l k ≤ sumTo l j
  | k, 0, h => by
    obtain rfl : k = 0 := by omega
    exact Nat.le_refl _
  | k, j + 1, h => by
    by_cases e : k = j + 1
    · subst e; exact Nat.le_refl _
    · have := sumTo_mono l k j (by omega)
      show sumTo l k ≤ sumTo l j + _
      omega
theorem sumTo_at (l : List ByteArray) (k : Nat) (h : k < l.length) : l[k].size ≤ sumTo l l.length := by
  have h1 := sumTo_mono l (k + 1) l.length (by omega)
  have h2 : sumTo l (k + 1) = sumTo l k + (l.getD k ByteArray.empty).size := rfl
  rw [List.getD_eq_getElem?_getD, List.getElem?_eq_getElem h] at h2
  have h3 : ((some l[k]).getD ByteArray.empty).size = l[k].size := rfl
  omega
/-- What is known while records are added. -/
structure Rooming (st : St) (js : JSt) (fr upto k : Nat) : Prop where
  dry : st.Dry 30 (k * 400)
  ok : js.fr = fr ∧ js.upto = upto ∧ fr ≤ js.spot ∧ js.spot ≤ upto
  seq : 0 ≤ js.seq ∧ js.seq ≤ k
  sick : js.sick = false
  out : ∀ i, i < 30 → i < fr ∨ upto ≤ i → leafOf (st.now i) = none
theorem Rooming.jok {st : St} {js : JSt} {fr upto k : Nat} (h : Rooming st js fr upto k) (hu : upto ≤ 30) (hk : k ≤ 1000) : js.Ok st := by
  obtain ⟨a, b, c, d⟩ := h.ok
  have := h.seq
  exact ⟨by omega, by omega, by rw [h.dry.len]; omega, by omega⟩
theorem Rooming.full {st : St} {js : JSt} {fr upto k : Nat} (h : Rooming st js fr upto k) : Rooming st js fr upto (k + 1) :=
  ⟨h.dry.mono (by omega), h.ok, by have := h.seq; omega, h.sick, h.out⟩
theorem Rooming.next {st : St} {js : JSt} {fr upto k : Nat} (h : Rooming st js fr upto k) (hu : upto ≤ 30) (hk : k ≤ 1000) {s : ByteArray} (hr : js.room (s.size : Int) = true) :
    ∃ st' js', addJ st js ((k : Int) + 1) s = (0, st', js') ∧ Rooming st' js' fr upto (k + 1) := by
  have hN : 1 ≤ (k : Int) + 1 ∧ (k : Int) + 1 ≤ 1152921504606846976 := by omega
  obtain ⟨st', h1, h2, h3⟩ := add_calm h.dry (h.jok hu hk) h.sick hN hr
  unfold JSt.room at hr
  simp only [Bool.and_eq_true, decide_eq_true_eq, Int.toNat_natCast] at hr
  obtain ⟨a, b, c, d⟩ := h.ok
  have hq := h.seq
  refine ⟨st', _, h1, ⟨h2.mono (by omega), ⟨a, b, ?_, ?_⟩, ?_, h.sick, fun i hi ho => ?_⟩⟩
  · show fr ≤ js.spot + cntR s.size; omega
  · show js.spot + cntR s.size ≤ upto; omega
  · show 0 ≤ js.seq + 1 ∧ js.seq + 1 ≤ ((k + 1 : Nat) : Int); omega
  · rw [h3 i hi, if_neg (by omega)]
    exact h.out i hi ho
theorem Rooming.start (fr upto : Nat) (h : fr ≤ upto) : Rooming (St.new 30) ⟨fr, upto, fr, 0, false⟩ fr upto 0 :=
  ⟨St.Dry.new 30 (by omega), ⟨rfl, rfl, Nat.le_refl _, h⟩, ⟨Int.le_refl 0, Int.le_refl 0⟩, rfl, fun i _ _ => blank_now 30 i (by omega)⟩
set_option maxRecDepth 100000 in
set_option maxHeartbeats 4000000 in
theorem journalRoom_any {Dk : (Nat → Prop) → World → Nat → St → Prop} {Jo : (Nat → Prop) → World → Nat → Nat → JSt → Prop} (K : LandedDk Dk) (S : LandedSt Dk) (J : LandedJo Dk Jo) (ao : Option Addr) (cap : Nat) (l : List ByteArray) (hl : ∀ x ∈ l, x.size ≤ 140737488351232) (hlen : l.length ≤ 140737488351232)
    (fr upto : Int) (w : World) (hS : StrsAt w ao l) :
    Calls Try.prog 7 #[.slice ao l.length cap, .int .i64 fr, .int .i64 upto] w fun e w' => e = .returned (.bool true) ∧ Below w.heap.size w w' := by
  have hal := Lib.hid (journalAlive_any K J)
  have hSw := hS
  by_cases h20 : l.length ≤ 20
  · have hsl := sumTo_le l hl
    go_enter Try.func7, Try.ntmps7
    go_wp2_with fail
    refine (hal.out _).mono ?_
    rintro e w1 ⟨rfl, hb1⟩
    replace hS := hS.later hb1
    go_wp2
    go_loopw [7, 27] (fun z i wr => ∃ k : Nat, k ≤ l.length ∧ i = .int .i64 k ∧ z = .int .i64 ((sumTo l k : Nat) : Int) ∧ w1 = wr) (fun _ i _ => (l.length - RowKit.intOf i).toNat)
    case atStart => exact ⟨0, by omega, rfl, rfl, rfl⟩
    case round =>
      obtain ⟨k, hk, rfl, rfl, rfl⟩ := hrel
      by_cases hlt : k < l.length
      · obtain ⟨b, off, rfl, hbl, hc⟩ := hS.spot k hlt
        have hs1 : sumTo l (k + 1) = sumTo l k + l[k].size := by
          show sumTo l k + (l.getD k ByteArray.empty).size = _
          rw [List.getD_eq_getElem?_getD, List.getElem?_eq_getElem hlt]; rfl
        have hs2 := hsl (k + 1)
        have hsum : IntKind.i64.wrap (((sumTo l k : Nat) : Int) + ((l[k].size : Nat) : Int)) = ((sumTo l (k + 1) : Nat) : Int) := by
          rw [IntKind.wrap_i64, hs1]
          have : k + 1 ≤ 20 := by omega
          have h6 : (k + 1) * 140737488351232 ≤ 20 * 140737488351232 := Nat.mul_le_mul_right _ this
          omega
        generalize l[k] = t at *
        generalize hz2 : sumTo l (k + 1) = z2 at *
        replace hz2 := Lib.hid hz2
        replace hs1 := Lib.hid hs1
        clear hs2
        go_wp2
        exact ⟨⟨k + 1, by omega, by go_num, by rw [hz2.out], by first | rfl | trivial⟩, by simp [RowKit.intOf]; omega⟩
      · obtain rfl : k = l.length := by omega
        have hat := sumTo_at l
        generalize sumTo l l.length = tot at *
        by_cases hq : tot ≤ 4096 ∧ 0 ≤ fr ∧ fr < upto ∧ upto ≤ 30
        · obtain ⟨q1, q2, q3, q4⟩ := hq
          obtain ⟨f0, rfl⟩ := Int.eq_ofNat_of_zero_le q2
          obtain ⟨u0, rfl⟩ := Int.eq_ofNat_of_zero_le (by omega : 0 ≤ upto)
          have m0 : ¬ (20 : Int) < (l.length : Int) := by omega
          have m1 : ¬ (4096 : Int) < (tot : Int) := by omega
          have m2 : ¬ ((u0 : Nat) : Int) ≤ ((f0 : Nat) : Int) := by omega
          have m3 : ¬ (30 : Int) < ((u0 : Nat) : Int) := by omega
          have hnew := Lib.hid (fun W => K.new 30 W (by decide) (by decide))
          have hrm := Rooming.start f0 u0 (by omega)
          have hop := fun F W p h => J.openJ F W p (St.new 30) f0 u0 0 [] f0 h (St.Ok.new 30) (⟨by omega, by omega, by rw [hrm.dry.len]; omega, by omega, by omega⟩ : openPlace (St.new 30) f0 u0 0) (recs_blank (blank_now 30 f0 (by omega)))
          generalize St.new 30 = st0 at *
          replace hop := Lib.hid hop
          replace hrm := Lib.hid hrm
          replace hat := Lib.hid hat
          go_wp2_with fail
          refine (hnew.out _).mono ?_
          rintro e w2 ⟨p, F, rfl, hD, hF, hb2⟩
          have hH : Have Dk w w2 p st0 := Have.of_wet hb1 hD hF hb2
          have hDh := Lib.hid (hop.out F w2 p hD)
          replace hS := hS.later hb2
          clear hD hF hb1 hb2 hop hnew
          go_wp2_with fail
          refine (hDh.out).mono ?_
          intro e w3 hO
          obtain ⟨j, v, rfl, hB, hr, -, hb3⟩ := Both.opened K hH hO
          obtain ⟨ao2, cap2, rfl, -⟩ := row_slice hr
          have hB0 : ∃ st js, Both Dk Jo w w3 p j st js ∧ Rooming st js f0 u0 0 := ⟨_, _, hB, by simpa using hrm.out⟩
          replace hS := hS.later hb3
          clear hr hO hH hDh hb3 hB hrm
          replace hB0 := Lib.hid hB0
          go_wp2
          go_loopw [67] (fun i wr => ∃ k : Nat, k ≤ l.length ∧ i = .int .i64 k ∧ ∃ st js, Both Dk Jo w wr p j st js ∧ Rooming st js f0 u0 k) (fun i _ => (l.length - RowKit.intOf i).toNat)
          case atStart => exact ⟨0, by omega, rfl, hB0.out⟩
          case round =>
            clear hS hB0
            obtain ⟨k, hk, rfl, st, js, hB, hR⟩ := hrel
            by_cases hlt : k < l.length
            · obtain ⟨b, off, rfl, hbl, hc⟩ := (hSw.below hB.below (Nat.le_refl _)).spot k hlt
              have hsz := hat.out k hlt
              generalize l[k] = s at *
              have hro := Lib.hid (hB.room K J (s.size : Int) (by omega) (by omega))
              cases hrm : js.room (s.size : Int) with
              | true =>
                rw [hrm] at hro
                obtain ⟨st', js', ha, hR'⟩ := hR.next (by omega) (by omega) hrm
                have had := fun wr (h : Both Dk Jo w wr p j st js) => h.add J (hR.jok (by omega) (by omega)) ((k : Int) + 1) s (hR.dry.room (by omega) (by have := cntR_le (n := s.size) (by omega); omega) (by have := cntR_le (n := s.size) (by omega); omega)) (by omega)
                rw [ha] at had
                replace had := Lib.hid had
                replace hR' := Lib.hid hR'
                clear hB hR ha
                replace hrm := Lib.hid hrm
                go_wp2_with fail
                refine (hro.out).mono ?_
                rintro e w4 ⟨rfl, hB4⟩
                have hA := Lib.hid (had.out _ hB4)
                clear hB4 had hro
                go_wp2_with fail
                refine (hA.out).mono ?_
                rintro e w5 ⟨rfl, hB5⟩
                clear hA
                go_wp2
                exact ⟨⟨k + 1, by omega, by go_num, st', js', hB5, hR'.out⟩, by simp [RowKit.intOf]; omega⟩
              | false =>
                rw [hrm] at hro
                have ha := add_full (st := st) hR.sick (N := (k : Int) + 1) (by omega) hrm
                have had := fun wr (h : Both Dk Jo w wr p j st js) => h.add J (hR.jok (by omega) (by omega)) ((k : Int) + 1) s (hR.dry.room (by omega) (by have := cntR_le (n := s.size) (by omega); omega) (by have := cntR_le (n := s.size) (by omega); omega)) (by omega)
                rw [ha] at had
                replace had := Lib.hid had
                have hR' := Lib.hid hR.full
                clear hB hR ha
                replace hrm := Lib.hid hrm
                go_wp2_with fail
                refine (hro.out).mono ?_
                rintro e w4 ⟨rfl, hB4⟩
                have hA := Lib.hid (had.out _ hB4)
                clear hB4 had hro
                go_wp2_with fail
                refine (hA.out).mono ?_
                rintro e w5 ⟨rfl, hB5⟩
                clear hA
                go_wp2
                exact ⟨⟨k + 1, by omega, by go_num, st, js, hB5, hR'.out⟩, by simp [RowKit.intOf]; omega⟩
            · obtain rfl : k = l.length := by omega
              have hok := hR.dry.ok (by omega) (by omega)
              have hlen30 := hR.dry.len
              have hout := Lib.hid hR.out
              have hsp := hR.ok.2.2.2
              have hsk := hR.sick
              clear hR
              go_wp2
              go_loopw [18] (fun i wr => ∃ k : Nat, k ≤ 30 ∧ i = .int .i64 k ∧ Both Dk Jo w wr p j st js) (fun i _ => (30 - RowKit.intOf i).toNat)
              case atStart => exact ⟨0, by omega, rfl, hB⟩
              case round =>
                clear hB
                obtain ⟨i, hi, rfl, hB⟩ := hrel
                by_cases hil : i < 30
                · have hrd := Lib.hid (hB.read K J hok i (by omega))
                  have hzz := now_size hok i (by omega)
                  have ho := hout.out i hil
                  have hsr := Lib.hid (fun W => S.read (st.now i) W (by omega))
                  have hi30 : (i : Int) < 30 := by omega
                  clear hB
                  generalize st.now i = x at *
                  cases hlf : leafOf x with
                  | none =>
                    rw [hlf] at hsr
                    unfold leafV leafA at hsr
                    replace hlf := Lib.hid hlf
                    replace ho := 0
                    go_wp2_with fail
                    refine hrd.out.mono ?_
                    rintro e w6 ⟨rfl, hB6⟩
                    go_wp2_with fail
                    refine (hsr.out _).mono ?_
                    rintro e w7 ⟨rfl, hb7⟩
                    replace hB6 := hB6.later K J hb7
                    have hB7 := Lib.hid (hB6.later K J ((Below.refl _ _).alloc (Nat.le_refl _) (.cells #[.int .i64 0, .int .i64 0, .string ⟨#[]⟩] 52)))
                    clear hB6 hrd hb7
                    go_wp2
                    exact ⟨⟨i + 1, by omega, by go_num, hB7.out⟩, by simp [RowKit.intOf]; omega⟩
                  | some y =>
                    obtain ⟨N, I, D⟩ := y
                    rw [hlf] at hsr ho
                    have hin : ¬ (i : Int) < (f0 : Int) ∧ ¬ (u0 : Int) ≤ (i : Int) := by
                      refine ⟨fun e => ?_, fun e => ?_⟩
                      · have := ho (.inl (by omega)); cases this
                      · have := ho (.inr (by omega)); cases this
                    obtain ⟨i1, i2⟩ := hin
                    unfold leafV leafA at hsr
                    dsimp only at hsr
                    replace hlf := Lib.hid hlf
                    replace ho := 0
                    go_wp2_with fail
                    refine hrd.out.mono ?_
                    rintro e w6 ⟨rfl, hB6⟩
                    go_wp2_with fail
                    refine (hsr.out _).mono ?_
                    rintro e w7 ⟨rfl, hb7⟩
                    replace hB6 := hB6.later K J hb7
                    have hB7 := Lib.hid (hB6.later K J ((Below.refl _ _).alloc (Nat.le_refl _) (.cells #[.int .i64 N, .int .i64 I, .string D] 52)))
                    clear hB6 hrd hb7
                    go_wp2
                    exact ⟨⟨i + 1, by omega, by go_num, hB7.out⟩, by simp [RowKit.intOf]; omega⟩
                · obtain rfl : i = 30 := by omega
                  have hat2 := Lib.hid (hB.spot K J)
                  have hsi := Lib.hid (fun wr (h : Both Dk Jo w wr p j st js) => h.sick K J)
                  rw [hsk] at hsi
                  have hsp2 : ((js.spot : Nat) : Int) ≤ (u0 : Int) := by omega
                  clear hB hsk
                  go_wp2_with fail
                  refine hat2.out.mono ?_
                  rintro e w8 ⟨rfl, hB8⟩
                  have hsi2 := Lib.hid (hsi.out _ hB8)
                  clear hB8 hsi hat2
                  go_wp2_with fail
                  refine hsi2.out.mono ?_
                  rintro e w9 ⟨rfl, hB9⟩
                  have hb := Lib.hid hB9.below
                  clear hB9 hsi2
                  go_wp2
                  go_ret
                  exact ⟨rfl, hb.out⟩
        · have m0 : ¬ (20 : Int) < (l.length : Int) := by omega
          have hq' : (4096 : Int) < (tot : Int) ∨ (¬ (4096 : Int) < (tot : Int) ∧ fr < 0) ∨ (¬ (4096 : Int) < (tot : Int) ∧ ¬ fr < 0 ∧ upto ≤ fr) ∨ (¬ (4096 : Int) < (tot : Int) ∧ ¬ fr < 0 ∧ ¬ upto ≤ fr ∧ 30 < upto) := by omega
          clear hq
          rcases hq' with q | ⟨q, q2⟩ | ⟨q, q2, q3⟩ | ⟨q, q2, q3, q4⟩
          all_goals
            go_wp2
            go_ret
            exact ⟨rfl, hb1⟩
  · go_enter Try.func7, Try.ntmps7
    go_wp2_with fail
    refine (hal.out _).mono ?_
    rintro e w1 ⟨rfl, hb1⟩
    replace hS := hS.later hb1
    go_wp2
    go_loopw [7, 27] (fun z i wr => ∃ (k : Nat) (y : Int), k ≤ l.length ∧ i = .int .i64 k ∧ z = .int .i64 y ∧ w1 = wr) (fun _ i _ => (l.length - RowKit.intOf i).toNat)
    case atStart => exact ⟨0, 0, by omega, rfl, rfl, rfl⟩
    case round =>
      obtain ⟨k, y, hk, rfl, rfl, rfl⟩ := hrel
      by_cases hlt : k < l.length
      · obtain ⟨b, off, rfl, hbl, hc⟩ := hS.spot k hlt
        generalize l[k] = t at *
        go_wp2
        exact ⟨⟨k + 1, _, by omega, by go_num, rfl, by first | rfl | trivial⟩, by simp [RowKit.intOf]; omega⟩
      · obtain rfl : k = l.length := by omega
        have m0 : (20 : Int) < (l.length : Int) := by omega
        go_wp2
        go_ret
        exact ⟨rfl, hb1⟩
end Go.Proofs.Ytmhafgginbeihaa
