/- Stage 12: the document's Range, walked. No condition but the list's size. -/
import Derived.Test.YtgpjbacggcfcmaaOl
import Derived.BigQuiet
namespace Go.Proofs.Ytgpjbacggcfcmaa
open Go.RowKit Wm

/-- Does the next that counts take the best one's place? -/
def newB (t : Zbl) (fl : Bool) (i : Nat) : Option Nat → Bool
  | none => true
  | some c => ltB fl (nthZ t i).1 (nthZ t c).1
set_option maxRecDepth 100000 in
set_option maxHeartbeats 4000000 in
theorem lsrange_any {F : Nat → Prop} {W : World} {m : Nat} {t : Zbl} (h : LsRef F W m t) (ho : OnceZ t) (hlen : t.length ≤ 1000) (a b : Int) (fl : Bool) :
    Calls Try.prog 10 #[.pointer (some ⟨m, 0, none⟩), .int .i64 a, .int .i64 b, .bool fl] W (RefOut (rangeZ t a b fl) W) := by
  obtain ⟨vk, va, hV, -⟩ := h
  have c0 := hV.c0
  have ml := hV.lt
  have hcell := own_slice hV.o0
  rw [List.length_map] at hcell
  obtain ⟨w2, hmk, hS0⟩ := Sel.make W t.length (by omega)
  rcases hcell with ⟨rfl, hz⟩ | ⟨g, cap, rfl, hg, hcap, hcl, -⟩
  · have ht : t = [] := List.length_eq_zero_iff.1 hz
    subst ht
    have hT : rangeZ [] a b fl = [] := by cases fl <;> rfl
    rw [hT]
    have c0' := (hS0.below.cell (p := ⟨m, 0, none⟩) ml).trans c0
    have hfin : RefOut [] W (.returned (.tuple #[.slice none 0 0, .slice none 0 0])) w2 := ⟨none, 0, none, 0, rfl, ⟨fun i hi => by cases hi⟩, ⟨fun i hi => by cases hi⟩, hS0.below⟩
    clear ho hlen hz hT hV hS0
    go_enter Try.func10, Try.ntmps10
    go_wp2_with (refine wpList_make_run _ rfl _ _ _ rfl _ _ rfl rfl _ _ hmk ?_)
    go_loopw [10, 11, 27] (fun sv av iv wr => sv = .slice none 0 0 ∧ av = .slice none 0 0 ∧ iv = .int .i64 0 ∧ w2 = wr) (fun _ _ _ _ => 0)
    case atStart => exact ⟨rfl, rfl, rfl, rfl⟩
    case round =>
      obtain ⟨rfl, rfl, rfl, rfl⟩ := hrel
      go_wp2
      go_ret2
      exact hfin
  · have hbn := Lib.hid (fun r => best_none (r := r) (a := a) (b := b) (fl := fl) ho)
    have hbs := Lib.hid (fun r c => best_some (r := r) (c := c) (a := a) (b := b) (fl := fl) ho)
    have hel : ∀ r j, elB t a b fl r j = (keepZ a b (nthZ t j) && !(decide (nthZ t j ∈ (rangeZ t a b fl).take r))) := fun r j => rfl
    have hTl : (rangeZ t a b fl).length ≤ t.length := range_length ..
    generalize rangeZ t a b fl = T at *
    replace hel := Lib.hid hel
    have hst := Lib.hid (fun r c D => DoneIs.step (m := t) (T := T) (D := D) (r := r) (c := c) ho)
    have hkey : ∀ i (hi : i < t.length), W.cell? ⟨g, i, none⟩ = some (.int .i64 (nthZ t i).1) := fun i hi => by
      refine hcl _ _ ?_
      unfold rowZ
      rw [List.getElem?_map, List.getElem?_map, List.getElem?_eq_getElem hi, nthZ_eq hi]
      rfl
    have hats : 0 < t.length → ∃ g2 cap2, va = .slice (some ⟨g2, 0, none⟩) t.length cap2 ∧ g2 < W.heap.size ∧ ∀ i (hi : i < t.length), W.cell? ⟨g2, i, none⟩ = some (.int .i64 (nthZ t i).2) := fun h0 => by
      have hc := own_slice hV.o1
      rw [List.length_map] at hc
      rcases hc with ⟨-, hz⟩ | ⟨g2, cap2, rfl, hg2, -, hc, -⟩
      · omega
      · refine ⟨g2, cap2, rfl, hg2, fun i hi => hc _ _ ?_⟩
        unfold rowZ
        rw [List.getElem?_map, List.getElem?_map, List.getElem?_eq_getElem hi, nthZ_eq hi]
        rfl
    have c1 := hV.c1
    replace hkey := Lib.hid hkey
    have hats := Lib.hid hats
    have hD0 := DoneIs.start t T
    have c0' := (hS0.below.cell (p := ⟨m, 0, none⟩) ml).trans c0
    clear hcl ho hV
    go_enter Try.func10, Try.ntmps10
    go_wp2_with (refine wpList_make_run _ rfl _ _ _ rfl _ _ rfl rfl _ _ hmk ?_)
    go_loopw [10, 11, 27] (fun sv av iv wr => ∃ (r : Nat) (dl : List Bool), r ≤ t.length ∧ iv = .int .i64 r ∧ r ≤ T.length ∧ DoneIs t T r dl ∧ Sel W wr W.heap.size t.length dl ((T.take r).map Prod.fst) ((T.take r).map Prod.snd) sv av) (fun _ _ iv _ => (t.length - RowKit.intOf iv).toNat)
    case atStart => exact ⟨0, _, by omega, rfl, by omega, hD0, hS0⟩
    case round =>
      clear hD0 hS0 hmk c0'
      obtain ⟨r, dl, hr, rfl, hrT, hD, hS⟩ := hrel
      have c0' := (hS.below.cell (p := ⟨m, 0, none⟩) ml).trans c0
      have c1' := (hS.below.cell (p := ⟨m, 1, none⟩) ml).trans c1
      have ml' := Nat.lt_of_lt_of_le ml hS.below.size
      have hkey' := Lib.hid (fun i hi => (hS.below.cell (p := ⟨g, i, none⟩) hg).trans (hkey.out i hi))
      by_cases hlt : r < t.length
      · go_wp2_with fail
        go_loopw [13, 34] (fun bv iv wx => ∃ (i : Nat) (o : Option Nat), i ≤ t.length ∧ iv = .int .i64 i ∧ bv = .int .i64 (bestI o) ∧ BestIs t (elB t a b fl r) fl i o ∧ wr = wx) (fun _ iv _ => (t.length - RowKit.intOf iv).toNat)
        case atStart => exact ⟨0, none, by omega, rfl, rfl, BestIs.start, rfl⟩
        case round =>
          obtain ⟨i, o, hi, rfl, rfl, hB, rfl⟩ := hrel
          by_cases hil : i < t.length
          · have y0 := hkey'.out i hil
            have yd := hS.done (hD.2 i hil)
            go_upto_region 10 with (fail)
            go_cut [56] (fun c wx => c = .bool (!(elB t a b fl r i)) ∧ wr = wx)
            case first =>
              have he := hel.out r i
              unfold keepZ at he
              generalize decide (nthZ t i ∈ T.take r) = d at *
              generalize elB t a b fl r i = eb at *
              generalize (nthZ t i).1 = x at *
              clear hB hD hS hst hbn hbs
              cases d with
              | true =>
                rw [Bool.not_true, Bool.and_false] at he
                subst he
                go_wp2_with fail
                go_meet
                case rel => exact ⟨rfl, rfl⟩
              | false =>
                rw [Bool.not_false, Bool.and_true] at he
                by_cases k1 : x < a
                · have b1 : decide (x < a) = true := decide_eq_true k1
                  have b2 : decide (a ≤ x) = false := decide_eq_false (by omega)
                  rw [b2, Bool.false_and] at he
                  subst he
                  clear b2
                  go_wp2_with fail
                  go_meet
                  case rel => exact ⟨rfl, rfl⟩
                · have b1 : decide (x < a) = false := decide_eq_false k1
                  have b2 : decide (a ≤ x) = true := decide_eq_true (by omega)
                  rw [b2, Bool.true_and] at he
                  clear b2
                  by_cases k2 : b = 0
                  · subst k2
                    rw [decide_eq_true rfl, Bool.true_or] at he
                    subst he
                    go_wp2_with fail
                    go_meet
                    case rel => exact ⟨rfl, rfl⟩
                  · have b3 : (b == 0) = false := by simpa using k2
                    have b4 : (b != 0) = true := by simpa using k2
                    rw [decide_eq_false k2, Bool.false_or] at he
                    by_cases k3 : b < x
                    · have b5 : decide (b < x) = true := decide_eq_true k3
                      rw [decide_eq_false (show ¬ x ≤ b by omega)] at he
                      subst he
                      go_wp2_with fail
                      go_meet
                      case rel => exact ⟨rfl, rfl⟩
                    · have b5 : decide (b < x) = false := decide_eq_false k3
                      rw [decide_eq_true (show x ≤ b by omega)] at he
                      subst he
                      go_wp2_with fail
                      go_meet
                      case rel => exact ⟨rfl, rfl⟩
            case rest =>
              obtain ⟨rfl, rfl⟩ := hcut
              cases hE : elB t a b fl r i with
              | false =>
                have hB2 := hB.skip hE
                replace hE := Lib.hid hE
                go_wp2_with fail
                go_roundw
                case measure => simp [RowKit.intOf]; omega
                case rel => exact ⟨i + 1, o, by omega, rfl, rfl, hB2, trivial⟩
              | true =>
                have hB2 : newB t fl i o = true → BestIs t (elB t a b fl r) fl (i + 1) (some i) := fun hN => by
                  cases o with
                  | none => exact hB.first hE
                  | some c => exact hB.better hE hN
                have hB3 : newB t fl i o = false → BestIs t (elB t a b fl r) fl (i + 1) o := fun hN => by
                  cases o with
                  | none => cases hN
                  | some c => exact hB.worse hN
                replace hE := Lib.hid hE
                have hoc : ∀ c, o = some c → c < t.length := fun c e => by
                  subst e
                  have := hB.1
                  omega
                go_upto_region 11 with (fail)
                go_cut [87] (fun c wx => c = .bool (newB t fl i o) ∧ wr = wx)
                case first =>
                  clear hB hD hS hst hbn hbs hB2 hB3 hel
                  cases o with
                  | none =>
                    have hnb : newB t fl i none = true := rfl
                    generalize newB t fl i none = nb at *
                    subst hnb
                    rw [show bestI none = -1 from rfl]
                    go_wp2_with fail
                    go_meet
                    case rel => exact ⟨rfl, rfl⟩
                  | some c =>
                    have hct := hoc c rfl
                    have yc := hkey'.out c hct
                    have hnb : newB t fl i (some c) = ltB fl (nthZ t i).1 (nthZ t c).1 := rfl
                    generalize newB t fl i (some c) = nb at *
                    rw [show bestI (some c) = ((c : Nat) : Int) from rfl]
                    generalize (nthZ t i).1 = x at *
                    generalize (nthZ t c).1 = y at *
                    have d1 : decide (((c : Nat) : Int) < 0) = false := decide_eq_false (by omega)
                    clear hoc
                    cases fl with
                    | true =>
                      unfold ltB at hnb
                      rw [if_pos rfl] at hnb
                      by_cases k : y < x
                      · have k' : decide (y < x) = true := decide_eq_true k
                        rw [k'] at hnb
                        subst hnb
                        go_wp2_with fail
                        go_meet
                        case rel => exact ⟨rfl, rfl⟩
                      · have k' : decide (y < x) = false := decide_eq_false k
                        rw [k'] at hnb
                        subst hnb
                        go_wp2_with fail
                        go_meet
                        case rel => exact ⟨rfl, rfl⟩
                    | false =>
                      unfold ltB at hnb
                      rw [if_neg (by decide)] at hnb
                      by_cases k : x < y
                      · have k' : decide (x < y) = true := decide_eq_true k
                        rw [k'] at hnb
                        subst hnb
                        go_wp2_with fail
                        go_meet
                        case rel => exact ⟨rfl, rfl⟩
                      · have k' : decide (x < y) = false := decide_eq_false k
                        rw [k'] at hnb
                        subst hnb
                        go_wp2_with fail
                        go_meet
                        case rel => exact ⟨rfl, rfl⟩
                case rest =>
                  obtain ⟨rfl, rfl⟩ := hcut
                  cases hN : newB t fl i o with
                  | true =>
                    have hB4 := hB2 hN
                    clear hB2 hB3 hoc hB
                    replace hN := Lib.hid hN
                    go_wp2_with fail
                    go_roundw
                    case measure => simp [RowKit.intOf]; omega
                    case rel => exact ⟨i + 1, some i, by omega, rfl, rfl, hB4, trivial⟩
                  | false =>
                    have hB4 := hB3 hN
                    clear hB2 hB3 hoc hB
                    replace hN := Lib.hid hN
                    go_wp2_with fail
                    go_roundw
                    case measure => simp [RowKit.intOf]; omega
                    case rel => exact ⟨i + 1, o, by omega, rfl, rfl, hB4, trivial⟩
          · have hit : i = t.length := by omega
            subst hit
            cases o with
            | none =>
              have hTr : r = T.length := Nat.le_antisymm hrT (hbn.out r hB)
              have ht1 : T.take r = T := by rw [hTr, List.take_length]
              rw [ht1] at hS
              obtain ⟨x1, d1, rfl, hi1⟩ := IntsAt.of_row hS.o0
              obtain ⟨x2, d2, rfl, hi2⟩ := IntsAt.of_row hS.o1
              rw [List.length_map, List.length_map]
              rw [show bestI none = -1 from rfl]
              have hbel := hS.below
              clear hTr ht1 hB hbn hbs hel hst hD hS
              go_wp2_with fail
              go_ret2
              exact ⟨x1, d1, x2, d2, rfl, hi1, hi2, hbel⟩
            | some c =>
              obtain ⟨hrl, hce, hct⟩ := hbs.out r c hB
              have hD2 := hst.out r c dl hD hrl hct hce
              have ydc := hS.done (hD.2 c hct)
              have yfz := hS.unfrozen c
              have hSm := hS.mark c true
              obtain ⟨g5, q5, w5, hr5, hS5⟩ := hSm.app0 (nthZ t c).1 (by rw [List.length_map, List.length_take]; omega)
              obtain ⟨g6, q6, w6, hr6, hS6⟩ := hS5.app1 (nthZ t c).2 (by rw [List.length_map, List.length_take]; omega)
              obtain ⟨g2, cap2, rfl, hg2, hz2⟩ := hats.out (by omega)
              have z0 := (hSm.below.cell (p := ⟨m, 0, none⟩) ml).trans c0
              have z1 := (hSm.below.cell (p := ⟨g, c, none⟩) hg).trans (hkey.out c hct)
              have z2 := (hS5.below.cell (p := ⟨m, 1, none⟩) ml).trans c1
              have z3 := (hS5.below.cell (p := ⟨g2, c, none⟩) hg2).trans (hz2 c hct)
              have htk : T.take (r + 1) = T.take r ++ [nthZ t c] := by rw [hce, List.take_append_getElem]
              rw [show (T.take r).map Prod.fst ++ [(nthZ t c).1] = (T.take (r + 1)).map Prod.fst from by rw [htk, List.map_append]; rfl, show (T.take r).map Prod.snd ++ [(nthZ t c).2] = (T.take (r + 1)).map Prod.snd from by rw [htk, List.map_append]; rfl] at hS6
              rw [show bestI (some c) = ((c : Nat) : Int) from rfl]
              have hb0 : decide (((c : Nat) : Int) < 0) = false := decide_eq_false (by omega)
              have hcap2 : c < t.length := hct
              replace hce := Lib.hid hce
              replace htk := Lib.hid htk
              clear hB hbn hbs hel hst hD hSm hS5 hz2
              generalize (nthZ t c).1 = x at *
              generalize (nthZ t c).2 = z at *
              have hl1 : ((T.take r).map Prod.fst).length = r := by rw [List.length_map, List.length_take]; omega
              have hl2 : ((T.take r).map Prod.snd).length = r := by rw [List.length_map, List.length_take]; omega
              rw [hl1] at hr5 hS6
              rw [hl2] at hr6 hS6
              clear hl1 hl2
              go_upto_region 16 with (fail)
              generalize hwm : wr.setCell ⟨W.heap.size, c, none⟩ (.bool true) = wm at *
              clear hwm
              go_upto_region 17 with (at_builtin; refine Lib.wpList_append_run _ rfl _ _ _ _ rfl _ _ rfl rfl _ _ hr5 ?_)
              go_wp2_with (at_builtin; refine Lib.wpList_append_run _ rfl _ _ _ _ rfl _ _ rfl rfl _ _ hr6 ?_)
              go_roundw
              case measure => simp [RowKit.intOf]; omega
              case rel => exact ⟨r + 1, _, by omega, rfl, by omega, hD2, hS6⟩
      · have hTr : r = T.length := by omega
        have ht1 : T.take r = T := by rw [hTr, List.take_length]
        rw [ht1] at hS
        obtain ⟨x1, d1, rfl, hi1⟩ := IntsAt.of_row hS.o0
        obtain ⟨x2, d2, rfl, hi2⟩ := IntsAt.of_row hS.o1
        rw [List.length_map, List.length_map]
        have hbel := hS.below
        have hrt : r = t.length := by omega
        subst hrt
        clear hTr ht1 hbn hbs hel hst hD hS
        go_wp2_with fail
        go_ret2
        exact ⟨x1, d1, x2, d2, rfl, hi1, hi2, hbel⟩
end Go.Proofs.Ytgpjbacggcfcmaa
