/- PlatterLasts' walk, out of the landed contracts. -/
import Derived.Test.YthmcdldmmhnleaaPy
namespace Go.Proofs.Ythmcdldmmhnleaa
open Go.RowKit Go.Sort

theorem does_lit2 {Dk : (Nat → Prop) → World → Nat → St → Prop} (K : LandedDk Dk) (F G : Nat → Prop) (W : World) (p m : Nat) (st : St) (h : Pair Dk F G W p m st) (hok : st.Ok) (kind n : Int) (data : ByteArray) (mask : Nat) (cut : Int) (hc : (⟨kind, n, data, mask, cut⟩ : Call).Wf) :
    Calls Try.prog 12 #[.pointer (some ⟨p, 0, none⟩), .pointer (some ⟨m, 0, none⟩), .agg #[.int .i64 kind, .int .i64 n, .string data, .int .u64 ((mask : Nat) : Int), .int .i64 cut]] W fun e W' => e = .returned (.bool true) ∧ PairPost Dk F G p m (callSt st ⟨kind, n, data, mask, cut⟩) W W' :=
  does_lit K F G W p m st h hok kind n data mask cut hc

set_option maxRecDepth 100000 in
set_option maxHeartbeats 8000000 in
theorem platterLasts_any {Dk : (Nat → Prop) → World → Nat → St → Prop} (K : LandedDk Dk) (sectors : Int) (hse : -9223372036854775808 ≤ sectors ∧ sectors ≤ 9223372036854775807)
    (ao : Option Addr) (cap : Nat) (l : List Call) (hw : ∀ x ∈ l, x.Wf) (hlen : l.length ≤ 140737488351232) (ao2 : Option Addr) (cap2 : Nat) (l2 : List Call) (hw2 : ∀ x ∈ l2, x.Wf) (hlen2 : l2.length ≤ 140737488351232)
    (mask : Nat) (hmask : mask < 18446744073709551616) (torn cut : Int) (w : World) (hS : CallsAt w ao l) (hS2 : CallsAt w ao2 l2) :
    Calls Try.prog 4 #[.int .i64 sectors, .slice ao l.length cap, .slice ao2 l2.length cap2, .int .u64 ((mask : Nat) : Int), .int .i64 torn, .int .i64 cut] w fun e w' => e = .returned (.bool true) ∧ Below w.heap.size w w' := by
  have hS0 := hS
  have hS20 := hS2
  have hal := Lib.hid (platterAlive_any K)
  have hgr := Lib.hid (greatp_any ao cap l hw hlen)
  have hgr2 := Lib.hid (greatp_any ao2 cap2 l2 hw2 hlen2)
  by_cases hq : greatP l = false ∧ greatP l2 = false ∧ 0 ≤ sectors ∧ sectors ≤ 40
  · obtain ⟨g, g2, q1, q2⟩ := hq
    have hl80 : l.length ≤ 80 := by unfold greatP at g; simp at g; omega
    have hl280 : l2.length ≤ 80 := by unfold greatP at g2; simp at g2; omega
    rw [g] at hgr
    rw [g2] at hgr2
    clear g g2
    have n1 : decide (sectors < 0) = false := decide_eq_false (by omega)
    have n2 : decide (40 < sectors) = false := decide_eq_false (by omega)
    have hnew := Lib.hid (fun W => K.new sectors W hse.1 hse.2)
    have hrnew := Lib.hid (fun W => refnew_any sectors W)
    have ho0 := Lib.hid (St.OkN.new sectors)
    have hln := Lib.hid (new_length sectors q1 q2)
    generalize St.new sectors = st0 at *
    obtain ⟨n, rfl⟩ := Int.eq_ofNat_of_zero_le q1
    have hn40 : n ≤ 40 := by omega
    have hln0 : st0.safe.length = n := by have := hln.out; omega
    clear hln
    replace q1 := Lib.hid q1
    go_enter Try.func4, Try.ntmps4
    go_wp2_with fail
    refine (hal.out _).mono ?_
    rintro e w1 ⟨rfl, hb1⟩
    replace hS := hS.later hb1
    replace hS2 := hS2.later hb1
    go_wp2_with fail
    refine (hgr.out _ hS).mono ?_
    rintro e w2 ⟨rfl, hb2⟩
    replace hS2 := hS2.later hb2
    replace hb1 := hb1.trans (hb2.mono hb1.size)
    clear hb2 hS hgr hal
    go_wp2_with fail
    refine (hgr2.out _ hS2).mono ?_
    rintro e w3 ⟨rfl, hb2⟩
    replace hb1 := hb1.trans (hb2.mono hb1.size)
    clear hb2 hS2 hgr2
    go_wp2_with fail
    refine (hnew.out _).mono ?_
    rintro e w4 ⟨p, F, rfl, hD, hF, hb2⟩
    have z1 := hb1.size
    have z2 := hb2.size
    replace hb1 := hb1.trans (hb2.mono hb1.size)
    clear hb2 hnew
    go_wp2_with fail
    refine (hrnew.out _).mono ?_
    rintro e w5 ⟨m, G, rfl, hRf, hG, hb2⟩
    have z3 := hb2.size
    have hP0 : Playing Dk w w5 p m 0 st0 := ⟨⟨F, G, ⟨K.later hD hb2, hRf, fun k hk hg => by have := K.near _ _ _ _ hD k hk; have := hG k hg; omega⟩,
      fun j hj => by have := hF j hj; omega, fun j hj => by have := hG j hj; omega⟩, ho0.out, hb1.trans (hb2.mono hb1.size)⟩
    clear hb2 hrnew hD hF hRf hG hb1 z1 z2 z3
    go_wp2_with fail
    go_loopw [47] (fun i wr => ∃ (k : Nat) (st : St), k ≤ l.length ∧ i = .int .i64 k ∧ st.safe.length = n ∧ Playing Dk w wr p m k st) (fun i _ => (l.length - intOf i).toNat)
    case atStart => exact ⟨0, st0, by omega, rfl, hln0, hP0⟩
    case round =>
      clear hP0
      obtain ⟨k, st, hk, rfl, hsl, hP⟩ := hrel
      replace hsl := Lib.hid hsl
      by_cases hlt : k < l.length
      · obtain ⟨b, off, rfl, hbl, hc⟩ := (hS0.below hP.below (Nat.le_refl _)).spot k hlt
        have hx := hw _ (List.getElem_mem hlt)
        obtain ⟨⟨F, G, hPr, hF, hG⟩, hok, hb⟩ := hP
        have hok2 := hok.call hx
        have hsl2 := Lib.hid ((call_length st l[k]).trans hsl.out)
        generalize l[k] = x at *
        obtain ⟨kind, cn, data, cmask, ccut⟩ := x
        have c0 := hc 0 _ rfl
        have c1 := hc 1 _ rfl
        have c2 := hc 2 _ rfl
        have c3 := hc 3 _ rfl
        have c4 := hc 4 _ rfl
        dsimp only [Nat.add_zero] at c0 c1 c2 c3 c4
        clear hc
        have hal : Below wr.heap.size wr (wr.alloc (.cells #[.int .i64 kind, .int .i64 cn, .string data, .int .u64 ((cmask : Nat) : Int), .int .i64 ccut] 31)) := (Below.refl _ _).alloc (Nat.le_refl _) _
        have hbx := hb.trans (hal.mono hb.size)
        have hPx := hPr.later K hal
        have hdo := Lib.hid (fun W h => does_lit K F G W p m st h (hok.ok (by omega)) kind cn data cmask ccut hx)
        have hnext := Lib.hid (fun w2 w3 a b => Playing.next (w := w) (wx := wr.alloc (.cells #[.int .i64 kind, .int .i64 cn, .string data, .int .u64 ((cmask : Nat) : Int), .int .i64 ccut] 31)) (w2 := w2) (w3 := w3) (p := p) (m := m) K hF hG hbx hok2 a b)
        generalize callSt st ⟨kind, cn, data, cmask, ccut⟩ = st2 at *
        clear hPr hal hok hok2 hF hG hbx hx
        go_wp2_with fail
        refine (hdo.out _ hPx).mono ?_
        rintro e w5 ⟨rfl, hpp⟩
        go_wp2
        exact ⟨⟨k + 1, st2, by omega, by go_num, hsl2.out, hnext.out _ _ hpp (Below.refl _ _)⟩, by simp [intOf]; omega⟩
      · obtain rfl : k = l.length := by omega
        obtain ⟨⟨F, G, hPr, hF, hG⟩, hok, hb⟩ := hP
        have hSo : Solo Dk w wr p st := ⟨⟨F, hPr.a, hF⟩, hb⟩
        have hoa := hok.armed 0 (by omega)
        have hos := hoa.sync
        obtain ⟨e1, e2, e3⟩ := synced_calm st
        have hsl2 : (st.armed 0).sync.2.safe.length = n := (sync_length _).trans hsl.out
        have hAr := Lib.hid (hSo.op (fun F h => K.arm F wr p st 0 h (hok.ok (by omega))))
        have hSy := Lib.hid (fun W (h : Solo Dk w W p (st.armed 0)) => h.op (fun F h => K.sync F W p (st.armed 0) h (hoa.ok (by omega))))
        rw [e1] at hSy
        generalize (st.armed 0).sync.2 = ss at *
        have hmk := Lib.hid (fun W (h : Solo Dk w W p ss) => h.make K n hn40)
        clear e1 hPr hF hG hb hSo hsl
        go_wp2_with fail
        refine hAr.out.mono ?_
        rintro e w6 ⟨rfl, hs6⟩
        go_wp2_with fail
        refine (hSy.out _ hs6).mono ?_
        rintro e w7 ⟨rfl, hs7⟩
        obtain ⟨w8, hrun, hs8⟩ := hmk.out _ hs7
        have hg8 := hs7.below.size
        clear hs6 hs7 hAr hSy hmk
        go_wp2_with fail
        generalize w7.heap.size = g at *
        go_loopw [65] (fun i wr => ∃ (k : Nat) (xs : List ByteArray), k ≤ n ∧ i = .int .i64 k ∧ (∀ j, j < k → xs[j]? = some (ss.now j)) ∧ Row1 Dk w wr p ss n g xs) (fun i _ => (n - intOf i).toNat)
        case atStart => exact ⟨0, _, by omega, rfl, fun j hj => by omega, hs8⟩
        case round =>
          clear hs8
          obtain ⟨k, xs, hk, rfl, hxs, hR⟩ := hrel
          by_cases hkn : k < n
          · have hRd := Lib.hid (hR.read K (hos.ok (by omega)) k (by omega))
            have hxl : xs.length = n := by have := hR.row.1; unfold rowS at this; rw [List.length_map] at this; omega
            clear hR
            go_wp2_with fail
            refine hRd.out.mono ?_
            rintro e w9 ⟨rfl, hR9⟩
            obtain ⟨x0, -, z0, f0, l0⟩ := row_spot hR9.row k hkn
            have hR10 := Lib.hid (hR9.store K k (ss.now k))
            have hx2 := spot_set hxs (by omega : k < xs.length)
            clear hRd hR9 hxs
            generalize ss.now k = sk at *
            go_wp2
            exact ⟨⟨k + 1, _, by omega, by go_num, hx2, hR10.out⟩, by simp [intOf]; omega⟩
          · obtain rfl : n = k := by omega
            obtain ⟨w9, hrun, hR9⟩ := hR.make K hn40
            have hg9 := hR.below.size
            have hM0 : Marked ss.safe (List.replicate n false) ss := synced_marked e2 e3 _ (by rw [List.length_replicate]; omega)
            clear hR
            go_wp2_with fail
            generalize wr.heap.size = b at *
            go_loopw [82] (fun i wr => ∃ (k : Nat) (sd : St) (ys : List Bool), k ≤ l2.length ∧ i = .int .i64 k ∧ sd.OkN (l.length + 1 + k) ∧ Marked ss.safe ys sd ∧ Row2 Dk w wr p sd n g xs b ys) (fun i _ => (l2.length - intOf i).toNat)
            case atStart => exact ⟨0, ss, _, by omega, rfl, hos, hM0, hR9⟩
            case round =>
              clear hR9 hM0
              obtain ⟨k2, sd, ys, hk2, rfl, hod, hM, hR⟩ := hrel
              by_cases hlt2 : k2 < l2.length
              · obtain ⟨b0, off, rfl, hbl, hc⟩ := (hS20.below hR.below (Nat.le_refl _)).spot k2 hlt2
                have hx := hw2 _ (List.getElem_mem hlt2)
                generalize l2[k2] = x at *
                obtain ⟨kind, cn, data, cmask, ccut⟩ := x
                have hdt := hx.data
                dsimp only at hdt
                have c0 := hc 0 _ rfl
                have c1 := hc 1 _ rfl
                have c2 := hc 2 _ rfl
                have c3 := hc 3 _ rfl
                have c4 := hc 4 _ rfl
                dsimp only [Nat.add_zero] at c0 c1 c2 c3 c4
                clear hc hx
                by_cases h0 : kind = 0
                · subst h0
                  have hWr := Lib.hid (hR.box_op K [.int .i64 0, .int .i64 cn, .string data, .int .u64 ((cmask : Nat) : Int), .int .i64 ccut] 31 (fun F W h => K.write F W p sd cn data h (hod.ok (by omega)) hdt))
                  have hod2 := hod.write cn data
                  by_cases hgd : sd.goodW cn data = true
                  · obtain ⟨r1, ⟨r2, r3⟩, hM2⟩ := hM.good cn data hgd
                    rw [r1] at hWr
                    obtain ⟨c, rfl⟩ := Int.eq_ofNat_of_zero_le r2
                    rw [Int.toNat_natCast] at hM2
                    have hcn : c < n := by omega
                    have r4 : ((c : Nat) : Int) < ((n : Nat) : Int) := by omega
                    generalize (sd.write ((c : Nat) : Int) data).2 = sd2 at *
                    clear r1 hR hM hod hgd
                    go_wp2_with fail
                    refine hWr.out.mono ?_
                    rintro e w10 ⟨rfl, hR10, hB10⟩
                    have d1 := hB10.spot 1 _ rfl
                    obtain ⟨x0, -, z0, f0, l0⟩ := row_spot hR10.rowb c hcn
                    have hR11 := Lib.hid (hR10.store K c true)
                    clear hR10 hB10 hWr
                    go_wp2
                    exact ⟨⟨k2 + 1, sd2, _, by omega, by go_num, hod2.mono (by omega), hM2, hR11.out⟩, by simp [intOf]; omega⟩
                  · rw [hM.bad cn data (Bool.eq_false_iff.mpr hgd)] at hWr
                    clear hR
                    go_wp2_with fail
                    refine hWr.out.mono ?_
                    rintro e w10 ⟨rfl, hR10, hB10⟩
                    go_wp2
                    exact ⟨⟨k2 + 1, sd, ys, by omega, by go_num, hod.mono (by omega), hM, hR10⟩, by simp [intOf]; omega⟩
                · have hal : Below wr.heap.size wr (wr.alloc (.cells #[.int .i64 kind, .int .i64 cn, .string data, .int .u64 ((cmask : Nat) : Int), .int .i64 ccut] 31)) := (Below.refl _ _).alloc (Nat.le_refl _) _
                  have hR10 := Lib.hid (hR.later K hal)
                  have e0 : (kind == 0) = false := beq_eq_false_iff_ne.2 h0
                  clear hR hal
                  go_wp2
                  exact ⟨⟨k2 + 1, sd, ys, by omega, by go_num, hod.mono (by omega), hM, hR10.out⟩, by simp [intOf]; omega⟩
              · obtain rfl : k2 = l2.length := by omega
                have hCr := Lib.hid (hR.op (fun F h => K.crash F wr p sd mask torn cut h (hod.ok (by omega)) hmask))
                have hodc := (hod.crashed mask torn cut).ok (by omega)
                have hlc : (sd.crashed mask torn cut).safe.length = n := by
                  show (sd.crash mask torn cut).safe.length = n
                  rw [crash_length, hM.safe]; exact hsl2
                have hlat : (sd.crashed mask torn cut).later = [] := rfl
                have hkeep : ∀ i, i < n → ys.getD i false = true ∨ xs[i]? = some ((sd.crashed mask torn cut).now i) := fun i hi => by
                  by_cases e : ys.getD i false = true
                  · exact .inl e
                  · refine .inr ?_
                    rw [hM.crashed mask torn cut i (Bool.eq_false_iff.mpr e), ← synced_now e2 i]
                    exact hxs i hi
                replace hlat := Lib.hid hlat
                generalize sd.crashed mask torn cut = sc at *
                clear hR hod hM
                go_wp2_with fail
                refine hCr.out.mono ?_
                rintro e w10 ⟨rfl, hR10⟩
                clear hCr
                go_wp2_with fail
                go_loopw [110] (fun i wr => ∃ k : Nat, k ≤ n ∧ i = .int .i64 k ∧ Row2 Dk w wr p sc n g xs b ys) (fun i _ => (n - intOf i).toNat)
                case atStart => exact ⟨0, by omega, rfl, hR10⟩
                case round =>
                  clear hR10
                  obtain ⟨k3, hk3, rfl, hR⟩ := hrel
                  by_cases hkn : k3 < n
                  · have hRd := Lib.hid (hR.read K hodc k3 (by omega))
                    clear hR
                    go_wp2_with fail
                    refine hRd.out.mono ?_
                    rintro e w11 ⟨rfl, hR11⟩
                    obtain ⟨x0, y0, z0, -, l0⟩ := row_spot hR11.rowb k3 hkn
                    obtain ⟨x1, y1, z1, -, l1⟩ := row_spot hR11.row k3 hkn
                    obtain rfl := rowB_at y0
                    clear hRd y0
                    rcases hkeep k3 hkn with e | e
                    · rw [e] at z0
                      clear y1
                      go_wp2
                      exact ⟨⟨k3 + 1, by omega, by go_num, hR11⟩, by simp [intOf]; omega⟩
                    · obtain rfl := rowS_at y1 e
                      clear y1 e
                      generalize sc.now k3 = sk at *
                      cases hy : ys.getD k3 false
                      · rw [hy] at z0
                        go_wp2
                        exact ⟨⟨k3 + 1, by omega, by go_num, hR11⟩, by simp [intOf]; omega⟩
                      · rw [hy] at z0
                        go_wp2
                        exact ⟨⟨k3 + 1, by omega, by go_num, hR11⟩, by simp [intOf]; omega⟩
                  · obtain rfl : n = k3 := by omega
                    have hCo := Lib.hid (hR.count K hodc)
                    rw [hlat.out] at hCo
                    clear hR
                    go_wp2_with fail
                    refine hCo.out.mono ?_
                    rintro e w11 ⟨rfl, hR11⟩
                    have hb := hR11.below
                    clear hR11
                    go_wp2
                    go_ret
                    exact ⟨rfl, hb⟩
  · by_cases g : greatP l = true
    · rw [g] at hgr
      replace hq := Lib.hid hq
      replace g := Lib.hid g
      go_enter Try.func4, Try.ntmps4
      go_wp2_with fail
      refine (hal.out _).mono ?_
      rintro e w1 ⟨rfl, hb1⟩
      replace hS := hS.later hb1
      replace hS2 := hS2.later hb1
      go_wp2_with fail
      refine (hgr.out _ hS).mono ?_
      rintro e w2 ⟨rfl, hb2⟩
      replace hS2 := hS2.later hb2
      replace hb1 := hb1.trans (hb2.mono hb1.size)
      clear hb2
      go_wp2
      go_ret
      exact ⟨rfl, hb1⟩
    · replace g : greatP l = false := Bool.eq_false_iff.mpr g
      rw [g] at hgr
      by_cases g2 : greatP l2 = true
      · rw [g2] at hgr2
        replace hq := Lib.hid hq
        replace g := Lib.hid g
        replace g2 := Lib.hid g2
        go_enter Try.func4, Try.ntmps4
        go_wp2_with fail
        refine (hal.out _).mono ?_
        rintro e w1 ⟨rfl, hb1⟩
        replace hS := hS.later hb1
        replace hS2 := hS2.later hb1
        go_wp2_with fail
        refine (hgr.out _ hS).mono ?_
        rintro e w2 ⟨rfl, hb2⟩
        replace hS2 := hS2.later hb2
        replace hb1 := hb1.trans (hb2.mono hb1.size)
        clear hb2
        go_wp2_with fail
        refine (hgr2.out _ hS2).mono ?_
        rintro e w3 ⟨rfl, hb2⟩
        replace hb1 := hb1.trans (hb2.mono hb1.size)
        go_wp2
        go_ret
        exact ⟨rfl, hb1⟩
      · replace g2 : greatP l2 = false := Bool.eq_false_iff.mpr g2
        rw [g2] at hgr2
        by_cases h0 : 0 ≤ sectors
        · have n1 : decide (sectors < 0) = false := decide_eq_false (by omega)
          have n2 : (40 : Int) < sectors := by
            rcases Int.lt_or_le 40 sectors with h | h
            · exact h
            · exact absurd ⟨g, g2, h0, h⟩ hq
          have n2' : decide ((40 : Int) < sectors) = true := decide_eq_true n2
          replace hq := Lib.hid hq
          replace g := Lib.hid g
          replace g2 := Lib.hid g2
          go_enter Try.func4, Try.ntmps4
          go_wp2_with fail
          refine (hal.out _).mono ?_
          rintro e w1 ⟨rfl, hb1⟩
          replace hS := hS.later hb1
          replace hS2 := hS2.later hb1
          go_wp2_with fail
          refine (hgr.out _ hS).mono ?_
          rintro e w2 ⟨rfl, hb2⟩
          replace hS2 := hS2.later hb2
          replace hb1 := hb1.trans (hb2.mono hb1.size)
          clear hb2
          go_wp2_with fail
          refine (hgr2.out _ hS2).mono ?_
          rintro e w3 ⟨rfl, hb2⟩
          replace hb1 := hb1.trans (hb2.mono hb1.size)
          go_wp2
          go_ret
          exact ⟨rfl, hb1⟩
        · have n1 : decide (sectors < 0) = true := decide_eq_true (by omega)
          have n1' : sectors < 0 := by omega
          replace hq := Lib.hid hq
          replace g := Lib.hid g
          replace g2 := Lib.hid g2
          go_enter Try.func4, Try.ntmps4
          go_wp2_with fail
          refine (hal.out _).mono ?_
          rintro e w1 ⟨rfl, hb1⟩
          replace hS := hS.later hb1
          replace hS2 := hS2.later hb1
          go_wp2_with fail
          refine (hgr.out _ hS).mono ?_
          rintro e w2 ⟨rfl, hb2⟩
          replace hS2 := hS2.later hb2
          replace hb1 := hb1.trans (hb2.mono hb1.size)
          clear hb2
          go_wp2_with fail
          refine (hgr2.out _ hS2).mono ?_
          rintro e w3 ⟨rfl, hb2⟩
          replace hb1 := hb1.trans (hb2.mono hb1.size)
          go_wp2
          go_ret
          exact ⟨rfl, hb1⟩
end Go.Proofs.Ythmcdldmmhnleaa
