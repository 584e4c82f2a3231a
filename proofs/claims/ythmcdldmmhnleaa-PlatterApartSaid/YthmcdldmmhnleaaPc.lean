/- The document's disk: a crash, and a sync. No condition but sizes. -/
import Derived.Test.YthmcdldmmhnleaaPw
import Derived.BigRegion
import Derived.Laws.BitsAllLaws
namespace Go.Proofs.Ythmcdldmmhnleaa
open Go.RowKit

theorem RefV.store {W : World} {m : Nat} {safe : List ByteArray} {ats : List Nat} {datas : List ByteArray} {ops arm : Int} {g n cap : Nat} {va vd : Value} (h : RefV W m safe ats datas ops arm (.slice (some ⟨g, 0, none⟩) n cap) va vd) (hn : n = safe.length) (j : Nat) (x : ByteArray) :
    RefV (W.setCell ⟨g, j, none⟩ (.string x)) m (safe.set j x) ats datas ops arm (.slice (some ⟨g, 0, none⟩) n cap) va vd := by
  subst hn
  have hgm : g ≠ m := fun e => h.d0 (by rw [e]; rfl)
  have hc : ∀ i, (W.setCell ⟨g, j, none⟩ (.string x)).cell? ⟨m, i, none⟩ = W.cell? ⟨m, i, none⟩ := fun i => by
    rw [World.cell?_setCell_other]
    intro e; injection e with e1 _ _; exact hgm e1
  have e : rowS (safe.set j x) = (rowS safe).set j (.string x) := by unfold rowS; rw [List.map_set]
  exact ⟨by rw [hc]; exact h.c0, by rw [hc]; exact h.c1, by rw [hc]; exact h.c2, by rw [hc]; exact h.c3, by rw [hc]; exact h.c4,
    fun i => by simpa using h.fz i, by simpa using h.lt, by rw [List.length_set, e]; exact (h.o0.stored j _).1,
    ownsRow_setCell_other h.o1 (h.e0 g rfl) _, ownsRow_setCell_other h.o2 (h.e1 g rfl) _, h.d0, h.d1, h.d2, h.e0, h.e1, h.e2⟩
theorem lasting_cons (mask : Nat) (torn : Int) (c k : Nat) (L : List (Nat × ByteArray)) (safe : List ByteArray) (h : k < L.length) :
    lasting mask torn c k (L.drop k) safe = lasting mask torn c (k + 1) (L.drop (k + 1))
      (if (k : Int) = torn then safe.set L[k].1 (L[k].2.extract 0 c ++ (safe.getD L[k].1 ByteArray.empty).extract c 128)
       else if mask / 2 ^ (min k 63) % 2 = 1 then safe.set L[k].1 L[k].2 else safe) := by
  rw [List.drop_eq_getElem_cons h, lasting]
/-- What is known while a crash goes on. -/
structure Crashing (F : Nat → Prop) (W wr : World) (m : Nat) (L : List (Nat × ByteArray)) (ops arm : Int) (vs va vd : Value) (fin : List ByteArray) (mask : Nat) (torn : Int) (c n k : Nat) (sf : List ByteArray) : Prop where
  goal : lasting mask torn c k (L.drop k) sf = fin
  len : sf.length = n
  size : ∀ s ∈ sf, s.size = 128
  ref : RefV wr m sf (L.map (·.1)) (L.map (·.2)) ops arm vs va vd
  only : Only F W wr
theorem cutC_int (cut : Int) : min (max cut 0) 128 = ((cutC cut : Nat) : Int) := by unfold cutC; omega
theorem min63 (k : Nat) : min ((k : Nat) : Int) 63 = ((min k 63 : Nat) : Int) := by omega

theorem bit_form (mask k : Nat) : ((((mask : Nat) : Int) / 2 ^ (min ((k : Nat) : Int) 63).toNat).tmod 2 == 1) = decide (mask / 2 ^ (min k 63) % 2 = 1) := by
  have e1 : (min ((k : Nat) : Int) 63).toNat = min k 63 := by omega
  have e2 : ((mask : Nat) : Int) / 2 ^ (min k 63) = ((mask / 2 ^ (min k 63) : Nat) : Int) := by rw [Int.natCast_ediv, Int.natCast_pow]; rfl
  rw [e1, e2, Int.tmod_eq_emod_of_nonneg (Int.natCast_nonneg _)]
  generalize mask / 2 ^ (min k 63) = z
  by_cases h : z % 2 = 1
  · rw [decide_eq_true h, beq_iff_eq]; omega
  · rw [decide_eq_false h, beq_eq_false_iff_ne]; omega
set_option maxRecDepth 100000 in
set_option maxHeartbeats 4000000 in
theorem refcrash_any (F : Nat → Prop) (W : World) (m : Nat) (st : St) (h : RefIs F W m st) (hok : st.Fit) (mask : Nat) (hmask : mask < 18446744073709551616) (torn cut : Int) :
    Calls Try.prog 27 #[.pointer (some ⟨m, 0, none⟩), .int .u64 ((mask : Nat) : Int), .int .i64 torn, .int .i64 cut] W fun e W' => e = .returned (.tuple #[]) ∧ RefPost F m (st.crash mask torn cut) W W' := by
  obtain ⟨vs, va, vd, hV, hF⟩ := h
  have hFm : F m := (hF m).2 (.inl rfl)
  have hG : Crashing F W W m st.later st.ops st.arm vs va vd (lasting mask torn (cutC cut) 0 st.later st.safe) mask torn (cutC cut) st.safe.length 0 st.safe := ⟨by rw [List.drop_zero], rfl, hok.safe, hV, Only.refl _ _⟩
  have hfew := hok.few
  have hdata := hok.data
  have c1 := hV.c1
  have hlt := hV.lt
  have ho1 := hV.o1
  rw [List.length_map] at ho1
  obtain ⟨ao1, k1, rfl, -⟩ := row_slice ho1
  have hcut := Lib.hid (cutC_int cut)
  have hcl := cutC_le cut
  have hfin : ∀ wr sf, Crashing F W wr m st.later st.ops st.arm vs (.slice ao1 st.later.length k1) vd (lasting mask torn (cutC cut) 0 st.later st.safe) mask torn (cutC cut) st.safe.length st.later.length sf →
      RefPost F m (st.crash mask torn cut) W ((wr.setCell ⟨m, 1, none⟩ (.slice none 0 0)).setCell ⟨m, 2, none⟩ (.slice none 0 0)) := fun wr sf hC => by
    have hg := hC.goal
    rw [List.drop_length, lasting] at hg
    have h1 := hC.ref.row1 (W' := wr) (v' := .slice none 0 0) (l := []) (Only.refl _ _) (World.ownsRow_nil _ _ _ _) (fun k hk => by simp [Value.ownBlock] at hk)
    have h2 := h1.row2 (v' := .slice none 0 0) (l := []) (Only.refl _ _) (World.ownsRow_nil _ _ _ _) (fun k hk => by simp [Value.ownBlock] at hk)
    refine ⟨foot m vs (.slice none 0 0) (.slice none 0 0), ⟨vs, _, _, ?_, fun _ => Iff.rfl⟩, (hC.only.setCell (fun _ => hFm) _).setCell (fun _ => hFm) _, fun k _ hk => (hF k).2 ?_⟩
    · show RefV _ m (lasting mask torn (cutC cut) 0 st.later st.safe) [] [] st.ops st.arm _ _ _
      rw [← hg]
      exact h2
    · rcases hk with e | e | e | e
      · exact .inl e
      · exact .inr (.inl e)
      · simp [Value.ownBlock] at e
      · simp [Value.ownBlock] at e
  have hFV : ∀ g, vs.ownBlock = some g → F g := fun g e => (hF g).2 (.inr (.inl e))
  replace hfin := Lib.hid hfin
  replace hFV := Lib.hid hFV
  clear hV ho1 hF hok
  generalize st.later = L at *
  generalize st.ops = ops at *
  generalize st.arm = arm at *
  generalize lasting mask torn (cutC cut) 0 L st.safe = fin at *
  generalize cutC cut = c at *
  generalize st.safe.length = n at *
  go_enter Try.func27, Try.ntmps27
  go_wp2
  rw [hcut.out]
  go_loopw [19] (fun i wr => ∃ (k : Nat) (sf : List ByteArray), k ≤ L.length ∧ i = .int .i64 k ∧ Crashing F W wr m L ops arm vs (.slice ao1 L.length k1) vd fin mask torn c n k sf) (fun i _ => (L.length - intOf i).toNat)
  case atStart => exact ⟨0, _, by omega, rfl, hG⟩
  case round =>
    clear hG c1 hlt
    obtain ⟨k, sf, hk, rfl, hC⟩ := hrel
    have hlt := hC.ref.lt
    by_cases hkl : k < L.length
    · have hgo := hC.goal
      rw [lasting_cons mask torn c k L sf hkl] at hgo
      have hr1 := hC.ref.o1
      have hr2 := hC.ref.o2
      rw [List.length_map] at hr1 hr2
      obtain ⟨ao1', _, e1, at1⟩ := row_slice hr1
      obtain ⟨rfl, -⟩ := (by simpa using e1 : ao1 = ao1' ∧ k1 = _)
      obtain ⟨ao2, k2, rfl, at2⟩ := row_slice hr2
      obtain ⟨ao0, k0, rfl, at0⟩ := row_slice hC.ref.o0
      have hd := hdata L[k] (List.getElem_mem hkl)
      have hlen := hC.len
      obtain ⟨g1, x1, rfl, l1, y1, z1, -⟩ := at1 k hkl
      obtain ⟨g2, x2, rfl, l2, y2, z2, -⟩ := at2 k hkl
      have hx1 : x1 = .int .i64 ((L[k].1 : Nat) : Int) := by
        unfold rowI at y1
        rw [List.map_map, List.getElem?_map, List.getElem?_eq_getElem hkl] at y1
        exact (Option.some.inj y1).symm
      have hx2 : x2 = .string L[k].2 := by
        unfold rowS at y2
        rw [List.map_map, List.getElem?_map, List.getElem?_eq_getElem hkl] at y2
        exact (Option.some.inj y2).symm
      subst hx1 hx2
      clear y1 y2 at1 at2
      generalize L[k] = p at *
      obtain ⟨pi, pd⟩ := p
      dsimp only at z1 z2 hgo hd
      obtain ⟨hpd, hpi⟩ := hd
      have hpi2 : pi < sf.length := by omega
      obtain ⟨g0, x0, rfl, l0, y0, z0, w0⟩ := at0 pi hpi2
      have hx0 : x0 = .string (sf.getD pi ByteArray.empty) := by
        unfold rowS at y0
        rw [List.getElem?_map, List.getElem?_eq_getElem hpi2] at y0
        rw [List.getD_eq_getElem?_getD, List.getElem?_eq_getElem hpi2]
        exact (Option.some.inj y0).symm
      have hs0 : (sf.getD pi ByteArray.empty).size = 128 := by
        rw [List.getD_eq_getElem?_getD, List.getElem?_eq_getElem hpi2]
        exact hC.size _ (List.getElem_mem hpi2)
      subst hx0
      clear y0 at0
      have c0 := hC.ref.c0
      have c2 := hC.ref.c2
      have hnew := Lib.hid (show ∀ x : ByteArray, x.size = 128 → lasting mask torn c (k + 1) (L.drop (k + 1)) (sf.set pi x) = fin → Crashing F W (wr.setCell ⟨g0, pi, none⟩ (.string x)) m L ops arm (.slice (some ⟨g0, 0, none⟩) sf.length k0) (.slice (some ⟨g1, 0, none⟩) L.length k1) (.slice (some ⟨g2, 0, none⟩) L.length k2) fin mask torn c n (k + 1) (sf.set pi x) from
        fun x hx hg => ⟨hg, by rw [List.length_set]; exact hlen, mem_set_sizes hC.size _ hx, hC.ref.store rfl pi x, hC.only.setCell (fun _ => hFV.out g0 rfl) _⟩)
      have hsame := Lib.hid (show lasting mask torn c (k + 1) (L.drop (k + 1)) sf = fin → Crashing F W wr m L ops arm (.slice (some ⟨g0, 0, none⟩) sf.length k0) (.slice (some ⟨g1, 0, none⟩) L.length k1) (.slice (some ⟨g2, 0, none⟩) L.length k2) fin mask torn c n (k + 1) sf from
        fun hg => ⟨hg, hlen, hC.size, hC.ref, hC.only⟩)
      have hdrew := Lib.hid (show ∀ w2 s2, Crashing F W w2 m L ops arm (.slice (some ⟨g0, 0, none⟩) sf.length k0) (.slice (some ⟨g1, 0, none⟩) L.length k1) (.slice (some ⟨g2, 0, none⟩) L.length k2) fin mask torn c n (k + 1) s2 → Crashing F W w2.drew m L ops arm (.slice (some ⟨g0, 0, none⟩) sf.length k0) (.slice (some ⟨g1, 0, none⟩) L.length k1) (.slice (some ⟨g2, 0, none⟩) L.length k2) fin mask torn c n (k + 1) s2 from
        fun w2 s2 hC => ⟨hC.goal, hC.len, hC.size, hC.ref.later ((Below.refl _ _).drew), hC.only.drew⟩)
      clear hC
      generalize sf.getD pi ByteArray.empty = sv at *
      have hpi3 : ((pi : Nat) : Int) < ((sf.length : Nat) : Int) := by omega
      have hcl2 : ((c : Nat) : Int) ≤ 128 := by omega
      by_cases ht : ((k : Nat) : Int) = torn
      · have hb : (((k : Nat) : Int) == torn) = true := by rw [beq_iff_eq]; exact ht
        rw [if_pos ht] at hgo
        have hxs : (pd.extract 0 c ++ sv.extract c 128).size = 128 := by
          rw [ByteArray.size_append, ByteArray.size_extract, ByteArray.size_extract]; omega
        replace hgo := Lib.hid (hnew.out _ hxs hgo)
        replace hxs := 0
        replace ht := Lib.hid ht
        clear hnew hsame
        go_wp2
        go_region
        replace hgo := Lib.hid (hdrew.out _ _ hgo.out)
        go_wp2
        exact ⟨⟨k + 1, _, by omega, by go_num, hgo.out⟩, by simp [intOf]; omega⟩
      · have hb : (((k : Nat) : Int) == torn) = false := by rw [beq_eq_false_iff_ne]; exact ht
        rw [if_neg ht] at hgo
        by_cases hm : mask / 2 ^ (min k 63) % 2 = 1
        · rw [if_pos hm] at hgo
          replace hgo := Lib.hid (hdrew.out _ _ (hnew.out _ hpd hgo))
          have hbit := bit_form mask k
          rw [decide_eq_true hm] at hbit
          replace hm := Lib.hid hm
          clear hnew hsame
          go_wp2
          go_region
          go_wp2
          exact ⟨⟨k + 1, _, by omega, by go_num, hgo.out⟩, by simp [intOf]; omega⟩
        · rw [if_neg hm] at hgo
          replace hgo := Lib.hid (hsame.out hgo)
          have hbit := bit_form mask k
          rw [decide_eq_false hm] at hbit
          replace hm := Lib.hid hm
          clear hnew hsame
          go_wp2
          exact ⟨⟨k + 1, _, by omega, by go_num, hgo.out⟩, by simp [intOf]; omega⟩
    · obtain rfl : k = L.length := by omega
      have c1 := hC.ref.c1
      have c2 := hC.ref.c2
      have f1 := hC.ref.fz 1
      have f2 := hC.ref.fz 2
      have hP := Lib.hid (hfin.out _ _ hC)
      clear hC
      go_wp2
      go_end0
      exact ⟨rfl, hP.out⟩

theorem RefPost.after {F F1 : Nat → Prop} {m : Nat} {st2 : St} {W W1 W2 : World} (hO : Only F W W1) (hN : ∀ k, k < W.heap.size → F1 k → F k) (h : RefPost F1 m st2 W1 W2) : RefPost F m st2 W W2 := by
  obtain ⟨F2, k1, k2, k3⟩ := h
  exact ⟨F2, k1, hO.trans k2 (fun j hj hf => hN j hj hf), fun j hj hf => hN j hj (k3 j (Nat.lt_of_lt_of_le hj hO.size) hf)⟩
set_option maxRecDepth 100000 in
set_option maxHeartbeats 1000000 in
theorem refsync_any (F : Nat → Prop) (W : World) (m : Nat) (st : St) (h : RefIs F W m st) (hok : st.Ok) :
    Calls Try.prog 26 #[.pointer (some ⟨m, 0, none⟩)] W fun e W' => e = .returned (.int .i64 st.sync.1) ∧ RefPost F m st.sync.2 W W' := by
  have hfa := Lib.hid (fun W h => reffails_any F W m st h hok.ops hok.arm)
  by_cases hfail : st.fails = true
  · have hw := Lib.hid (show st.sync = (8, st.tried) by unfold St.sync; rw [if_pos hfail])
    rw [hw.out]
    rw [hfail] at hfa
    replace hfail := Lib.hid hfail
    go_enter Try.func26, Try.ntmps26
    go_wp2_with fail
    refine (hfa.out _ h).mono ?_
    rintro e W1 ⟨rfl, hP⟩
    go_wp2
    go_ret
    exact ⟨rfl, hP⟩
  · have hw := Lib.hid (show st.sync = (0, st.tried.crash allOnes (-1) 0) by unfold St.sync; rw [if_neg hfail])
    rw [hw.out]
    rw [Bool.eq_false_iff.mpr hfail] at hfa
    replace hfail := Lib.hid hfail
    have hcr := Lib.hid (fun F1 W1 h1 => refcrash_any F1 W1 m st.tried h1 hok.toFit.tried allOnes (by decide) (-1) 0)
    rw [show ((allOnes : Nat) : Int) = 18446744073709551615 from rfl] at hcr
    go_enter Try.func26, Try.ntmps26
    go_wp2_with fail
    refine (hfa.out _ h).mono ?_
    rintro e W1 ⟨rfl, F1, h1, hO, hN⟩
    go_wp2_with fail
    refine (hcr.out F1 _ h1).mono ?_
    rintro e W2 ⟨rfl, hP⟩
    go_wp2
    go_ret
    exact ⟨rfl, hP.after hO hN⟩
end Go.Proofs.Ythmcdldmmhnleaa
