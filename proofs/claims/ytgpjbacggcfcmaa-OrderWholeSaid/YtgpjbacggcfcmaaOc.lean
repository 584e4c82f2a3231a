/- Stage 12: the document's at, Put and Drop. No condition but the list's size. -/
import Derived.Test.YtgpjbacggcfcmaaOb
import Derived.Test.YtgpjbacggcfcmaaBox
import Derived.Lib.Hide
namespace Go.Proofs.Ytgpjbacggcfcmaa
open Go.RowKit Wm

set_option maxRecDepth 100000 in
set_option maxHeartbeats 2000000 in
theorem lsat_any {W : World} {m : Nat} {t : Zbl} {vk va : Value} (h : LsV W m (t.map Prod.fst) (t.map Prod.snd) vk va) (hlen : t.length ≤ 1000) (key : Int) :
    Calls Try.prog 24 #[.pointer (some ⟨m, 0, none⟩), .int .i64 key] W fun e W' => e = .returned (.int .i64 (idxZ t key)) ∧ W = W' := by
  have hat := Lib.hid (fun (i : Nat) (hi : i < t.length) => idxZ_at (k := key) hi)
  have hno := Lib.hid (idxZ_none (t := t) (k := key))
  have c0 := h.c0
  have ml := h.lt
  have hcell := own_slice h.o0
  rw [List.length_map] at hcell
  have hnk : t.length = (t.map Prod.fst).length := (List.length_map ..).symm
  generalize hr : idxZ t key = r at *
  clear h
  rcases hcell with ⟨rfl, hz⟩ | ⟨g, cap, rfl, hg, hcap, hcl, -⟩
  · have hr1 := Lib.hid (hno.out (fun j hj => by omega))
    clear hat hno hr hnk hlen
    go_enter Try.func24, Try.ntmps24
    go_wp2_with fail
    go_loopw [12] (fun iv wr => iv = .int .i64 0 ∧ W = wr) (fun _ _ => 0)
    case atStart => exact ⟨rfl, rfl⟩
    case round =>
      obtain ⟨rfl, rfl⟩ := hrel
      go_wp2
      go_ret
      exact ⟨by rw [hr1.out]; rfl, rfl⟩
  · have hkey : ∀ i (hi : i < t.length), W.cell? ⟨g, i, none⟩ = some (.int .i64 (t[i]).1) := fun i hi => by
      refine hcl _ _ ?_
      unfold rowZ
      rw [List.getElem?_map, List.getElem?_map, List.getElem?_eq_getElem hi]
      rfl
    replace hkey := Lib.hid hkey
    clear hcl hr hnk
    go_enter Try.func24, Try.ntmps24
    go_wp2_with fail
    go_loopw [12] (fun iv wr => ∃ i : Nat, i ≤ t.length ∧ iv = .int .i64 i ∧ (∀ j (hj : j < t.length), j < i → (t[j]).1 ≠ key) ∧ W = wr) (fun iv _ => (t.length - RowKit.intOf iv).toNat)
    case atStart => exact ⟨0, by omega, rfl, fun j hj h => by omega, rfl⟩
    case round =>
      obtain ⟨i, hi, rfl, hne, rfl⟩ := hrel
      by_cases hlt : i < t.length
      · have y0 := hkey.out i hlt
        have hltI : ((i : Nat) : Int) < ((t.length : Nat) : Int) := by omega
        by_cases hke : (t[i]).1 = key
        · have hr1 := Lib.hid (hat.out i hlt hke hne)
          have hkb : ((t[i]).1 == key) = true := beq_iff_eq.2 hke
          replace hne := Lib.hid hne
          clear hke hat hno
          generalize (t[i]).1 = x at *
          go_wp2
          go_ret
          exact ⟨by rw [hr1.out]; rfl, rfl⟩
        · have hkb : ((t[i]).1 == key) = false := beq_eq_false_iff_ne.2 hke
          have hnx : ∀ j (hj : j < t.length), j < i + 1 → (t[j]).1 ≠ key := fun j hj hji => by
            by_cases e : j = i
            · subst e; exact hke
            · exact hne j hj (by omega)
          replace hnx := Lib.hid hnx
          clear hke hat hno hne
          generalize (t[i]).1 = x at *
          go_wp2_with fail
          exact ⟨⟨i + 1, by omega, by go_num, hnx.out, trivial⟩, by simp [RowKit.intOf]; omega⟩
      · obtain rfl : i = t.length := by omega
        have hr1 := Lib.hid (hno.out (fun j hj => hne j hj hj))
        clear hat hno hne
        go_wp2
        go_ret
        exact ⟨by rw [hr1.out]; rfl, rfl⟩
/-- One more at a row's end: the run, and what is known of it. -/
theorem app_one (W : World) (v : Value) (l : List Int) (x : Int) (hown : W.ownsRow 0 3 1 v l.length (rowZ l)) (hn : l.length ≤ 1000) :
    ∃ g c w', (Builtin.append_ #[29, 29] 29 #[v, .slice (some ⟨W.heap.size, 0, none⟩) 1 1]).run Try.prog (W.alloc (.cells #[.int .i64 x] 3)) = .ok (.slice (some ⟨g, 0, none⟩) (l.length + 1) c) w' ∧
      w'.ownsRow 0 3 1 (.slice (some ⟨g, 0, none⟩) (l.length + 1) c) (l ++ [x]).length (rowZ (l ++ [x])) ∧ Only (fun k => v.ownBlock = some k) W w' ∧ (v.ownBlock = some g ∨ W.heap.size ≤ g) := by
  have hal : Below W.heap.size W (W.alloc (.cells #[.int .i64 x] 3)) := (Below.refl _ _).alloc (Nat.le_refl _) _
  have hown2 : (W.alloc (.cells #[.int .i64 x] 3)).ownsRow 0 3 1 v l.length (rowZ l) := (Only.of_below (F := fun _ => False) hal).row hown (fun _ _ e => e)
  have hsb : BoxAt (W.alloc (.cells #[.int .i64 x] 3)) W.heap.size [.int .i64 x] := BoxAt.new W _ _
  obtain ⟨v3, w4, hr, ho, hg, hd⟩ := app_ints _ v l [x] hown2 ⟨W.heap.size, 0, none⟩ 1 (fun j u hj => by
    rw [Addr.add_mid, Nat.zero_add]
    exact hsb.spot j u hj) (by simp only [List.length_singleton]; omega)
  have hO : Only (fun k => v.ownBlock = some k) W w4 := (Only.of_below (F := fun k => v.ownBlock = some k) hal).trans (Only.of_grown hg (fun k _ hk => hk)) (fun j hj hf => hf)
  have hl : (l ++ [x]).length = l.length + 1 := by simp
  have ho2 := ho
  rw [hl] at ho2
  rcases own_slice ho2 with ⟨-, hz⟩ | ⟨g, c, rfl, -⟩
  · omega
  · refine ⟨g, c, w4, hr, ho, hO, ?_⟩
    rcases hd with e | e
    · exact .inl e.symm
    · right
      have : some g = some (W.alloc (.cells #[.int .i64 x] 3)).heap.size := e
      injection this with this
      rw [this]
      exact hal.size
set_option maxRecDepth 100000 in
set_option maxHeartbeats 2000000 in
theorem lsput_any {F : Nat → Prop} {W : World} {m : Nat} {t : Zbl} (h : LsRef F W m t) (hlen : t.length ≤ 1000) (key v : Int) :
    Calls Try.prog 16 #[.pointer (some ⟨m, 0, none⟩), .int .i64 key, .int .i64 v] W fun e W' => e = .returned (.bool (!(getZ t key).isSome)) ∧ PostO LsRef F m (putZ t key v) W W' := by
  obtain ⟨vk, va, hV, hF⟩ := h
  have hat := Lib.hid (lsat_any hV hlen key)
  rw [getZ_isSome]
  by_cases hp : posZ t key < t.length
  · obtain ⟨e1, e2⟩ := putZ_found t key v hp
    have hi : idxZ t key = ((posZ t key : Nat) : Int) := by unfold idxZ; rw [if_pos hp]
    rw [hi] at hat
    rw [decide_eq_true hp]
    have hlz : (t.map Prod.snd).length = t.length := List.length_map ..
    have hcell := own_slice hV.o1
    rw [hlz] at hcell
    rcases hcell with ⟨-, hz⟩ | ⟨g, cap, rfl, hg, hcap, hcl, hfz⟩
    · omega
    · have hP := Lib.hid (show PostO LsRef F m (putZ t key v) W (W.setCell ⟨g, posZ t key, none⟩ (.int .i64 v)) from by
        have hmg : m ≠ g := fun e => hV.d1 (by rw [e]; rfl)
        have ho1 := hV.o1
        rw [hlz] at ho1
        obtain ⟨s1, s2⟩ := ho1.stored (posZ t key) (.int .i64 v)
        refine ⟨F, ⟨vk, .slice (some ⟨g, 0, none⟩) t.length cap, ?_, hF⟩, ?_, fun _ _ e => e⟩
        · rw [e1, e2]
          refine ⟨?_, ?_, fun j => by simpa using hV.fz j, by simpa using hV.lt, ownsRow_setCell_other (a := ⟨g, posZ t key, none⟩) hV.o0 (fun e => hV.e0 g e rfl) _, ?_, hV.d0, hV.d1, hV.e0⟩
          · rw [World.cell?_setCell_other _ _ _ _ (fun e => hmg (by injection e with e _ _; exact e.symm))]; exact hV.c0
          · rw [World.cell?_setCell_other _ _ _ _ (fun e => hmg (by injection e with e _ _; exact e.symm))]; exact hV.c1
          · rw [List.length_set, hlz]
            have : rowZ ((t.map Prod.snd).set (posZ t key) v) = (rowZ (t.map Prod.snd)).set (posZ t key) (.int .i64 v) := by unfold rowZ; rw [List.map_set]
            rw [this]
            exact s1
        · exact (Only.refl _ _).setCell (fun _ => (hF g).2 (.inr (.inr rfl))) _)
      have hget : ∃ u, (rowZ (t.map Prod.snd))[posZ t key]? = some u := ⟨_, List.getElem?_eq_getElem (by unfold rowZ; rw [List.length_map, hlz]; exact hp)⟩
      obtain ⟨u, hu⟩ := hget
      have hcu := hcl _ _ hu
      have c1 := hV.c1
      have ml := hV.lt
      have fzu := hfz (posZ t key)
      generalize posZ t key = i at *
      generalize t.length = n at *
      have n1 : ¬ ((i : Nat) : Int) < 0 := by omega
      have n2 : ((i : Nat) : Int) < ((n : Nat) : Int) := by omega
      clear hcl hfz hu hV e1 e2 hF hlz hi
      go_enter Try.func16, Try.ntmps16
      go_wp2_with fail
      refine hat.out.mono ?_
      rintro e w1 ⟨rfl, rfl⟩
      clear hat
      go_wp2_with fail
      go_ret
      exact ⟨rfl, hP.out⟩
  · obtain ⟨e1, e2⟩ := putZ_new t key v hp
    have hi : idxZ t key = -1 := by unfold idxZ; rw [if_neg hp]
    rw [hi] at hat
    rw [decide_eq_false hp]
    have hks : (t.map Prod.fst).length ≤ 1000 := by rw [List.length_map]; exact hlen
    have hzs : (t.map Prod.snd).length ≤ 1000 := by rw [List.length_map]; exact hlen
    generalize hKS : t.map Prod.fst = ks at *
    generalize hZS : t.map Prod.snd = zs at *
    obtain ⟨g2, cap2, w2, hrA, ho2, hO2, hd2⟩ := app_one W vk ks key hV.o0 hks
    have hV2 := hV.row0 hO2 ho2 (fun k hk => by
      have : some g2 = some k := hk
      injection this with this
      subst this
      exact hd2)
    have c0 := hV.c0
    have ml := hV.lt
    have c2 : w2.cell? ⟨m, 0, none⟩ = some vk := (hO2.cell (p := ⟨m, 0, none⟩) ml hV.d0).trans c0
    have f2 : w2.frozen? ⟨m, 0, none⟩ = false := (hO2.frozen (p := ⟨m, 0, none⟩) ml hV.d0).trans (hV.fz 0)
    have m2 : m < w2.heap.size := Nat.lt_of_lt_of_le ml hO2.size
    obtain ⟨W3, hW3⟩ : ∃ W3, W3 = w2.setCell ⟨m, 0, none⟩ (.slice (some ⟨g2, 0, none⟩) (ks.length + 1) cap2) := ⟨_, rfl⟩
    rw [← hW3] at hV2
    obtain ⟨g3, cap3, w4, hrB, ho4, hO4, hd4⟩ := app_one W3 va zs v hV2.o1 hzs
    have hV4 := hV2.row1 hO4 ho4 (fun k hk => by
      have : some g3 = some k := hk
      injection this with this
      subst this
      exact hd4)
    have c3 := hV2.c1
    have m3 := hV2.lt
    have c4 : w4.cell? ⟨m, 1, none⟩ = some va := (hO4.cell (p := ⟨m, 1, none⟩) m3 hV2.d1).trans c3
    have f4 : w4.frozen? ⟨m, 1, none⟩ = false := (hO4.frozen (p := ⟨m, 1, none⟩) m3 hV2.d1).trans (hV2.fz 1)
    have m4 : m < w4.heap.size := Nat.lt_of_lt_of_le m3 hO4.size
    have hP := Lib.hid (show PostO LsRef F m (putZ t key v) W (w4.setCell ⟨m, 1, none⟩ (.slice (some ⟨g3, 0, none⟩) (zs.length + 1) cap3)) from by
      have hO3 : Only (fun k => k = m ∨ vk.ownBlock = some k) W W3 := by
        rw [hW3]
        exact Only.setCell (F := fun k => k = m ∨ vk.ownBlock = some k) (p := ⟨m, 0, none⟩) (hO2.mono (fun _ _ e => .inr e)) (fun _ => .inl rfl) _
      refine ⟨footL m (.slice (some ⟨g2, 0, none⟩) (ks.length + 1) cap2) (.slice (some ⟨g3, 0, none⟩) (zs.length + 1) cap3), ⟨_, _, by rw [e1, e2]; exact hV4, fun _ => Iff.rfl⟩, ?_, fun k hk e => ?_⟩
      · have h2 : Only F W W3 := hO3.mono (fun j _ e => by
          rcases e with rfl | e
          · exact (hF j).2 (.inl rfl)
          · exact (hF j).2 (.inr (.inl e)))
        have h3 : Only F W w4 := h2.trans hO4 (fun j hj e => (hF j).2 (.inr (.inr e)))
        exact h3.setCell (p := ⟨m, 1, none⟩) (fun _ => (hF m).2 (.inl rfl)) _
      · rcases e with rfl | e | e
        · exact (hF k).2 (.inl rfl)
        · have : some g2 = some k := e
          injection this with this
          subst this
          rcases hd2 with e2 | e2
          · exact (hF _).2 (.inr (.inl e2))
          · omega
        · have : some g3 = some k := e
          injection this with this
          subst this
          rcases hd4 with e2 | e2
          · exact (hF _).2 (.inr (.inr e2))
          · have := hO3.size; omega)
    have c1 : w2.cell? ⟨m, 1, none⟩ = some va := (hO2.cell (p := ⟨m, 1, none⟩) ml hV.d0).trans hV.c1
    have hsz : W3.heap.size = w2.heap.size := by rw [hW3, World.size_setCell]
    rw [hsz] at hrB
    rw [hW3] at hrB
    clear hV4 hO4 ho4 hd4 hV2 hO2 ho2 hd2 hV hF hKS hZS e1 e2 hi hp c3 m3 hsz hW3
    go_enter Try.func16, Try.ntmps16
    go_wp2_with fail
    refine hat.out.mono ?_
    rintro e w1 ⟨rfl, rfl⟩
    clear hat
    have tok1 : True := trivial
    go_wp2_with (first | (at_builtin; have _t := tok1; refine Lib.wpList_append_run _ rfl _ _ _ _ rfl _ _ rfl rfl _ _ hrA ?_; clear tok1 hrA) | (at_builtin; refine Lib.wpList_append_run _ rfl _ _ _ _ rfl _ _ rfl rfl _ _ hrB ?_))
    go_ret
    exact ⟨rfl, hP.out⟩
end Go.Proofs.Ytgpjbacggcfcmaa
