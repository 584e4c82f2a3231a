/- Stage 12: OrderDoes' walk. No condition but the landed package's. -/
import Derived.Test.YtgpjbacggcfcmaaOn
import Derived.Test.YtgpjbacggcfcmaaNeed
import Derived.Deep.DeepCutAuto
namespace Go.Proofs.Ytgpjbacggcfcmaa
open Go.RowKit Wm

/-- The landed list that isn't there. -/
structure LandedOrNil : Prop where
  put : ∀ W (k v : Int), -9223372036854775808 ≤ k → k ≤ 9223372036854775807 → Calls Try.prog 14 #[.pointer none, .int .i64 k, .int .i64 v] W fun e W' => e = .returned (.bool false) ∧ Below W.heap.size W W'
  drop : ∀ W (k : Int), -9223372036854775808 ≤ k → k ≤ 9223372036854775807 → Calls Try.prog 15 #[.pointer none, .int .i64 k] W fun e W' => e = .returned (.bool false) ∧ Below W.heap.size W W'
  range : ∀ W (fl : Bool), Calls Try.prog 12 #[.pointer none, .int .i64 0, .int .i64 0, .bool fl] W fun e W' => (∃ ao cap, e = .returned (.slice ao 0 cap)) ∧ Below W.heap.size W W'
  len : ∀ W, Calls Try.prog 9 #[.pointer none] W fun e W' => e = .returned (.int .i64 0) ∧ Below W.heap.size W W'
  last : ∀ W, Calls Try.prog 13 #[.pointer none] W fun e W' => e = .returned (.int .i64 0) ∧ Below W.heap.size W W'
theorem LsRef.seenL {G : Nat → Prop} {W : World} {q : Nat} {m : Zbl} (h : LsRef G W q m) : ∃ ao ca, W.cell? ⟨q, 0, none⟩ = some (.slice ao m.length ca) ∧ q < W.heap.size := by
  obtain ⟨vk, va, hV, -⟩ := h
  have l0 : (m.map Prod.fst).length = m.length := List.length_map ..
  have h0 := own_slice hV.o0
  rw [l0] at h0
  rcases h0 with ⟨rfl, hz⟩ | ⟨g, ca, rfl, -⟩
  · exact ⟨none, 0, by rw [hz]; exact hV.c0, hV.lt⟩
  · exact ⟨_, ca, hV.c0, hV.lt⟩
/-- The greatest stamp is the first one of all, falling. -/
theorem lastZ_head {m : Zbl} (hm : ∀ p ∈ m, -9223372036854775808 ≤ p.1) : lastZ m = match (rangeZ m (-9223372036854775808) 0 true).head? with | some p => p.1 | none => 0 := by
  rw [range_back, range_all hm, List.head?_reverse]
  rfl
section
variable {Od : Kind Zbl}
set_option maxRecDepth 100000 in
set_option maxHeartbeats 4000000 in
theorem orderDoes_any (K : LandedOr Od) (Z : LandedOrNil) (ao : Option Addr) (cap : Nat) (l : List Ocall) (hl : ∀ c ∈ l, c.Wf) (hlen : l.length ≤ 140737488351232) (a b : Int) (ha : -9223372036854775808 ≤ a) (ha' : a ≤ 9223372036854775807) (hb : -9223372036854775808 ≤ b) (hb' : b ≤ 9223372036854775807) (w : World) (hA : OcallsAt w ao l) :
    Calls Try.prog 3 #[.slice ao l.length cap, .int .i64 a, .int .i64 b] w fun e w' => e = .returned (.bool true) ∧ Below w.heap.size w w' := by
  have hal := Lib.hid (orderAlive_any K)
  by_cases c1 : 100 < l.length
  · have h1 : decide (100 < ((l.length : Nat) : Int)) = true := decide_eq_true (by omega)
    go_enter Try.func3, Try.ntmps3
    go_wp2_with fail
    refine (hal.out _).mono ?_
    rintro e w1 ⟨rfl, hb1⟩
    go_wp2
    go_ret
    exact ⟨rfl, hb1⟩
  have h1 : decide (100 < ((l.length : Nat) : Int)) = false := decide_eq_false (by omega)
  have hsc := fun k => scriptZ_facts hl k
  have hnext : ∀ k (h : k < l.length), scriptZ (l.take (k + 1)) = callZ (scriptZ (l.take k)) l[k] := fun k h => by
    rw [← scriptZ_snoc, ← List.take_append_getElem h]
  have hfr := Lib.hid (fun wr (hb : Below w.heap.size w wr) => On2.startL K.toIsKind (show On Od w (wr.alloc (.cells #[.slice none 0 0] 27)) wr.heap.size [] from On.fresh (O := Od) hb (K.new wr)))
  have h100 : l.length ≤ 100 := by omega
  replace hsc := Lib.hid hsc
  replace hnext := Lib.hid hnext
  clear c1
  go_enter Try.func3, Try.ntmps3
  go_wp2_with fail
  refine (hal.out _).mono ?_
  rintro e wc ⟨rfl, hb1⟩
  have hT0 := hfr.out _ hb1
  rw [World.size_alloc] at hT0
  clear hfr
  go_wp2_with fail
  go_loopw [30] (fun iv wr => ∃ k : Nat, k ≤ l.length ∧ iv = .int .i64 k ∧ On2 Od LsRef w wr wc.heap.size (scriptZ (l.take k)) (wc.heap.size + 1) (scriptZ (l.take k))) (fun iv _ => (l.length - RowKit.intOf iv).toNat)
  case atStart => exact ⟨0, by omega, rfl, hT0⟩
  case round =>
    clear hT0
    obtain ⟨k, hk, rfl, hT⟩ := hrel
    by_cases hlt : k < l.length
    · obtain ⟨bb, off, rfl, hbl, hc⟩ := (hA.below hT.below (Nat.le_refl _)).spot k hlt
      have hx := hl _ (List.getElem_mem hlt)
      have hn := hnext.out k hlt
      have hlen1 := (hsc.out k).2.1
      generalize hxe : l[k] = x at *
      generalize scriptZ (l.take k) = m at *
      have hT2 := hT.later K.toIsKind lsRef_kind ((Below.refl wr.heap.size wr).alloc (Nat.le_refl _) (.cells x.cells.toArray 33)).drew
      have hcall := Lib.hid (fun W (h : On2 Od LsRef w W wc.heap.size m (wc.heap.size + 1) m) => odoes_any K h (Nat.le_trans hlen1 (by omega)) (Nat.le_trans hlen1 (by omega)) x hx)
      rw [ocallV_eq] at hcall
      simp only [doesB_same] at hcall
      generalize callZ m x = m2 at *
      replace hn := Lib.hid hn
      have klen := Lib.hid (fun W (h : On2 Od LsRef w W wc.heap.size m2 (wc.heap.size + 1) m2) => (show Calls Try.prog 9 #[.pointer (some ⟨wc.heap.size, 0, none⟩)] W fun e W' => e = .returned (.int .i64 ((m2.length : Nat) : Int)) ∧ Below W.heap.size W W' from by
        obtain ⟨⟨F, G, h1, _⟩, _⟩ := h
        exact K.len F W _ m2 h1))
      have hsn := Lib.hid (fun W (h : On2 Od LsRef w W wc.heap.size m2 (wc.heap.size + 1) m2) => (show ∃ ao ca, W.cell? ⟨wc.heap.size + 1, 0, none⟩ = some (.slice ao m2.length ca) ∧ wc.heap.size + 1 < W.heap.size from by
        obtain ⟨⟨F, G, _, h2, _⟩, _⟩ := h
        exact h2.seenL))
      have hlat := Lib.hid (fun W W2 (h : On2 Od LsRef w W wc.heap.size m2 (wc.heap.size + 1) m2) (hb : Below W.heap.size W W2) => h.later K.toIsKind lsRef_kind hb)
      obtain ⟨kind, kk, at'⟩ := x
      dsimp only [Ocall.cells] at hc hcall
      have c0 := hc 0 _ rfl
      have c1 := hc 1 _ rfl
      have c2 := hc 2 _ rfl
      dsimp only [Nat.add_zero] at c0 c1 c2
      clear hc hx hlen1 hxe hT hnext hsc
      clear hA hl
      go_wp2_with fail
      refine wp_region_need (fun _ => True) [0, 1] (by kernel_rfl) ?_
      refine need_takeL (i := 0) (v := ?cv94) rfl rfl (by kernel_rfl) (by kernel_rfl) (by kernel_rfl) (fun _ _ _ h => h) (Or.inl ⟨by rfl, ?ch94⟩) trivial ?cr94
      case ch94 => (intro w' hSw; (try dsimp only at hSw); go_simp; first | done | with_reducible rfl)
      try simp only [Act.put, List.setIfInBounds_toArray, List.set_cons_zero, List.set_cons_succ]
      refine need_takeL (i := 1) (v := ?cv97) rfl rfl (by kernel_rfl) (by kernel_rfl) (by kernel_rfl) (fun _ _ _ h => h) (Or.inl ⟨by rfl, ?ch97⟩) trivial ?cr97
      case ch97 => (intro w' hSw; (try dsimp only at hSw); go_simp; first | done | with_reducible rfl)
      try simp only [Act.put, List.setIfInBounds_toArray, List.set_cons_zero, List.set_cons_succ]
      refine need_turnL (i := 2) rfl (by kernel_rfl) (by rfl) (fun K' hK' => ?_)
      go_simp
      refine hK' _ _ (fun _ => trivial) ?_
      clear hK' K'
      try simp only [Act.put, List.setIfInBounds_toArray, List.set_cons_zero, List.set_cons_succ]
      refine need_turnL (i := 3) rfl (by kernel_rfl) (by rfl) (fun K' hK' => ?_)
      go_simp
      refine (hcall.out _ hT2).mono ?_
      rintro e w5 ⟨rfl, hT5⟩
      refine hK' _ _ (fun _ => trivial) ?_
      clear hK' K'
      try simp only [Act.put, List.setIfInBounds_toArray, List.set_cons_zero, List.set_cons_succ]
      refine need_turnL (i := 4) rfl (by kernel_rfl) (by rfl) (fun K' hK' => ?_)
      go_simp
      refine hK' _ _ (fun _ => trivial) ?_
      clear hK' K'
      try simp only [Act.put, List.setIfInBounds_toArray, List.set_cons_zero, List.set_cons_succ]
      refine need_turnL (i := 5) rfl (by kernel_rfl) (by rfl) (fun K' hK' => ?_)
      go_simp
      refine hK' _ _ (fun _ => trivial) ?_
      clear hK' K'
      try simp only [Act.put, List.setIfInBounds_toArray, List.set_cons_zero, List.set_cons_succ]
      obtain ⟨ao, ca, hse0, hse1⟩ := hsn.out _ hT5
      refine need_more (S2 := fun w' => w'.cell? ⟨wc.heap.size + 1, 0, none⟩ = some (.slice ao m2.length ca) ∧ wc.heap.size + 1 < w'.heap.size) (need2 := [0, 1, 6, 8, 9, 10, 11, 12]) (fun _ _ => trivial) (by decide) _ _ _ _ ?_
      have hS5 : w5.cell? ⟨wc.heap.size + 1, 0, none⟩ = some (.slice ao m2.length ca) ∧ wc.heap.size + 1 < w5.heap.size := ⟨hse0, hse1⟩
      refine need_takeL (i := 6) (v := ?cv125) rfl rfl (by kernel_rfl) (by kernel_rfl) (by kernel_rfl) (fun _ _ _ h => h) (Or.inl ⟨by rfl, ?ch125⟩) hS5 ?cr125
      case ch125 => (intro w' hSw; (try dsimp only at hSw); go_simp; first | done | with_reducible rfl)
      try simp only [Act.put, List.setIfInBounds_toArray, List.set_cons_zero, List.set_cons_succ]
      refine need_takeL (i := 8) (v := ?cv128) rfl rfl (by kernel_rfl) (by kernel_rfl) (by kernel_rfl) (fun _ _ _ h => h) (Or.inl ⟨by rfl, ?ch128⟩) hS5 ?cr128
      case ch128 => (intro w' hSw; (try dsimp only at hSw); go_simp; first | done | with_reducible rfl)
      try simp only [Act.put, List.setIfInBounds_toArray, List.set_cons_zero, List.set_cons_succ]
      refine need_takeL (i := 9) (v := ?cv131) rfl rfl (by kernel_rfl) (by kernel_rfl) (by kernel_rfl) (fun _ _ _ h => h) (Or.inl ⟨by rfl, ?ch131⟩) hS5 ?cr131
      case ch131 => (intro w' hSw; (try dsimp only at hSw); go_simp; first | done | with_reducible rfl)
      try simp only [Act.put, List.setIfInBounds_toArray, List.set_cons_zero, List.set_cons_succ]
      refine need_takeL (i := 10) (v := ?cv134) rfl rfl (by kernel_rfl) (by kernel_rfl) (by kernel_rfl) (fun _ _ _ h => h) (Or.inl ⟨by rfl, ?ch134⟩) hS5 ?cr134
      case ch134 => (intro w' hSw; (try dsimp only at hSw); go_simp; first | done | with_reducible rfl)
      try simp only [Act.put, List.setIfInBounds_toArray, List.set_cons_zero, List.set_cons_succ]
      refine need_takeL (i := 11) (v := ?cv137) rfl rfl (by kernel_rfl) (by kernel_rfl) (by kernel_rfl) (fun _ _ _ h => h) (Or.inl ⟨by rfl, ?ch137⟩) hS5 ?cr137
      case ch137 => (intro w' hSw; (try dsimp only at hSw); go_simp; first | done | with_reducible rfl)
      try simp only [Act.put, List.setIfInBounds_toArray, List.set_cons_zero, List.set_cons_succ]
      refine need_takeL (i := 12) (v := ?cv140) rfl rfl (by kernel_rfl) (by kernel_rfl) (by kernel_rfl) (fun _ _ _ h => h) (Or.inl ⟨by rfl, ?ch140⟩) hS5 ?cr140
      case ch140 => (intro w' hSw; (try dsimp only at hSw); go_simp; first | done | with_reducible rfl)
      try simp only [Act.put, List.setIfInBounds_toArray, List.set_cons_zero, List.set_cons_succ]
      refine need_turnL (i := 7) rfl (by kernel_rfl) (by rfl) (fun K' hK' => ?_)
      go_simp
      refine (klen.out _ hT5).mono ?_
      rintro e w6 ⟨rfl, hb6⟩
      have hS6 : w6.cell? ⟨wc.heap.size + 1, 0, none⟩ = some (.slice ao m2.length ca) ∧ wc.heap.size + 1 < w6.heap.size := ⟨(hb6.cell (p := ⟨wc.heap.size + 1, 0, none⟩) hse1).trans hse0, Nat.lt_of_lt_of_le hse1 hb6.size⟩
      have hT6 := hlat.out _ _ hT5 hb6
      refine hK' _ _ (fun _ => hS6) ?_
      clear hK' K'
      try simp only [Act.put, List.setIfInBounds_toArray, List.set_cons_zero, List.set_cons_succ]
      refine need_turnL (i := 13) rfl (by kernel_rfl) (by rfl) (fun K' hK' => ?_)
      go_simp
      refine hK' _ _ (fun _ => hS6) ?_
      clear hK' K'
      try simp only [Act.put, List.setIfInBounds_toArray, List.set_cons_zero, List.set_cons_succ]
      refine need_turnL (i := 14) rfl (by kernel_rfl) (by rfl) (fun K' hK' => ?_)
      go_simp
      refine hK' _ _ (fun _ => hS6) ?_
      clear hK' K'
      try simp only [Act.put, List.setIfInBounds_toArray, List.set_cons_zero, List.set_cons_succ]
      refine need_done (by kernel_rfl) ?_ _
      clear hcall klen hsn hlat hse0 hse1 hS5 hS6 hT5 hb6 hT2 c0 c1 c2
      go_wp2_with fail
      go_roundw
      case measure => simp [RowKit.intOf]; omega
      case rel => exact ⟨k + 1, by omega, rfl, by rw [hn.out]; exact hT6⟩
    · have hkl : k = l.length := by omega
      subst hkl
      obtain ⟨hoz, hzl, hzm⟩ := hsc.out l.length
      generalize scriptZ (l.take l.length) = m at *
      have hzl2 : m.length ≤ 100 := by omega
      have hra := Lib.hid (fun W fl (h : On2 Od LsRef w W wc.heap.size m (wc.heap.size + 1) m) => (show Calls Try.prog 12 #[.pointer (some ⟨wc.heap.size, 0, none⟩), .int .i64 a, .int .i64 b, .bool fl] W (PrsOut (rangeZ m a b fl) W) from by
        obtain ⟨⟨F, G, h1, _⟩, _⟩ := h
        exact K.range F W _ m a b fl h1 ha ha' hb hb'))
      have hrb := Lib.hid (fun W a b fl (h : On2 Od LsRef w W wc.heap.size m (wc.heap.size + 1) m) => (show Calls Try.prog 10 #[.pointer (some ⟨wc.heap.size + 1, 0, none⟩), .int .i64 a, .int .i64 b, .bool fl] W (RefOut (rangeZ m a b fl) W) from by
        obtain ⟨⟨F, G, _, h2, _⟩, _⟩ := h
        exact lsrange_any h2 hoz (by omega) a b fl))
      have hla := Lib.hid (fun W (h : On2 Od LsRef w W wc.heap.size m (wc.heap.size + 1) m) => (show Calls Try.prog 13 #[.pointer (some ⟨wc.heap.size, 0, none⟩)] W fun e W' => e = .returned (.int .i64 (lastZ m)) ∧ Below W.heap.size W W' from by
        obtain ⟨⟨F, G, h1, _⟩, _⟩ := h
        exact K.last F W _ m h1))
      have hlat := Lib.hid (fun W W2 (h : On2 Od LsRef w W wc.heap.size m (wc.heap.size + 1) m) (hb : Below W.heap.size W W2) => h.later K.toIsKind lsRef_kind hb)
      have hra0 := Lib.hid (fun W h => hra.out W false h)
      have hra1 := Lib.hid (fun W h => hra.out W true h)
      have hrb0 := Lib.hid (fun W h => hrb.out W a b false h)
      have hrb1 := Lib.hid (fun W h => hrb.out W a b true h)
      have hrb2 := Lib.hid (fun W h => hrb.out W (-9223372036854775808) 0 true h)
      have hTl1 : (rangeZ m a b false).length ≤ 100 := Nat.le_trans (range_length ..) (by omega)
      have hTl2 : (rangeZ m a b true).length ≤ 100 := Nat.le_trans (range_length ..) (by omega)
      have hLh := lastZ_head hzm
      generalize rangeZ m a b false = T1 at *
      generalize rangeZ m a b true = T2 at *
      generalize rangeZ m (-9223372036854775808) 0 true = T3 at *
      generalize lastZ m = L at *
      replace hTl1 := Lib.hid hTl1
      replace hTl2 := Lib.hid hTl2
      replace hLh := Lib.hid hLh
      clear hnext hsc hra hrb hzm hzl hoz hA hl ha ha' hb hb'
      have n1 := Lib.hid (fun W => Z.put W 1 1 (by decide) (by decide))
      have n2 := Lib.hid (fun W => Z.drop W 1 (by decide) (by decide))
      have n3 := Lib.hid (fun W => Z.range W true)
      have n4 := Lib.hid Z.len
      have n5 := Lib.hid Z.last
      clear Z
      go_wp2_with fail
      refine (hrb0.out _ hT).mono ?_
      rintro e w3 ⟨a3, c3, d3, e3, rfl, hi3, hj3, hb3⟩
      replace hT := hlat.out _ _ hT hb3
      clear hb3 hrb0
      go_wp2_with fail
      refine (hrb1.out _ hT).mono ?_
      rintro e w4 ⟨a4, c4, d4, e4, rfl, hi4, hj4, hb4⟩
      replace hi3 := hi3.later hb4
      replace hj3 := hj3.later hb4
      replace hT := hlat.out _ _ hT hb4
      clear hb4 hrb1
      go_wp2_with fail
      refine (hrb2.out _ hT).mono ?_
      rintro e w5 ⟨a5, c5, d5, e5, rfl, hi5, -, hb5⟩
      replace hi3 := hi3.later hb5
      replace hj3 := hj3.later hb5
      replace hi4 := hi4.later hb5
      replace hj4 := hj4.later hb5
      replace hT := hlat.out _ _ hT hb5
      clear hb5 hrb2
      have hL2 : T3 = [] ∧ L = 0 ∨ ∃ x r, T3 = x :: r ∧ L = x.1 := by
        have := hLh.out
        cases T3 with
        | nil => exact .inl ⟨rfl, this⟩
        | cons x r => exact .inr ⟨x, r, rfl, this⟩
      clear hLh
      go_upto_if 71 with (fail)
      go_cut [17] (fun v wx => v = .int .i64 L ∧ w5 = wx)
      case first =>
        rcases hL2 with ⟨rfl, rfl⟩ | ⟨x, r, rfl, rfl⟩
        · go_wp2_with fail
          go_meet
          case rel => exact ⟨rfl, rfl⟩
        · obtain ⟨g, rfl, hg, hx⟩ := hi5.spot 0 (by simp)
          have hx2 : w5.cell? ⟨g, 0, none⟩ = some (.int .i64 x.1) := hx
          have hlp : ((x :: r).length : Int) = ((r.length : Nat) : Int) + 1 := rfl
          clear hx hi5
          generalize hlen2 : (x :: r).length = n3 at *
          have hpos : 0 < n3 := by rw [← hlen2]; simp
          clear hlen2 hlp
          generalize x.1 = L at *
          go_wp2_with fail
          go_meet
          case rel => exact ⟨rfl, rfl⟩
      case rest =>
        obtain ⟨rfl, rfl⟩ := hcut
        clear hL2 hi5
        go_wp2_with fail
        refine (hra0.out _ hT).mono ?_
        rintro e w6 ⟨a6, c6, rfl, hp6, hb6, -⟩
        have hs1 := Lib.hid (osame_any (c := c6) (d := c3) (f := e3) (Nat.le_trans hTl1.out (by omega)) hp6 (hi3.later hb6) (hj3.later hb6))
        replace hi4 := hi4.later hb6
        replace hj4 := hj4.later hb6
        replace hT := hlat.out _ _ hT hb6
        clear hb6 hra0 hp6 hi3 hj3
        go_wp2_with fail
        refine (hs1.out).mono ?_
        rintro e w7 ⟨rfl, hb7⟩
        replace hi4 := hi4.later hb7
        replace hj4 := hj4.later hb7
        replace hT := hlat.out _ _ hT hb7
        clear hb7 hs1
        go_wp2_with fail
        refine (hra1.out _ hT).mono ?_
        rintro e w8 ⟨a8, c8, rfl, hp8, hb8, -⟩
        have hs2 := Lib.hid (osame_any (c := c8) (d := c4) (f := e4) (Nat.le_trans hTl2.out (by omega)) hp8 (hi4.later hb8) (hj4.later hb8))
        replace hT := hlat.out _ _ hT hb8
        clear hb8 hra1 hp8 hi4 hj4
        go_wp2_with fail
        refine (hs2.out).mono ?_
        rintro e w9 ⟨rfl, hb9⟩
        replace hT := hlat.out _ _ hT hb9
        clear hb9 hs2
        go_wp2_with fail
        refine (hla.out _ hT).mono ?_
        rintro e w10 ⟨rfl, hb10⟩
        have hbl := hT.below.trans (hb10.mono hT.below.size)
        clear hb10 hT hla hlat
        go_wp2_with fail
        refine (n1.out _).mono ?_
        rintro e w11 ⟨rfl, hb11⟩
        replace hbl := hbl.trans (hb11.mono hbl.size)
        clear hb11 n1
        go_wp2_with fail
        refine (n2.out _).mono ?_
        rintro e w12 ⟨rfl, hb12⟩
        replace hbl := hbl.trans (hb12.mono hbl.size)
        clear hb12 n2
        go_wp2_with fail
        refine (n3.out _).mono ?_
        rintro e w13 ⟨⟨a13, c13, rfl⟩, hb13⟩
        replace hbl := hbl.trans (hb13.mono hbl.size)
        clear hb13 n3
        go_wp2_with fail
        refine (n4.out _).mono ?_
        rintro e w14 ⟨rfl, hb14⟩
        replace hbl := hbl.trans (hb14.mono hbl.size)
        clear hb14 n4
        go_wp2_with fail
        refine (n5.out _).mono ?_
        rintro e w15 ⟨rfl, hb15⟩
        replace hbl := hbl.trans (hb15.mono hbl.size)
        clear hb15 n5
        go_wp2
        go_ret
        exact ⟨rfl, hbl⟩
end
end Go.Proofs.Ytgpjbacggcfcmaa
