/- Stage 12: OrderNew's walk. No condition but the landed package's. -/
import Derived.Test.YtgpjbacggcfcmaaOh
import Derived.Test.YtgpjbacggcfcmaaOm
import Derived.Test.YtgpjbacggcfcmaaOq
import Derived.Test.YtgpjbacggcfcmaaIdx
import Derived.Lib.LazyBuf
namespace Go.Proofs.Ytgpjbacggcfcmaa
open Go.RowKit Wm

theorem run_idx_pair (g o n c i : Nat) (h : i < n) (w : World) : (Instr.indexAt 25 (.slice (some ⟨g, o, none⟩) n c) (.int .i64 (i : Int))).run Try.prog w = .ok (.pointer (some ⟨g, o + i * 2, none⟩)) w := by
  obtain ⟨ie, h1, -, h2, -⟩ := info_pair
  have hu : Try.prog.underlying 25 = some (.slice (Try.prog.elem 25)) := by kernel_rfl
  have he : Try.prog.elem 25 = 44 := by kernel_rfl
  rw [run_indexAt_slice w 25 ⟨g, o, none⟩ n c .i64 (i : Int) hu, if_pos (by omega), he]
  have hs : (sizeOf 44).run Try.prog w = .ok 2 w := by
    simp [sizeOf, typeInfo, h1, h2]
  rw [hs]
  simp [Result.andThen, Addr.add_mid]
/-- Memory that may be written, behind a world. -/
def MayPut (B : Nat) (W : World) (ao : Option Addr) (n : Nat) : Prop := ∀ i, i < n → ∃ g o, ao = some ⟨g, o, none⟩ ∧ B ≤ g ∧ W.there g (o + i * 2) 2
theorem MayPut.put {B : Nat} {W : World} {ao : Option Addr} {n : Nat} (h : MayPut B W ao n) (g o : Nat) (vs : List Value) : MayPut B (W.setCells g o vs) ao n := fun i hi => by
  obtain ⟨g', o', e, hb, ht⟩ := h i hi
  exact ⟨g', o', e, hb, World.there_setCells ht g o vs⟩
section
variable {Od : Kind Zbl}
set_option maxRecDepth 100000 in
set_option maxHeartbeats 4000000 in
theorem orderNew_any (K : LandedOr Od) (ao : Option Addr) (cap : Nat) (l : List Ocall) (hl : ∀ c ∈ l, c.Wf) (hlen : l.length ≤ 140737488351232) (w : World) (hA : OcallsAt w ao l) :
    Calls Try.prog 5 #[.slice ao l.length cap] w fun e w' => e = .returned (.bool true) ∧ Below w.heap.size w w' := by
  have hal := Lib.hid (orderAlive_any K)
  by_cases c1 : 100 < l.length
  · have h1 : decide (100 < ((l.length : Nat) : Int)) = true := decide_eq_true (by omega)
    go_enter Try.func5, Try.ntmps5
    go_wp2_with fail
    refine (hal.out _).mono ?_
    rintro e w1 ⟨rfl, hb1⟩
    go_wp2
    go_ret
    exact ⟨rfl, hb1⟩
  have h1 : decide (100 < ((l.length : Nat) : Int)) = false := decide_eq_false (by omega)
  have hsc := fun k => scriptZ_facts hl k
  have hnext : ∀ k (h : k < l.length), scriptZ (l.take (k + 1)) = callZ (scriptZ (l.take k)) l[k] := fun k h => by
    rw [← scriptZ_snoc, ← List.take_append_getElem h]
  have hfr := Lib.hid (fun wr (hb : Below w.heap.size w wr) => On2.startL K.toIsKind (show On Od w (wr.alloc (.cells #[.slice none 0 0] 27)) wr.heap.size [] from On.fresh (O := Od) hb (K.new wr)))
  have h100 : l.length ≤ 100 := by omega
  replace hsc := Lib.hid hsc
  replace hnext := Lib.hid hnext
  clear c1
  go_enter Try.func5, Try.ntmps5
  go_wp2_with fail
  refine (hal.out _).mono ?_
  rintro e wc ⟨rfl, hb1⟩
  have hT0 := hfr.out _ hb1
  rw [World.size_alloc] at hT0
  clear hfr
  go_wp2_with fail
  go_loopw [22] (fun iv wr => ∃ k : Nat, k ≤ l.length ∧ iv = .int .i64 k ∧ On2 Od LsRef w wr wc.heap.size (scriptZ (l.take k)) (wc.heap.size + 1) (scriptZ (l.take k))) (fun iv _ => (l.length - RowKit.intOf iv).toNat)
  case atStart => exact ⟨0, by omega, rfl, hT0⟩
  case round =>
    clear hT0
    obtain ⟨k, hk, rfl, hT⟩ := hrel
    by_cases hlt : k < l.length
    · obtain ⟨bb, off, rfl, hbl, hc⟩ := (hA.below hT.below (Nat.le_refl _)).spot k hlt
      have hx := hl _ (List.getElem_mem hlt)
      have hn := hnext.out k hlt
      have hlen1 := (hsc.out k).2.1
      generalize hxe : l[k] = x at *
      generalize scriptZ (l.take k) = m at *
      have hT2 := hT.later K.toIsKind lsRef_kind ((Below.refl wr.heap.size wr).alloc (Nat.le_refl _) (.cells x.cells.toArray 33))
      have hcall := Lib.hid (odoes_any K hT2 (Nat.le_trans hlen1 (by omega)) (Nat.le_trans hlen1 (by omega)) x hx)
      rw [ocallV_eq] at hcall
      generalize callZ m x = m2 at *
      replace hn := Lib.hid hn
      obtain ⟨kind, kk, at'⟩ := x
      dsimp only [Ocall.cells] at hc hcall
      have c0 := hc 0 _ rfl
      have c1 := hc 1 _ rfl
      have c2 := hc 2 _ rfl
      dsimp only [Nat.add_zero] at c0 c1 c2
      clear hc hx hlen1 hxe hT2 hT
      generalize doesB m m ⟨kind, kk, at'⟩ = db at *
      go_wp2_with fail
      refine hcall.out.mono ?_
      rintro e w5 ⟨rfl, hT5⟩
      go_wp2_with fail
      go_roundw
      case measure => simp [RowKit.intOf]; omega
      case rel => exact ⟨k + 1, by omega, rfl, by rw [hn.out]; exact hT5⟩
    · have hkl : k = l.length := by omega
      subst hkl
      obtain ⟨hoz, hzl, -⟩ := hsc.out l.length
      generalize scriptZ (l.take l.length) = m at *
      have hzl2 : m.length ≤ 100 := by omega
      have hra := Lib.hid (fun W (h : On2 Od LsRef w W wc.heap.size m (wc.heap.size + 1) m) => (show Calls Try.prog 12 #[.pointer (some ⟨wc.heap.size, 0, none⟩), .int .i64 (-9223372036854775808), .int .i64 0, .bool false] W (PrsOut (rangeZ m (-9223372036854775808) 0 false) W) from by
        obtain ⟨⟨F, G, h1, _⟩, _⟩ := h
        exact K.range F W _ m _ 0 false h1 (by decide) (by decide) (by decide) (by decide)))
      have hrb := Lib.hid (fun W (h : On2 Od LsRef w W wc.heap.size m (wc.heap.size + 1) m) => (show Calls Try.prog 10 #[.pointer (some ⟨wc.heap.size + 1, 0, none⟩), .int .i64 (-9223372036854775808), .int .i64 0, .bool false] W (RefOut (rangeZ m (-9223372036854775808) 0 false) W) from by
        obtain ⟨⟨F, G, _, h2, _⟩, _⟩ := h
        exact lsrange_any h2 hoz (by omega) _ 0 false))
      have hlat := Lib.hid (fun W W2 (h : On2 Od LsRef w W wc.heap.size m (wc.heap.size + 1) m) (hb : Below W.heap.size W W2) => h.later K.toIsKind lsRef_kind hb)
      have hTl : (rangeZ m (-9223372036854775808) 0 false).length ≤ 100 := Nat.le_trans (range_length ..) (by omega)
      generalize rangeZ m (-9223372036854775808) 0 false = T at *
      clear hnext hsc
      go_wp2_with fail
      refine (hra.out _ hT).mono ?_
      rintro e w3 ⟨ao3, cp3, rfl, hp3, hb3, hn3⟩
      have hmp : MayPut wr.heap.size w3 ao3 T.length := fun i hi => by
        obtain ⟨g, o, e, hg, x0, x1⟩ := hp3.spot i hi
        obtain ⟨hge, hfz⟩ := hn3 g o e
        refine ⟨g, o, e, hge, fun j hj => ⟨?_, hfz _⟩⟩
        have hj' : j = 0 ∨ j = 1 := by omega
        rcases hj' with rfl | rfl
        · rw [Nat.add_zero, x0]; rfl
        · rw [x1]; rfl
      replace hT := Lib.hid hT
      replace hn3 := Lib.hid hn3
      clear hp3
      go_wp2_with fail
      go_loopw [35] (fun iv wz => ∃ k : Nat, k ≤ T.length ∧ iv = .int .i64 k ∧ Below wr.heap.size wr wz ∧ MayPut wr.heap.size wz ao3 T.length) (fun iv _ => (T.length - RowKit.intOf iv).toNat)
      case atStart => exact ⟨0, by omega, rfl, hb3, hmp⟩
      case round =>
        clear hmp
        obtain ⟨k, hk, rfl, hbz, hmp⟩ := hrel
        by_cases hlt : k < T.length
        · obtain ⟨g, o, rfl, hge, hth⟩ := hmp k hlt
          have hix := Lib.hid (run_idx_pair g o T.length cp3 k hlt)
          have hi44 := Lib.hid (show (Try.prog.info? 44).map (·.size) = some (#[Value.int .i64 (-(k : Int)), Value.int .i64 (-1)] : Array Value).size by kernel_rfl)
          have hone := Lib.hid (show (#[Value.int .i64 (-(k : Int)), Value.int .i64 (-1)] : Array Value).all (·.oneCell') = true by simp [Value.oneCell'])
          have hmp2 := Lib.hid (hmp.put g (o + k * 2) [.int .i64 (-(k : Int)), .int .i64 (-1)])
          have hbz2 := Lib.hid (below_setCells hge [.int .i64 (-(k : Int)), .int .i64 (-1)] (o + k * 2) _ hbz)
          replace hth := Lib.hid hth
          clear hmp hbz
          go_wp2_with (first | (refine wpList_index_run rfl _ _ _ rfl (.slice (some ⟨g, o, none⟩) T.length cp3) (.int .i64 (k : Int)) _ rfl rfl (hix.out _) ?_) | (refine wpList_store_mid rfl _ _ _ rfl g (o + k * 2) #[.int .i64 (-(k : Int)), .int .i64 (-1)] rfl rfl hth.out hi44.out hone.out ?_))
          go_roundw
          case measure => simp [RowKit.intOf]; omega
          case rel => exact ⟨k + 1, by omega, rfl, hbz2.out, hmp2.out⟩
        · have hT4 := hlat.out _ _ hT.out hbz
          clear hmp hbz hT hn3
          go_wp2_with fail
          refine (hrb.out _ hT4).mono ?_
          rintro e w5 ⟨bo, c5, eo, d5, rfl, hi5, hj5, hb5⟩
          have hT5 := hlat.out _ _ hT4 hb5
          clear hT4
          go_wp2_with fail
          refine (hra.out _ hT5).mono ?_
          rintro e w6 ⟨ao6, c6, rfl, hp6, hb6, -⟩
          have hT6 := hlat.out _ _ hT5 hb6
          have hsm := Lib.hid (osame_any (c := c6) (d := c5) (f := d5) (Nat.le_trans hTl (by omega)) hp6 (hi5.later hb6) (hj5.later hb6))
          clear hp6 hi5 hj5 hb5 hb6 hT5
          go_wp2_with fail
          refine (hsm.out).mono ?_
          rintro e w7 ⟨rfl, hb7⟩
          have hbl := hT6.below.trans (hb7.mono hT6.below.size)
          go_wp2
          go_ret
          exact ⟨rfl, hbl⟩
end
end Go.Proofs.Ytgpjbacggcfcmaa
