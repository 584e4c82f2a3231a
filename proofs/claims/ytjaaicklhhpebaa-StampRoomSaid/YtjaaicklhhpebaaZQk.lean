/- StampRoom's walk, out of the landed contracts. -/
import Derived.Test.YtjaaicklhhpebaaZPr
import Derived.Test.YtjaaicklhhpebaaZPc
import Derived.Test.YtjaaicklhhpebaaZQg
import Derived.Test.YtjaaicklhhpebaaZQi
namespace Go.Proofs.Ytjaaicklhhpebaa
open Go.RowKit Go.Sort Cr

/-- A disk of the law's own, and a row of what its first sectors held. -/
structure Rowed (Dk : (Nat → Prop) → World → Nat → St → Prop) (w wr : World) (p : Nat) (st : St) (f : Nat → ByteArray) (k : Nat) (v : Value) : Prop where
  ex : ∃ F, Dk F wr p st ∧ (∀ j, F j → w.heap.size ≤ j) ∧ ∀ g, v.ownBlock = some g → ¬ F g ∧ w.heap.size ≤ g
  row : wr.ownsRow 0 9 1 v k (rowS ((List.range k).map f))
  below : Below w.heap.size w wr
section
variable {Dk : (Nat → Prop) → World → Nat → St → Prop} {w wr w2 : World} {p k : Nat} {st st2 : St} {f : Nat → ByteArray} {v : Value}
theorem Rowed.later (K : LandedDk Dk) (h : Rowed Dk w wr p st f k v) (hb : Below wr.heap.size wr w2) : Rowed Dk w w2 p st f k v := by
  obtain ⟨⟨F, h1, h4, h5⟩, hr, hbl⟩ := h
  exact ⟨⟨F, K.later h1 hb, h4, h5⟩, (Only.of_below (F := fun _ => False) hb).row hr (fun _ _ e => e), hbl.trans (hb.mono hbl.size)⟩
theorem Rowed.of_have (h : Have Dk w wr p st) : Rowed Dk w wr p st f 0 (.slice none 0 0) := by
  obtain ⟨⟨F, h1, h2⟩, h3⟩ := h
  exact ⟨⟨F, h1, h2, fun g hg => by simp [Value.ownBlock] at hg⟩, World.ownsRow_nil _ _ _ _, h3⟩
theorem Rowed.read (K : LandedDk Dk) (h : Rowed Dk w wr p st f k v) (hok : st.Ok) (i : Nat) (hi : i < st.safe.length) :
    Calls Try.prog 21 #[.pointer (some ⟨p, 0, none⟩), .int .i64 (i : Int)] wr fun e w2 => e = .returned (.tuple #[.string (st.now i), .int .i64 0]) ∧ Rowed Dk w w2 p st f k v := by
  have h' := h
  obtain ⟨⟨F, h1, h4, h5⟩, hr, hbl⟩ := h'
  refine (K.read F wr p st (i : Int) h1 hok).mono ?_
  rintro e w2 ⟨rfl, hb⟩
  refine ⟨?_, h.later K hb⟩
  have e1 : rdS st (i : Int) = st.now i := by unfold rdS; rw [if_pos ⟨by omega, by omega⟩, Int.toNat_natCast]
  have e2 : rdE st (i : Int) = 0 := by unfold rdE; rw [if_pos ⟨by omega, by omega⟩]
  rw [e1, e2]
theorem Rowed.push (K : LandedDk Dk) (h : Rowed Dk w wr p st f k v) (hk : k ≤ 1000) :
    ∃ g cap w', (Builtin.append_ #[44, 44] 44 #[v, .slice (some ⟨wr.heap.size, 0, none⟩) 1 1]).run Try.prog (wr.alloc (.cells #[.string (f k)] 9)) = .ok (.slice (some ⟨g, 0, none⟩) (k + 1) cap) w' ∧
      Rowed Dk w w' p st f (k + 1) (.slice (some ⟨g, 0, none⟩) (k + 1) cap) := by
  obtain ⟨⟨F, h1, h4, h5⟩, hr, hbl⟩ := h
  obtain ⟨g, cap, w', hrun, ho, hgr, hat⟩ := app_one Try.underlying44 str_info rfl (by omega) wr v k _ hr (.string (f k)) rfl (by omega)
  have hO : Only (fun i => v.ownBlock = some i) wr w' := (Only.of_below ((Below.refl _ _).alloc (Nat.le_refl _) _)).trans (Only.of_grown (F := fun i => v.ownBlock = some i) hgr (fun i _ hi => hi)) (fun _ _ e => e)
  refine ⟨g, cap, w', hrun, ⟨F, K.keep _ _ _ _ _ _ h1 hO (fun i hi e => (h5 i e).1 hi), h4, fun i hi => ?_⟩, ?_, hbl.trans (hO.to_below hbl.size (fun i hi => (h5 i hi).2))⟩
  · have hi2 : g = i := by simpa [Value.ownBlock] using hi
    subst hi2
    rcases hat with e | e
    · exact h5 g e
    · exact ⟨fun e2 => by have := K.near _ _ _ _ h1 g e2; omega, by have := hbl.size; omega⟩
  · have e : rowS ((List.range (k + 1)).map f) = rowS ((List.range k).map f) ++ [.string (f k)] := by unfold rowS; rw [List.range_succ, List.map_append, List.map_append]; rfl
    rw [e]; exact ho
theorem Rowed.post {F : Nat → Prop} (hF : ∀ j, F j → w.heap.size ≤ j) (hv : ∀ g, v.ownBlock = some g → ¬ F g ∧ w.heap.size ≤ g) (hr : wr.ownsRow 0 9 1 v k (rowS ((List.range k).map f))) (hbl : Below w.heap.size w wr) (h : DkPost Dk F p st2 wr w2) : Rowed Dk w w2 p st2 f k v := by
  obtain ⟨F', k1, k2, k3⟩ := h
  have hsz := hbl.size
  refine ⟨⟨F', k1, fun i hi => ?_, fun g hg => ⟨fun e => (hv g hg).1 (k3 g (hr.lt g hg).2 e), (hv g hg).2⟩⟩, k2.row hr (fun g hg => (hv g hg).1), hbl.trans (k2.to_below hsz hF)⟩
  by_cases e : i < wr.heap.size
  · exact hF i (k3 i e hi)
  · omega
theorem Rowed.lay (_K : LandedDk Dk) (S : LandedSt Dk) (h : Rowed Dk w wr p st f k v) (fr upto N : Int) (s : ByteArray) (hroom : st.Room (countN s.size)) (hs : s.size ≤ 140737488351232) :
    Calls Try.prog 16 #[.pointer (some ⟨p, 0, none⟩), .int .i64 fr, .int .i64 upto, .int .i64 N, .string s] wr fun e w2 => e = .returned (.int .i64 (st.lay fr upto N s).1) ∧ Rowed Dk w w2 p (st.lay fr upto N s).2 f k v := by
  obtain ⟨⟨F, h1, h4, h5⟩, hr, hbl⟩ := h
  refine (S.lay F wr p st fr upto N s h1 hroom hs).mono ?_
  rintro e w2 ⟨rfl, hP⟩
  exact ⟨rfl, Rowed.post h4 h5 hr hbl hP⟩
theorem Rowed.latest (K : LandedDk Dk) (h : Rowed Dk w wr p st f k v) (hok : st.Ok) :
    Calls Try.prog 18 #[.pointer (some ⟨p, 0, none⟩)] wr fun e w2 => e = .returned (.int .i64 (st.later.length : Int)) ∧ Rowed Dk w w2 p st f k v := by
  have h' := h
  obtain ⟨⟨F, h1, h4, h5⟩, hr, hbl⟩ := h'
  refine (K.later' F wr p st h1 hok).mono ?_
  rintro e w2 ⟨rfl, hb⟩
  exact ⟨rfl, h.later K hb⟩
/-- A sector of the row. -/
theorem Rowed.cell (h : Rowed Dk w wr p st f k v) : ∃ ao cap, v = .slice ao k cap ∧ ∀ j, j < k → ∃ g, ao = some ⟨g, 0, none⟩ ∧ wr.cell? ⟨g, j, none⟩ = some (.string (f j)) := by
  obtain ⟨ao, cap, rfl, h1⟩ := row_slice h.row
  refine ⟨ao, cap, rfl, fun j hj => ?_⟩
  obtain ⟨g, x, rfl, _, hx, hc, _⟩ := h1 j hj
  refine ⟨g, rfl, ?_⟩
  unfold rowS at hx
  rw [List.map_map, List.getElem?_map, List.getElem?_range hj] at hx
  obtain rfl := Option.some.inj hx
  exact hc
end
theorem room_place {st : St} (h : st.Wet 13) {fr : Int} (h0 : 0 ≤ fr) (h1 : fr ≤ 12) : layPlace st fr 12 1125899906842624 = true := by
  unfold layPlace
  rw [h.len, decide_eq_true h0, decide_eq_true h1]; rfl
set_option maxRecDepth 100000 in
set_option maxHeartbeats 4000000 in
theorem stampRoom_any {Dk : (Nat → Prop) → World → Nat → St → Prop} (K : LandedDk Dk) (S : LandedSt Dk) (ao : Option Addr) (cap : Nat) (l : List ByteArray) (hlen : l.length ≤ 140737488351232) (fr : Int) (s : ByteArray) (hs : s.size ≤ 140737488351232)
    (w : World) (hS : StrsAt w ao l) :
    Calls Try.prog 9 #[.slice ao l.length cap, .int .i64 fr, .string s] w fun e w' => e = .returned (.bool true) ∧ Below w.heap.size w w' := by
  have hal := Lib.hid (stampAlive_any S)
  by_cases hq : s.size ≤ 2000 ∧ 0 ≤ fr ∧ fr ≤ 12
  · obtain ⟨q1, q2, q3⟩ := hq
    have hcn : countN s.size ≤ 20 := countN_stop s.size 20 (by omega) (by omega)
    have hdk := Lib.hid (fun W h => disk_any K ao cap l hlen W h)
    have hcnt := Lib.hid (refcount_any s.size (by omega))
    have hco := fun W => S.count (s.size : Int) W (by omega) (by omega)
    rw [Int.toNat_natCast] at hco
    replace hco := Lib.hid hco
    obtain ⟨f0, rfl⟩ := Int.eq_ofNat_of_zero_le q2
    have n1 : ¬ (2000 : Int) < (s.size : Int) := by omega
    have n2 : ¬ (12 : Int) < (f0 : Int) := by omega
    go_enter Try.func9, Try.ntmps9
    go_wp2_with fail
    refine (hal.out _).mono ?_
    rintro e w1 ⟨rfl, hb1⟩
    replace hS := hS.later hb1
    go_wp2_with fail
    refine (hdk.out _ hS).mono ?_
    rintro e w2 ⟨p, F, st, rfl, hD, hW, hL0, hF, hb2⟩
    have hH0 : Have Dk w w2 p st := Have.of_wet hb1 hD hF hb2
    have hR0 := Rowed.of_have (f := st.now) hH0
    have hok := hW.ok (by omega)
    have hlen12 := hW.len
    clear hD hF hb1 hb2 hS hdk hal hH0
    go_wp2
    go_loopw [8, 9] (fun v i wr => ∃ k : Nat, k ≤ 12 ∧ i = .int .i64 k ∧ Rowed Dk w wr p st st.now k v) (fun _ i _ => (12 - intOf i).toNat)
    case atStart => exact ⟨0, by omega, rfl, hR0⟩
    case round =>
      clear hR0
      obtain ⟨k, hk, rfl, hR⟩ := hrel
      by_cases hlt : k < 12
      · have hrd := Lib.hid (hR.read K hok k (by omega))
        have hPu := Lib.hid (fun W v (h : Rowed Dk w W p st st.now k v) => h.push K (by omega))
        generalize hx : st.now k = x at *
        replace hx := Lib.hid hx
        have hk12 : (k : Int) < 12 := by omega
        clear hR
        go_wp2_with fail
        refine hrd.out.mono ?_
        rintro e w3 ⟨rfl, hR3⟩
        obtain ⟨g, cap2, w5, hrun, hR5⟩ := hPu.out _ _ hR3
        go_wp2_with (at_builtin; refine Lib.wpList_append_run _ rfl _ _ _ _ rfl _ _ rfl rfl _ _ hrun ?_)
        exact ⟨⟨k + 1, by omega, by go_num, hR5⟩, by simp [intOf]; omega⟩
      · obtain rfl : k = 12 := by omega
        have hpl := room_place hW q2 q3
        by_cases hlong : (12 : Int) - (f0 : Int) < ((countN s.size : Nat) : Int)
        · have hLay := Lib.hid (hR.lay K S (f0 : Int) 12 1125899906842624 s (hW.room (by omega)) hs)
          rw [lay_long hpl s hlong] at hLay
          have hLt := fun W v (h : Rowed Dk w W p st st.now 12 v) => h.latest K hok
          rw [hL0] at hLt
          replace hLt := Lib.hid hLt
          clear hR
          go_wp2_with fail
          refine (hLay.out).mono ?_
          rintro e w3 ⟨rfl, hR3⟩
          go_wp2_with fail
          refine (hLt.out _ _ hR3).mono ?_
          rintro e w4 ⟨rfl, hR4⟩
          have hb := Lib.hid hR4.below
          clear hR3 hR4
          go_wp2
          go_ret
          exact ⟨rfl, hb.out⟩
        · have hLay := Lib.hid (hR.lay K S (f0 : Int) 12 1125899906842624 s (hW.room (by omega)) hs)
          rw [lay_good hpl s hlong hW.arm.2, Int.toNat_natCast] at hLay
          have hW2 := laid_ok hW f0 1125899906842624 s (by omega)
          have hll := laid_len st f0 1125899906842624 s hL0
          have hnow := laid_now st f0 1125899906842624 s hL0
          have hok2 := hW2.ok (by omega)
          have hlen2 := hW2.len
          generalize laidSt st f0 1125899906842624 s = st2 at *
          obtain ⟨ao2, cap2, hv, -⟩ := hR.cell
          subst hv
          clear hR hW2
          have hfl : ((f0 : Int) + ((countN s.size : Nat) : Int)) ≤ 12 := by omega
          generalize hcc : countN s.size = c at *
          replace hcc := Lib.hid hcc
          replace hll := Lib.hid hll
          replace hnow := Lib.hid hnow
          go_wp2_with fail
          refine (hLay.out).mono ?_
          rintro e w3 ⟨rfl, hR3⟩
          go_wp2_with fail
          refine (hco.out _).mono ?_
          rintro e w4 ⟨rfl, hb4⟩
          replace hR3 := hR3.later K hb4
          clear hb4 hLay hco
          go_wp2
          go_loopw [58] (fun i wr => ∃ k : Nat, k ≤ 12 ∧ i = .int .i64 k ∧ Rowed Dk w wr p st2 st.now 12 (.slice ao2 12 cap2)) (fun i _ => (12 - intOf i).toNat)
          case atStart => exact ⟨0, by omega, rfl, hR3⟩
          case round =>
            clear hR3
            obtain ⟨k, hk, rfl, hR⟩ := hrel
            by_cases hlt : k < 12
            · have hrd := Lib.hid (hR.read K hok2 k (by omega))
              have hn := hnow.out k
              have hcell := Lib.hid (fun W v (h : Rowed Dk w W p st2 st.now 12 v) => h.cell)
              have hsum : IntKind.i64.wrap ((f0 : Int) + (c : Int)) = (f0 : Int) + (c : Int) := by rw [IntKind.wrap_i64]; omega
              clear hR
              by_cases hin : f0 ≤ k ∧ k < f0 + c
              · have m1 : ¬ (k : Int) < (f0 : Int) := by omega
                have m2 : ¬ (f0 : Int) + (c : Int) ≤ (k : Int) := by omega
                clear hn
                go_wp2_with fail
                refine hrd.out.mono ?_
                rintro e w5 ⟨rfl, hR5⟩
                go_wp2
                exact ⟨⟨k + 1, by omega, by go_num, hR5⟩, by simp [intOf]; omega⟩
              · rw [if_neg hin] at hn
                rw [hn] at hrd
                clear hn
                have hm : (k : Int) < (f0 : Int) ∨ (¬ (k : Int) < (f0 : Int) ∧ (f0 : Int) + (c : Int) ≤ (k : Int)) := by omega
                clear hin
                rcases hm with m1 | ⟨m1, m2⟩
                all_goals
                  go_wp2_with fail
                  refine hrd.out.mono ?_
                  rintro e w5 ⟨rfl, hR5⟩
                  obtain ⟨ao3, cap3, e3, h3⟩ := hcell.out _ _ hR5
                  obtain ⟨rfl, -⟩ := (by simpa using e3 : ao2 = ao3 ∧ cap2 = cap3)
                  obtain ⟨g, rfl, hg⟩ := h3 k hlt
                  clear h3 e3
                  generalize st.now k = x at *
                  go_wp2
                  exact ⟨⟨k + 1, by omega, by go_num, hR5⟩, by simp [intOf]; omega⟩
            · obtain rfl : k = 12 := by omega
              have hlt2 := hR.latest K hok2
              rw [hll.out] at hlt2
              replace hlt2 := Lib.hid hlt2
              clear hR
              go_wp2_with fail
              refine hlt2.out.mono ?_
              rintro e w5 ⟨rfl, hR5⟩
              have hb := Lib.hid hR5.below
              clear hR5
              go_wp2_with fail
              refine (hcnt.out _).mono ?_
              rintro e w6 ⟨rfl, rfl⟩
              go_wp2
              go_ret
              exact ⟨by first | rfl | simp, hb.out⟩
  · have hq' : (2000 : Int) < (s.size : Int) ∨ (¬ (2000 : Int) < (s.size : Int) ∧ fr < 0) ∨ (¬ (2000 : Int) < (s.size : Int) ∧ ¬ fr < 0 ∧ 12 < fr) := by omega
    clear hq
    rcases hq' with q | ⟨q, q2⟩ | ⟨q, q2, q3⟩
    all_goals
      go_enter Try.func9, Try.ntmps9
      go_wp2_with fail
      refine (hal.out _).mono ?_
      rintro e w1 ⟨rfl, hb1⟩
      go_wp2
      go_ret
      exact ⟨rfl, hb1⟩
end Go.Proofs.Ytjaaicklhhpebaa
