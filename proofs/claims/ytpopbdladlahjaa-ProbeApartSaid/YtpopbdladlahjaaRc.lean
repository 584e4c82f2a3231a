/- Stage 11: ProbeApart's walk. No condition but the landed package's. -/
import Derived.Test.YtpopbdladlahjaaRb
namespace Go.Proofs.Ytpopbdladlahjaa
open Go.RowKit Go.Sort Wm
attribute [local go_sem high] run_eql_num run_neq_num

set_option maxRecDepth 100000 in
set_option maxHeartbeats 2000000 in
theorem probeApart_any {Tb : Kind Tbl} (K : LandedTb Tb) (ao : Option Addr) (cap : Nat) (l : List Pcall) (hl : ∀ c ∈ l, c.Wf) (hlen : l.length ≤ 140737488351232) (key : Nat) (hk' : key < big) (w : World) (hA : PcallsAt w ao l) :
    Calls Try.prog 4 #[.slice ao l.length cap, numV key] w fun e w' => e = .returned (.bool true) ∧ Below w.heap.size w w' := by
  have hal := Lib.hid (probeAlive_any K)
  have hw0 : Below w.heap.size w (w.alloc (.cells #[.int .u64 ((hiN key : Nat) : Int), .int .u64 ((loN key : Nat) : Int)] 33)) := (Below.refl _ _).alloc (Nat.le_refl _) _
  have hbx := BoxAt.new w [.int .u64 ((hiN key : Nat) : Int), .int .u64 ((loN key : Nat) : Int)] 33
  by_cases hbig : 400 < l.length
  · have hb : decide (400 < ((l.length : Nat) : Int)) = true := decide_eq_true (by omega)
    go_enter Try.func4, Try.ntmps4
    go_wp2_with fail
    refine (hal.out _).mono ?_
    rintro e w1 ⟨rfl, hb1⟩
    have hb2 := hw0.trans (hb1.mono hw0.size)
    go_wp2
    go_ret
    exact ⟨rfl, hb2⟩
  · have hb : decide (400 < ((l.length : Nat) : Int)) = false := decide_eq_false (by omega)
    have hrun : ∀ k, (runT (l.take k)).length ≤ 1000 := fun k => by
      have h1 := runT_length (l.take k)
      have h2 : (l.take k).length ≤ l.length := by rw [List.length_take]; omega
      omega
    have hnext : ∀ k (h : k < l.length), runT (l.take (k + 1)) = callT (runT (l.take k)) l[k] := fun k h => by
      rw [← runT_snoc, ← List.take_append_getElem h]
    replace hnext := Lib.hid hnext
    replace hrun := Lib.hid hrun
    have hbig' := Lib.hid hbig
    clear hbig
    go_enter Try.func4, Try.ntmps4
    generalize hw0e : w.alloc (.cells #[.int .u64 ((hiN key : Nat) : Int), .int .u64 ((loN key : Nat) : Int)] 33) = w0 at *
    go_wp2_with fail
    refine (hal.out _).mono ?_
    rintro e w1 ⟨rfl, hb1⟩
    go_wp2_with fail
    refine (K.new _).mono ?_
    rintro e w2 hm
    obtain ⟨p, _, rfl, -⟩ := id hm
    have hT0 := On.made hb1 hm
    clear hm
    go_wp2_with fail
    go_loopw [6, 7, 20] (fun wv hv iv wr => ∃ k : Nat, k ≤ l.length ∧ iv = .int .i64 k ∧ wv = .int .i64 ((getT (runT (l.take k)) key).getD 0) ∧ hv = .bool (getT (runT (l.take k)) key).isSome ∧ On Tb w0 wr p (runT (l.take k))) (fun _ _ iv _ => (l.length - RowKit.intOf iv).toNat)
    case atStart => exact ⟨0, by omega, rfl, rfl, rfl, hT0⟩
    case round =>
      clear hT0
      obtain ⟨k, hk, rfl, rfl, rfl, hT⟩ := hrel
      by_cases hlt : k < l.length
      · have hbw := hw0.trans (hT.below.mono hw0.size)
        obtain ⟨b, off, rfl, hbl, hc⟩ := (hA.below hbw (Nat.le_refl _)).spot k hlt
        have hx := hl _ (List.getElem_mem hlt)
        have hn := hnext.out k hlt
        have hlen1 := hrun.out k
        have honce := runT_once (l.take k)
        generalize hxe : l[k] = x at *
        generalize runT (l.take k) = m at *
        have hg := getT_call honce x key
        rw [← hn] at hg
        obtain ⟨kind, kk, at'⟩ := x
        dsimp only [Pcall.cells] at hc hg
        have c0 := hc 0 _ rfl
        have c1 := hc 1 _ rfl
        have c2 := hc 2 _ rfl
        have c3 := hc 3 _ rfl
        dsimp only [Nat.add_zero] at c0 c1 c2 c3
        clear hc
        have hkk := hx.Key
        have hat := hx.At
        dsimp only at hkk hat
        have hal2 : Below wr.heap.size wr (wr.alloc (.cells #[.int .i64 kind, .int .u64 ((hiN kk : Nat) : Int), .int .u64 ((loN kk : Nat) : Int), .int .i64 at'] 35)) := (Below.refl _ _).alloc (Nat.le_refl _) _
        have hT2 := hT.later K.toIsKind hal2
        have hxb := BoxAt.new wr [.int .i64 kind, .int .u64 ((hiN kk : Nat) : Int), .int .u64 ((loN kk : Nat) : Int), .int .i64 at'] 35
        have kput := Lib.hid (hT.opBox K.toIsKind hal2 hxb (Nat.le_refl _) (fun F h => K.put F _ p m kk at' h hkk hlen1 hat.1 hat.2))
        have kdrop := Lib.hid (hT.opBox K.toIsKind hal2 hxb (Nat.le_refl _) (fun F h => K.drop F _ p m kk h hkk))
        unfold callT at hn
        dsimp only at hn
        have hm2 := Lib.hid hn
        generalize hm2e : runT (l.take (k + 1)) = m2 at *
        have hfin := Lib.hid (fun (w9 : World) (g : Option Int) (hgg : getT m2 key = g) (hT : On Tb w0 w9 p m2) => show (∃ k1 : Nat, k1 ≤ l.length ∧ (Value.int .i64 ((k : Int) + 1)) = .int .i64 k1 ∧ (Value.int .i64 (g.getD 0)) = .int .i64 ((getT (runT (l.take k1)) key).getD 0) ∧ (Value.bool g.isSome) = .bool (getT (runT (l.take k1)) key).isSome ∧ On Tb w0 w9 p (runT (l.take k1))) ∧ (l.length - RowKit.intOf (.int .i64 ((k : Int) + 1))).toNat < (l.length - RowKit.intOf (.int .i64 (k : Int))).toNat from
          ⟨⟨k + 1, by omega, by go_num, by rw [hm2e, hgg], by rw [hm2e, hgg], by rw [hm2e]; exact hT⟩, by simp [RowKit.intOf]; omega⟩)
        have kget := Lib.hid (fun w9 (hT : On Tb w0 w9 p m2) => hT.ask K.toIsKind (fun F h => K.get F w9 p m2 key h hk'))
        clear hm2e hxe hnext hrun hl hA honce hlen1 hm2 hx hkk hat hT hal2 hbig' hal hb1 hbw hw0
        by_cases hke : kk = key
        · rw [if_pos hke] at hg
          have hkb : decide (kk = key) = true := decide_eq_true hke
          clear hke
          by_cases h0 : kind = 0
          · have h0b : (kind == 0) = true := by simpa using h0
            rw [if_pos h0] at hg hn
            clear h0
            rw [hg] at kget
            rw [← hn] at kput
            clear kdrop hn hT2 hxb
            go_wp2_with fail
            refine kput.out.mono ?_
            rintro e w5 ⟨rfl, hT5, hx5⟩
            clear kput
            have bx := hbx.later hT5.below
            have z0 := bx.spot 0 _ rfl
            have z1 := bx.spot 1 _ rfl
            have zl := bx.lt
            have y0 := hx5.spot 0 _ rfl
            have y1 := hx5.spot 1 _ rfl
            have y2 := hx5.spot 2 _ rfl
            have y3 := hx5.spot 3 _ rfl
            have yl := hx5.lt
            clear bx hx5
            go_wp2_with fail
            refine (kget.out _ hT5).mono ?_
            rintro e w6 ⟨rfl, hT6⟩
            go_wp2_with fail
            exact hfin.out _ _ hg hT6
          · have h0b : (kind == 0) = false := by simpa using h0
            rw [if_neg h0] at hg hn
            clear h0
            by_cases h1 : kind = 1
            · have h1b : (kind == 1) = true := by simpa using h1
              rw [if_pos h1] at hg hn
              clear h1
              rw [hg] at kget
              rw [← hn] at kdrop
              clear kput hn hT2 hxb
              go_wp2_with fail
              refine kdrop.out.mono ?_
              rintro e w5 ⟨rfl, hT5, hx5⟩
              clear kdrop
              have bx := hbx.later hT5.below
              have z0 := bx.spot 0 _ rfl
              have z1 := bx.spot 1 _ rfl
              have zl := bx.lt
              have y0 := hx5.spot 0 _ rfl
              have y1 := hx5.spot 1 _ rfl
              have y2 := hx5.spot 2 _ rfl
              have y3 := hx5.spot 3 _ rfl
              have yl := hx5.lt
              clear bx hx5
              go_wp2_with fail
              refine (kget.out _ hT5).mono ?_
              rintro e w6 ⟨rfl, hT6⟩
              go_wp2_with fail
              exact hfin.out _ _ hg hT6
            · have h1b : (kind == 1) = false := by simpa using h1
              rw [if_neg h1] at hg hn
              clear h1
              rw [hg] at kget
              rw [← hn] at hT2
              have hT5 := hT2
              have hx5 := hxb
              clear kput kdrop hn hT2 hxb
              have bx := hbx.later hT5.below
              have z0 := bx.spot 0 _ rfl
              have z1 := bx.spot 1 _ rfl
              have zl := bx.lt
              have y0 := hx5.spot 0 _ rfl
              have y1 := hx5.spot 1 _ rfl
              have y2 := hx5.spot 2 _ rfl
              have y3 := hx5.spot 3 _ rfl
              have yl := hx5.lt
              clear bx hx5
              go_wp2_with fail
              refine (kget.out _ hT5).mono ?_
              rintro e w6 ⟨rfl, hT6⟩
              go_wp2_with fail
              exact hfin.out _ _ hg hT6
        · rw [if_neg hke] at hg
          have hkb : decide (kk = key) = false := decide_eq_false hke
          clear hke
          rw [hg] at kget
          by_cases h0 : kind = 0
          · have h0b : (kind == 0) = true := by simpa using h0
            rw [if_pos h0] at hn
            clear h0
            rw [← hn] at kput
            clear kdrop hn hT2 hxb
            go_wp2_with fail
            refine kput.out.mono ?_
            rintro e w5 ⟨rfl, hT5, hx5⟩
            clear kput
            have bx := hbx.later hT5.below
            have z0 := bx.spot 0 _ rfl
            have z1 := bx.spot 1 _ rfl
            have zl := bx.lt
            have y0 := hx5.spot 0 _ rfl
            have y1 := hx5.spot 1 _ rfl
            have y2 := hx5.spot 2 _ rfl
            have y3 := hx5.spot 3 _ rfl
            have yl := hx5.lt
            clear bx hx5
            go_wp2_with fail
            refine (kget.out _ hT5).mono ?_
            rintro e w6 ⟨rfl, hT6⟩
            go_wp2_with fail
            exact hfin.out _ _ hg hT6
          · have h0b : (kind == 0) = false := by simpa using h0
            rw [if_neg h0] at hn
            clear h0
            by_cases h1 : kind = 1
            · have h1b : (kind == 1) = true := by simpa using h1
              rw [if_pos h1] at hn
              clear h1
              rw [← hn] at kdrop
              clear kput hn hT2 hxb
              go_wp2_with fail
              refine kdrop.out.mono ?_
              rintro e w5 ⟨rfl, hT5, hx5⟩
              clear kdrop
              have bx := hbx.later hT5.below
              have z0 := bx.spot 0 _ rfl
              have z1 := bx.spot 1 _ rfl
              have zl := bx.lt
              have y0 := hx5.spot 0 _ rfl
              have y1 := hx5.spot 1 _ rfl
              have y2 := hx5.spot 2 _ rfl
              have y3 := hx5.spot 3 _ rfl
              have yl := hx5.lt
              clear bx hx5
              go_wp2_with fail
              refine (kget.out _ hT5).mono ?_
              rintro e w6 ⟨rfl, hT6⟩
              go_wp2_with fail
              exact hfin.out _ _ hg hT6
            · have h1b : (kind == 1) = false := by simpa using h1
              rw [if_neg h1] at hn
              clear h1
              rw [← hn] at hT2
              have hT5 := hT2
              have hx5 := hxb
              clear kput kdrop hn hT2 hxb
              have bx := hbx.later hT5.below
              have z0 := bx.spot 0 _ rfl
              have z1 := bx.spot 1 _ rfl
              have zl := bx.lt
              have y0 := hx5.spot 0 _ rfl
              have y1 := hx5.spot 1 _ rfl
              have y2 := hx5.spot 2 _ rfl
              have y3 := hx5.spot 3 _ rfl
              have yl := hx5.lt
              clear bx hx5
              go_wp2_with fail
              refine (kget.out _ hT5).mono ?_
              rintro e w6 ⟨rfl, hT6⟩
              go_wp2_with fail
              exact hfin.out _ _ hg hT6
      · obtain rfl : k = l.length := by omega
        have hbw := hw0.trans (hT.below.mono hw0.size)
        go_wp2
        go_ret
        exact ⟨rfl, hbw⟩
end Go.Proofs.Ytpopbdladlahjaa
