/- SlotOver's walk, out of the landed contracts. -/
import Derived.Test.YtageeodmpbngaaaZIb
namespace Go.Proofs.Ytageeodmpbngaaa
open Go.RowKit Go.Sort Cr

theorem count_30 {n : Nat} (h : n ≤ 3000) : countN n ≤ 30 := countN_stop n 30 (by omega) (by omega)
theorem spot_le {n : Nat} (h : 12 ≤ n) (w : Int) : 2 ≤ spotP n w ∧ spotP n w + sizeP n ≤ n := by
  have h1 := sizeP_le n
  rcases flip_spot n w with ⟨_, e, _⟩ | ⟨_, e, _⟩ <;> omega
theorem spot_apart {n : Nat} (_h : 12 ≤ n) (w : Int) : spotP n (flipW w) + sizeP n ≤ spotP n w ∨ spotP n w + sizeP n ≤ spotP n (flipW w) := by
  rcases flip_spot n w with ⟨_, e, e2⟩ | ⟨_, e, e2⟩ <;> omega
/-- What putting twice into one slot leaves. -/
def OverAll (n : Nat) (which : Int) (a b : ByteArray) : Prop :=
  (St.new (n : Int)).put (spotP n which) (sizeP n) 1 a = (3, St.new (n : Int)) ∨
  ∃ st1, (St.new (n : Int)).put (spotP n which) (sizeP n) 1 a = (0, st1) ∧ st1.Calm n 40 ∧
    (st1.put (spotP n which) (sizeP n) 2 b = (3, st1) ∨
    ∃ st2, st1.put (spotP n which) (sizeP n) 2 b = (0, st2) ∧ st2.Calm n 80 ∧
      st2.take ((spotP n which : Nat) : Int) ((spotP n which + sizeP n : Nat) : Int) 1 (a.size : Int) = none ∧
      st2.take ((spotP n which : Nat) : Int) ((spotP n which + sizeP n : Nat) : Int) 2 (b.size : Int) = some b ∧
      st2.take ((spotP n (flipW which) : Nat) : Int) ((spotP n (flipW which) + sizeP n : Nat) : Int) 2 (b.size : Int) = none)
theorem over_all {n : Nat} (h12 : 12 ≤ n) (hn : n ≤ 4096) (which : Int) (a b : ByteArray) (hs : a.size + b.size ≤ 3000) : OverAll n which a b := by
  have hC := St.Calm.new n hn
  have hsp := spot_le h12 which
  have hsf := spot_le h12 (flipW which)
  have hap := spot_apart h12 which
  have ca := count_30 (n := a.size) (by omega)
  have cb := count_30 (n := b.size) (by omega)
  have pa := countN_pos a.size
  have pb := countN_pos b.size
  rcases hC.put (spotP n which) (sizeP n) hsp.2 (N := 1) (by omega) a with ⟨f1, st1, e1, C1, -, n1⟩ | ⟨-, e1⟩
  · right
    refine ⟨st1, e1, C1.mono (by omega), ?_⟩
    rcases C1.put (spotP n which) (sizeP n) hsp.2 (N := 2) (by omega) b with ⟨f2, st2, e2, C2, -, n2⟩ | ⟨-, e2⟩
    · right
      refine ⟨st2, e2, C2.mono (by omega), ?_, ?_, ?_⟩
      · rw [St.take_at C2.len _ _ hsp.2, if_pos f1]
        refine take_other (fun I D e => ?_)
        rw [Nat.add_zero, n2 _ (by omega), if_pos (by omega), Nat.sub_self, leafOf_sec (part_ok (by omega) (by omega) b 0 (by omega))] at e
        injection e with e
        injection e with e _
        omega
      · rw [St.take_at C2.len _ _ hsp.2, if_pos f2]
        refine take_whole (by omega) (by omega) (by omega) (fun i hi => ?_)
        rw [n2 _ (by omega), if_pos (by omega), show spotP n which + i - spotP n which = i by omega]
      · rw [St.take_at C2.len _ _ hsf.2, if_pos f2]
        refine take_other (fun I D e => ?_)
        rw [Nat.add_zero, n2 _ (by omega), if_neg (by omega), n1 _ (by omega), if_neg (by omega), blank_at] at e
        cases e
    · exact .inl e2
  · exact .inl e1
set_option maxRecDepth 100000 in
set_option maxHeartbeats 1000000 in
theorem slotOver_any {Dk : (Nat → Prop) → World → Nat → St → Prop} (K : LandedDk Dk) (L : LandedSl Dk) (sectors : Int) (hs : InI sectors) (a : ByteArray) (ha : a.size ≤ 140737488351232) (b : ByteArray) (hb : b.size ≤ 140737488351232) (which : Int) (hw : InI which) (w : World) :
    Calls Try.prog 6 #[.int .i64 sectors, .string a, .string b, .int .i64 which] w fun e w' => e = .returned (.bool true) ∧ Below w.heap.size w w' := by
  have hal := Lib.hid (slotAlive_any K L)
  have hsum : IntKind.i64.wrap ((a.size : Int) + (b.size : Int)) = (a.size : Int) + (b.size : Int) := by rw [IntKind.wrap_i64]; omega
  by_cases hg : sectors < 12 ∨ 60 < sectors ∨ 3000 < (a.size : Int) + (b.size : Int)
  · have hb2 : sectors < 12 ∨ (¬ sectors < 12 ∧ 60 < sectors) ∨ (¬ sectors < 12 ∧ ¬ 60 < sectors ∧ 3000 < (a.size : Int) + (b.size : Int)) := by omega
    clear hg hs hw
    rcases hb2 with q | ⟨q, q'⟩ | ⟨q, q', q''⟩
    all_goals
      go_enter Try.func6, Try.ntmps6
      go_wp2_with fail
      refine (hal.out _).mono ?_
      rintro e w1 ⟨rfl, hb1⟩
      go_wp2
      go_ret
      exact ⟨rfl, hb1⟩
  · obtain ⟨m, rfl⟩ := Int.eq_ofNat_of_zero_le (show 0 ≤ sectors by omega)
    have h12 : 12 ≤ m := by omega
    have hm : m ≤ 4096 := by omega
    have g1 : ¬ ((m : Nat) : Int) < 12 := by omega
    have g2 : ¬ 60 < ((m : Nat) : Int) := by omega
    have g3 : ¬ 3000 < (a.size : Int) + (b.size : Int) := by omega
    have hA := over_all h12 hm which a b (by omega)
    have ca := count_30 (n := a.size) (by omega)
    have cb := count_30 (n := b.size) (by omega)
    have hof := Lib.hid (fun W => L.of m W h12 hm)
    have hnew := Lib.hid (fun W => K.new ((m : Nat) : Int) W (by omega) (by omega))
    have hxor := bits_flip hw.1 hw.2
    have hwf : InI (flipW which) := by unfold InI flipW at *; split <;> omega
    have hp1 := Lib.hid (fun F W p h => L.put F W p (St.new ((m : Nat) : Int)) m which 1 a h12 hm hw h ((St.Calm.new m hm).room hm (by omega)) ha)
    have hp2 := Lib.hid (fun st (hC : St.Calm st m 40) F W p h => L.put F W p st m which 2 b h12 hm hw h (hC.room hm (by omega)) hb)
    have hq1 := Lib.hid (fun st (hC : St.Calm st m 80) F W p h => L.get F W p st m which 1 (a.size : Int) h12 hm hw h (hC.ok hm (by omega)) (by omega))
    have hq2 := Lib.hid (fun st (hC : St.Calm st m 80) F W p h => L.get F W p st m which 2 (b.size : Int) h12 hm hw h (hC.ok hm (by omega)) (by omega))
    have hq3 := Lib.hid (fun st (hC : St.Calm st m 80) F W p h => L.get F W p st m (flipW which) 2 (b.size : Int) h12 hm hwf h (hC.ok hm (by omega)) (by omega))
    unfold OverAll at hA
    unfold planV planA at hof hp1 hp2 hq1 hq2 hq3
    generalize spotP m which = A at *
    generalize spotP m (flipW which) = A2 at *
    generalize ((2 + sizeP m : Nat) : Int) = S at *
    generalize ((2 + sizeP m + sizeP m : Nat) : Int) = J at *
    generalize hzz : ((sizeP m : Nat) : Int) = Z at *
    generalize sizeP m = z at *
    generalize St.new ((m : Nat) : Int) = st0 at *
    generalize flipW which = w2 at *
    clear hs hg hw hwf hzz ca cb
    rcases hA with e1 | ⟨st1, e1, C1, hA⟩
    · rw [e1] at hp1
      go_enter Try.func6, Try.ntmps6
      go_wp2_with fail
      refine (hal.out _).mono ?_
      rintro e w1 ⟨rfl, hb1⟩
      go_wp2_with fail
      refine (hof.out _).mono ?_
      rintro e w3 ⟨rfl, hb2⟩
      replace hb1 := hb1.trans (hb2.mono hb1.size)
      clear hb2
      go_wp2_with fail
      refine (hnew.out _).mono ?_
      rintro e w4 hm4
      obtain ⟨p, _, rfl, -⟩ := id hm4
      have hT := Sl.made hb1 hm4
      replace hp1 := Lib.hid (hT.op (fun F h => hp1.out F _ _ h))
      clear hm4 hb1 hof hnew
      obtain ⟨b0, b1, b2, b3, b4, bl⟩ := hT.cells
      clear hT
      go_wp2_with fail
      refine hp1.out.mono ?_
      rintro e w5 ⟨rfl, hT⟩
      have hbl := hT.below
      clear hp1 hT b0 b1 b2 b3 b4 bl
      go_wp2
      go_ret
      exact ⟨rfl, hbl⟩
    · rw [e1] at hp1
      replace hp2 := Lib.hid (hp2.out st1 C1)
      rcases hA with e2 | ⟨st2, e2, C2, t1, t2, t3⟩
      · rw [e2] at hp2
        go_enter Try.func6, Try.ntmps6
        go_wp2_with fail
        refine (hal.out _).mono ?_
        rintro e w1 ⟨rfl, hb1⟩
        go_wp2_with fail
        refine (hof.out _).mono ?_
        rintro e w3 ⟨rfl, hb2⟩
        replace hb1 := hb1.trans (hb2.mono hb1.size)
        clear hb2
        go_wp2_with fail
        refine (hnew.out _).mono ?_
        rintro e w4 hm4
        obtain ⟨p, _, rfl, -⟩ := id hm4
        have hT := Sl.made hb1 hm4
        replace hp1 := Lib.hid (hT.op (fun F h => hp1.out F _ _ h))
        clear hm4 hb1 hof hnew
        obtain ⟨b0, b1, b2, b3, b4, bl⟩ := hT.cells
        clear hT
        go_wp2_with fail
        refine hp1.out.mono ?_
        rintro e w5 ⟨rfl, hT⟩
        replace hp2 := Lib.hid (hT.op (fun F h => hp2.out F _ _ h))
        clear hp1 b0 b1 b2 b3 b4 bl
        obtain ⟨b0, b1, b2, b3, b4, bl⟩ := hT.cells
        clear hT
        go_wp2_with fail
        refine hp2.out.mono ?_
        rintro e w6 ⟨rfl, hT⟩
        have hbl := hT.below
        clear hp2 hT b0 b1 b2 b3 b4 bl
        go_wp2
        go_ret
        exact ⟨rfl, hbl⟩
      · rw [e2] at hp2
        replace hq1 := Lib.hid (hq1.out st2 C2)
        replace hq2 := Lib.hid (hq2.out st2 C2)
        replace hq3 := Lib.hid (hq3.out st2 C2)
        rw [t1] at hq1
        rw [t2] at hq2
        rw [t3] at hq3
        go_enter Try.func6, Try.ntmps6
        go_wp2_with fail
        refine (hal.out _).mono ?_
        rintro e w1 ⟨rfl, hb1⟩
        go_wp2_with fail
        refine (hof.out _).mono ?_
        rintro e w3 ⟨rfl, hb2⟩
        replace hb1 := hb1.trans (hb2.mono hb1.size)
        clear hb2
        go_wp2_with fail
        refine (hnew.out _).mono ?_
        rintro e w4 hm4
        obtain ⟨p, _, rfl, -⟩ := id hm4
        have hT := Sl.made hb1 hm4
        replace hp1 := Lib.hid (hT.op (fun F h => hp1.out F _ _ h))
        clear hm4 hb1 hof hnew
        obtain ⟨b0, b1, b2, b3, b4, bl⟩ := hT.cells
        clear hT
        go_wp2_with fail
        refine hp1.out.mono ?_
        rintro e w5 ⟨rfl, hT⟩
        replace hp2 := Lib.hid (hT.op (fun F h => hp2.out F _ _ h))
        clear hp1 b0 b1 b2 b3 b4 bl
        obtain ⟨b0, b1, b2, b3, b4, bl⟩ := hT.cells
        clear hT
        go_wp2_with fail
        refine hp2.out.mono ?_
        rintro e w6 ⟨rfl, hT⟩
        replace hq1 := Lib.hid (hT.ask K (fun F h => hq1.out F _ _ h))
        clear hp2 b0 b1 b2 b3 b4 bl
        obtain ⟨b0, b1, b2, b3, b4, bl⟩ := hT.cells
        clear hT
        go_wp2_with fail
        refine hq1.out.mono ?_
        rintro e w7 ⟨rfl, hT⟩
        replace hq2 := Lib.hid (hT.ask K (fun F h => hq2.out F _ _ h))
        clear hq1 b0 b1 b2 b3 b4 bl
        obtain ⟨b0, b1, b2, b3, b4, bl⟩ := hT.cells
        clear hT
        go_wp2_with fail
        refine hq2.out.mono ?_
        rintro e w8 ⟨rfl, hT⟩
        replace hq3 := Lib.hid (hT.ask K (fun F h => hq3.out F _ _ h))
        clear hq2 b0 b1 b2 b3 b4 bl
        obtain ⟨b0, b1, b2, b3, b4, bl⟩ := hT.cells
        clear hT
        go_wp2_with fail
        refine hq3.out.mono ?_
        rintro e w9 ⟨rfl, hT⟩
        have hbl := hT.below
        clear hq3 hT b0 b1 b2 b3 b4 bl
        have hl : ((textO (some b)).toList == b.toList) = true := beq_self_eq_true _
        go_wp2
        go_ret
        exact ⟨by first | rfl | simp [textO], hbl⟩
end Go.Proofs.Ytageeodmpbngaaa
