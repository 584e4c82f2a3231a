/- SlotPuts' walk, out of the landed contracts. -/
import Derived.Test.YtageeodmpbngaaaZTv
import Derived.Test.YtageeodmpbngaaaZId
import Derived.Deep.RegionHeld3
namespace Go.Proofs.Ytageeodmpbngaaa
open Go.RowKit Go.Sort Cr

def journalB : ByteArray := ⟨#[106, 111, 117, 114, 110, 97, 108]⟩
def putE (f : Bool) : Int := if f = true then 0 else 3
def putT (f : Bool) (s : ByteArray) : Option ByteArray := if f = true then some s else none
/-- What putting into both slots leaves. -/
def PutsAll (n : Nat) (which number : Int) (a b : ByteArray) : Prop :=
  ∃ st1 st2 st3, (St.new (n : Int)).write ((2 + sizeP n + sizeP n : Nat) : Int) journalB = (0, st1) ∧ st1.Calm n 1 ∧
    st1.put (spotP n which) (sizeP n) number a = (putE (fitsP n (a.size : Int)), st2) ∧ st2.Calm n 40 ∧
    st2.put (spotP n (flipW which)) (sizeP n) (number + 1) b = (putE (fitsP n (b.size : Int)), st3) ∧ st3.Calm n 80 ∧
    st3.take ((spotP n which : Nat) : Int) ((spotP n which + sizeP n : Nat) : Int) number (a.size : Int) = putT (fitsP n (a.size : Int)) a ∧
    st3.take ((spotP n (flipW which) : Nat) : Int) ((spotP n (flipW which) + sizeP n : Nat) : Int) (number + 1) (b.size : Int) = putT (fitsP n (b.size : Int)) b ∧
    st3.now (2 + sizeP n + sizeP n) = padB journalB ∧
    st3.take ((spotP n which : Nat) : Int) ((spotP n which + sizeP n : Nat) : Int) (number + 1) (a.size : Int) = none
/-- Putting where nothing is armed, in one sentence. -/
theorem St.Calm.put2 {st : St} {n k : Nat} (h : st.Calm n k) (a : Nat) (ha : a + sizeP n ≤ n) {N : Int} (hN : 1 ≤ N ∧ N ≤ 1152921504606846976) (s : ByteArray) (hs : s.size ≤ 3000) :
    ∃ st', st.put a (sizeP n) N s = (putE (fitsP n (s.size : Int)), st') ∧ st'.Calm n (k + 31) ∧
      ∀ j, j < n → st'.now j = if countN s.size ≤ sizeP n ∧ a ≤ j ∧ j < a + countN s.size then secB N (((j - a : Nat)) : Int) (partS s (j - a)) else st.now j := by
  have hc := count_30 hs
  rw [fits_count]
  rcases h.put a (sizeP n) ha hN s with ⟨f1, st1, e1, C1, -, n1⟩ | ⟨f1, e1⟩
  · refine ⟨st1, by rw [e1, decide_eq_true f1]; rfl, C1.mono (by omega), fun j hj => ?_⟩
    rw [n1 j hj]
    by_cases e : a ≤ j ∧ j < a + countN s.size
    · rw [if_pos e, if_pos ⟨f1, e⟩]
    · rw [if_neg e, if_neg (fun x => e x.2)]
  · refine ⟨st, by rw [e1, decide_eq_false (by omega)]; rfl, h.mono (by omega), fun j _ => by rw [if_neg (by omega)]⟩
theorem puts_all {n : Nat} (h12 : 12 ≤ n) (hn : n ≤ 4096) (which number : Int) (hN : 1 ≤ number ∧ number ≤ 1099511627776) (a b : ByteArray) (hs : a.size + b.size ≤ 3000) : PutsAll n which number a b := by
  have hC := St.Calm.new n hn
  have hsp := spot_le h12 which
  have hsf := spot_le h12 (flipW which)
  have hap := spot_apart h12 which
  have hje := plan_ends h12
  have hsz := sizeP_ge h12
  have hjs : spotP n which + sizeP n ≤ 2 + sizeP n + sizeP n ∧ spotP n (flipW which) + sizeP n ≤ 2 + sizeP n + sizeP n := by
    rcases flip_spot n which with ⟨_, e, e2⟩ | ⟨_, e, e2⟩ <;> omega
  have pa := countN_pos a.size
  have pb := countN_pos b.size
  have ca := count_30 (n := a.size) (by omega)
  have cb := count_30 (n := b.size) (by omega)
  obtain ⟨st1, e1, C1, n1⟩ := hC.write (2 + sizeP n + sizeP n) hje journalB (by decide)
  obtain ⟨st2, e2, C2, n2⟩ := C1.put2 (spotP n which) hsp.2 (N := number) (by omega) a (by omega)
  obtain ⟨st3, e3, C3, n3⟩ := C2.put2 (spotP n (flipW which)) hsf.2 (N := number + 1) (by omega) b (by omega)
  refine ⟨st1, st2, st3, e1, C1, e2, C2.mono (by omega), e3, C3.mono (by omega), ?_, ?_, ?_, ?_⟩
  · rw [St.take_at C3.len _ _ hsp.2, fits_count]
    by_cases f : countN a.size ≤ sizeP n
    · rw [if_pos f, decide_eq_true f]
      show _ = some a
      refine take_whole (by omega) (by omega) (by omega) (fun i hi => ?_)
      rw [n3 _ (by omega), if_neg (by omega), n2 _ (by omega), if_pos ⟨f, by omega, by omega⟩, show spotP n which + i - spotP n which = i by omega]
    · rw [if_neg f, decide_eq_false f]; rfl
  · rw [St.take_at C3.len _ _ hsf.2, fits_count]
    by_cases f : countN b.size ≤ sizeP n
    · rw [if_pos f, decide_eq_true f]
      show _ = some b
      refine take_whole (by omega) (by omega) (by omega) (fun i hi => ?_)
      rw [n3 _ (by omega), if_pos ⟨f, by omega, by omega⟩, show spotP n (flipW which) + i - spotP n (flipW which) = i by omega]
    · rw [if_neg f, decide_eq_false f]; rfl
  · rw [n3 _ (by omega), if_neg (by omega), n2 _ (by omega), if_neg (by omega), n1, if_pos rfl]
  · rw [St.take_at C3.len _ _ hsp.2]
    by_cases f : countN a.size ≤ sizeP n
    · rw [if_pos f]
      refine take_other (fun I D e => ?_)
      rw [Nat.add_zero, n3 _ (by omega), if_neg (by omega), n2 _ (by omega), if_pos ⟨f, by omega, by omega⟩, Nat.sub_self, leafOf_sec (part_ok (by omega) (by omega) a 0 (by omega))] at e
      injection e with e
      injection e with e _
      omega
    · rw [if_neg f]
theorem journal_cut : (padB journalB).extract 0 7 = journalB := by decide +kernel
set_option maxRecDepth 100000 in
set_option maxHeartbeats 1000000 in
theorem slotPuts_any {Dk : (Nat → Prop) → World → Nat → St → Prop} (K : LandedDk Dk) (L : LandedSl Dk) (sectors : Int) (hs : InI sectors) (a : ByteArray) (ha : a.size ≤ 140737488351232) (b : ByteArray) (hb : b.size ≤ 140737488351232) (which : Int) (hw : InI which) (number : Int) (_hN : InI number) (w : World) :
    Calls Try.prog 4 #[.int .i64 sectors, .string a, .string b, .int .i64 which, .int .i64 number] w fun e w' => e = .returned (.bool true) ∧ Below w.heap.size w w' := by
  have hal := Lib.hid (slotAlive_any K L)
  have hsum : IntKind.i64.wrap ((a.size : Int) + (b.size : Int)) = (a.size : Int) + (b.size : Int) := by rw [IntKind.wrap_i64]; omega
  by_cases hg : sectors < 12 ∨ 60 < sectors ∨ 3000 < (a.size : Int) + (b.size : Int) ∨ number < 1 ∨ 1099511627776 < number
  · have hb2 : sectors < 12 ∨ (¬ sectors < 12 ∧ 60 < sectors) ∨ (¬ sectors < 12 ∧ ¬ 60 < sectors ∧ 3000 < (a.size : Int) + (b.size : Int)) ∨ (¬ sectors < 12 ∧ ¬ 60 < sectors ∧ ¬ 3000 < (a.size : Int) + (b.size : Int) ∧ number < 1) ∨ (¬ sectors < 12 ∧ ¬ 60 < sectors ∧ ¬ 3000 < (a.size : Int) + (b.size : Int) ∧ ¬ number < 1 ∧ 1099511627776 < number) := by omega
    clear hg hs hw _hN
    rcases hb2 with q | ⟨q, q'⟩ | ⟨q, q', q''⟩ | ⟨q, q', q'', q3⟩ | ⟨q, q', q'', q3, q4⟩
    all_goals
      go_enter Try.func4, Try.ntmps4
      go_wp2_with fail
      refine (hal.out _).mono ?_
      rintro e w1 ⟨rfl, hb1⟩
      go_wp2
      go_ret
      exact ⟨rfl, hb1⟩
  · obtain ⟨m, rfl⟩ := Int.eq_ofNat_of_zero_le (show 0 ≤ sectors by omega)
    have h12 : 12 ≤ m := by omega
    have hm : m ≤ 4096 := by omega
    have g1 : ¬ ((m : Nat) : Int) < 12 := by omega
    have g2 : ¬ 60 < ((m : Nat) : Int) := by omega
    have g3 : ¬ 3000 < (a.size : Int) + (b.size : Int) := by omega
    have g4 : ¬ number < 1 := by omega
    have g5 : ¬ 1099511627776 < number := by omega
    have hnw : IntKind.i64.wrap (number + 1) = number + 1 := by rw [IntKind.wrap_i64]; omega
    obtain ⟨st1, st2, st3, e1, C1, e2, C2, e3, C3, t1, t2, t3, t4⟩ := puts_all h12 hm which number (by omega) a b (by omega)
    have ca := count_30 (n := a.size) (by omega)
    have cb := count_30 (n := b.size) (by omega)
    have hje := plan_ends h12
    have hof := Lib.hid (fun W => L.of m W h12 hm)
    have hnew := Lib.hid (fun W => K.new ((m : Nat) : Int) W (by omega) (by omega))
    have hxor := bits_flip hw.1 hw.2
    have hwf : InI (flipW which) := by unfold InI flipW at *; split <;> omega
    have hwr := Lib.hid (fun F W p h => K.write F W p (St.new ((m : Nat) : Int)) ((2 + sizeP m + sizeP m : Nat) : Int) journalB h ((St.Calm.new m hm).ok hm (by omega)) (by decide))
    have hp1 := Lib.hid (fun F W p h => L.put F W p st1 m which number a h12 hm hw h (C1.room hm (by omega)) ha)
    have hp2 := Lib.hid (fun F W p h => L.put F W p st2 m (flipW which) (number + 1) b h12 hm hwf h (C2.room hm (by omega)) hb)
    have hok := C3.ok hm (by omega)
    have hq1 := Lib.hid (fun F W p h => L.get F W p st3 m which number (a.size : Int) h12 hm hw h hok (by omega))
    have hq2 := Lib.hid (fun F W p h => L.get F W p st3 m (flipW which) (number + 1) (b.size : Int) h12 hm hwf h hok (by omega))
    have hq3 := Lib.hid (fun F W p h => L.get F W p st3 m which (number + 1) (a.size : Int) h12 hm hw h hok (by omega))
    have hrd := Lib.hid (fun F W p h => K.read F W p st3 ((2 + sizeP m + sizeP m : Nat) : Int) h hok)
    have hf1 := Lib.hid (fun W => L.fits m (a.size : Int) W h12 hm ⟨by omega, by omega⟩)
    have hf2 := Lib.hid (fun W => L.fits m (b.size : Int) W h12 hm ⟨by omega, by omega⟩)
    have hpn := Lib.hid (fun W => L.putNil m W h12 hm)
    have hgn := Lib.hid (fun W => L.getNil m W h12 hm)
    have hl3 := C3.len
    rw [e1] at hwr
    rw [e2] at hp1
    rw [e3] at hp2
    rw [t1] at hq1
    rw [t2] at hq2
    rw [t4] at hq3
    rw [show rdS st3 ((2 + sizeP m + sizeP m : Nat) : Int) = padB journalB by unfold rdS; rw [if_pos ⟨by omega, by omega⟩, Int.toNat_natCast, t3], show rdE st3 ((2 + sizeP m + sizeP m : Nat) : Int) = 0 by unfold rdE; rw [if_pos ⟨by omega, by omega⟩]] at hrd
    unfold planV planA at hof hp1 hp2 hq1 hq2 hq3 hf1 hf2 hpn hgn
    generalize fitsP m (a.size : Int) = fa at *
    generalize fitsP m (b.size : Int) = fb at *
    clear e1 e2 e3 t1 t2 t3 t4 C1 C2 C3 hok hl3 ca cb hs hg hwf _hN
    generalize ((2 + sizeP m : Nat) : Int) = S at *
    generalize ((2 + sizeP m + sizeP m : Nat) : Int) = J at *
    generalize ((sizeP m : Nat) : Int) = Z at *
    generalize St.new ((m : Nat) : Int) = st0 at *
    generalize flipW which = w2 at *
    have hjc := journal_cut
    have hjz : (padB journalB).size = 128 := padB_size _ (by decide)
    generalize padB journalB = jb at *
    unfold journalB at hwr hjc
    go_enter Try.func4, Try.ntmps4
    go_wp2_with fail
    refine (hal.out _).mono ?_
    rintro e w1 ⟨rfl, hb1⟩
    go_wp2_with fail
    refine (hof.out _).mono ?_
    rintro e w3 ⟨rfl, hb2⟩
    replace hb1 := hb1.trans (hb2.mono hb1.size)
    clear hb2
    go_wp2_with fail
    refine (hnew.out _).mono ?_
    rintro e w4 hm4
    obtain ⟨p, _, rfl, -⟩ := id hm4
    have hT := Sl.made hb1 hm4
    replace hwr := Lib.hid (hT.op (fun F h => hwr.out F _ _ h))
    clear hm4 hb1 hof hnew
    obtain ⟨b0, b1, b2, b3, b4, bl⟩ := hT.cells
    clear hT
    go_wp2_with fail
    refine hwr.out.mono ?_
    rintro e w5 ⟨rfl, hT⟩
    clear hwr b0 b1 b2 b3 b4 bl
    obtain ⟨b0, b1, b2, b3, b4, bl⟩ := hT.cells
    have hp1' := Lib.hid (fun wr (hT : Sl Dk w wr w3.heap.size S Z J ((m : Nat) : Int) p st1) => hT.op (fun F h => hp1.out F _ _ h))
    have hp2' := Lib.hid (fun wr (hT : Sl Dk w wr w3.heap.size S Z J ((m : Nat) : Int) p st2) => hT.op (fun F h => hp2.out F _ _ h))
    have hTd := hT.later K ((Below.refl _ _).drew)
    clear hp1 hp2
    generalize w3.heap.size = bk at *
    go_wp2_with fail
    clear b0 b1 b2 b3 b4 bl
    go_region_held3 (fun w' => w'.cell? ⟨bk, 0, none⟩ = some (.int .i64 2) ∧ w'.cell? ⟨bk, 1, none⟩ = some (.int .i64 S) ∧ w'.cell? ⟨bk, 2, none⟩ = some (.int .i64 Z) ∧ w'.cell? ⟨bk, 3, none⟩ = some (.int .i64 J) ∧ w'.cell? ⟨bk, 4, none⟩ = some (.int .i64 ((m : Nat) : Int)))
      (first | exact hTd.five | exact hT.five | exact hTx.five | exact hTy.five)
      (first | (go_at_call 16; with_reducible refine (hp1'.out _ hTd).mono ?_; rintro e wx ⟨rfl, hTx⟩) | (go_at_call 16; with_reducible refine (hp2'.out _ hTx).mono ?_; rintro e wy ⟨rfl, hTy⟩))
    rename_i hH
    clear hH hT hTd hp1' hp2' hTx
    replace hT := hTy
    clear hTy
    replace hq1 := Lib.hid (hT.ask K (fun F h => hq1.out F _ _ h))
    obtain ⟨b0, b1, b2, b3, b4, bl⟩ := hT.cells
    clear hT
    go_wp2_with fail
    refine hq1.out.mono ?_
    rintro e w7 ⟨rfl, hT⟩
    replace hq2 := Lib.hid (hT.ask K (fun F h => hq2.out F _ _ h))
    clear hq1 b0 b1 b2 b3 b4 bl
    obtain ⟨b0, b1, b2, b3, b4, bl⟩ := hT.cells
    clear hT
    go_wp2_with fail
    refine hq2.out.mono ?_
    rintro e w8 ⟨rfl, hT⟩
    clear hq2 b0 b1 b2 b3 b4 bl
    obtain ⟨b0, b1, b2, b3, b4, bl⟩ := hT.cells
    have hcut : ∀ W, (Instr.sliceAt 9 (.string jb) none (some (.int .i64 7)) none).run Try.prog W = .ok (.string ⟨#[106, 111, 117, 114, 110, 97, 108]⟩) W := fun W => by
      have := str_toT jb 7 (by omega) W
      rw [hjc] at this
      exact this
    have hl1 : ((⟨#[106, 111, 117, 114, 110, 97, 108]⟩ : ByteArray).toList == [106, 111, 117, 114, 110, 97, 108]) = true := by decide +kernel
    have hl2 : ((⟨#[]⟩ : ByteArray).toList == ([] : List UInt8)) = true := by decide +kernel
    have hl3 : (a.toList == a.toList) = true := beq_self_eq_true _
    have hl4 : (b.toList == b.toList) = true := beq_self_eq_true _
    have s1 : textO none = ⟨#[]⟩ := rfl
    have s2 : (none : Option ByteArray).isSome = false := rfl
    have s3 : ∀ s : ByteArray, textO (some s) = s := fun _ => rfl
    have s4 : ∀ s : ByteArray, (some s).isSome = true := fun _ => rfl
    have s5 : ∀ s : ByteArray, putT true s = some s := fun _ => rfl
    have s6 : ∀ s : ByteArray, putT false s = none := fun _ => rfl
    have s7 : putE true = 0 := rfl
    have s8 : putE false = 3 := rfl
    rw [s1, s2] at hq3
    cases fa <;> cases fb
    all_goals
      simp only [s1, s2, s3, s4, s5, s6, s7, s8]
      replace hf1 := Lib.hid (hT.ask K (fun F h => hf1.out _))
      clear hT
      go_wp2_with fail
      refine hf1.out.mono ?_
      rintro e w9 ⟨rfl, hT⟩
      replace hf2 := Lib.hid (hT.ask K (fun F h => hf2.out _))
      clear hf1 b0 b1 b2 b3 b4 bl
      obtain ⟨b0, b1, b2, b3, b4, bl⟩ := hT.cells
      clear hT
      go_wp2_with fail
      refine hf2.out.mono ?_
      rintro e w10 ⟨rfl, hT⟩
      replace hrd := Lib.hid (hT.ask K (fun F h => hrd.out F _ _ h))
      clear hf2 b0 b1 b2 b3 b4 bl
      obtain ⟨b0, b1, b2, b3, b4, bl⟩ := hT.cells
      clear hT
      go_wp2_with fail
      refine hrd.out.mono ?_
      rintro e w11 ⟨rfl, hT⟩
      replace hq3 := Lib.hid (hT.ask K (fun F h => hq3.out F _ _ h))
      clear hrd b0 b1 b2 b3 b4 bl
      obtain ⟨b0, b1, b2, b3, b4, bl⟩ := hT.cells
      clear hT
      go_wp2_with fail
      refine hq3.out.mono ?_
      rintro e w12 ⟨rfl, hT⟩
      replace hpn := Lib.hid (hT.ask K (fun F h => hpn.out _))
      clear hq3 b0 b1 b2 b3 b4 bl
      obtain ⟨b0, b1, b2, b3, b4, bl⟩ := hT.cells
      clear hT
      go_wp2_with fail
      refine hpn.out.mono ?_
      rintro e w13 ⟨rfl, hT⟩
      replace hgn := Lib.hid (hT.ask K (fun F h => hgn.out _))
      clear hpn b0 b1 b2 b3 b4 bl
      obtain ⟨b0, b1, b2, b3, b4, bl⟩ := hT.cells
      clear hT
      go_wp2_with fail
      refine hgn.out.mono ?_
      rintro e w14 ⟨rfl, hT⟩
      have hbl := hT.below
      clear hgn hT b0 b1 b2 b3 b4 bl
      go_wp2
      go_ret
      exact ⟨by first | rfl | simp, hbl⟩
end Go.Proofs.Ytageeodmpbngaaa
