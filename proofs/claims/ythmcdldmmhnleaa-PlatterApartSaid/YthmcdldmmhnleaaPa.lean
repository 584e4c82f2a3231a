/- The question that each law of stage 4 asks first; scripts of calls on the machine. -/
import Derived.Test.YthmcdldmmhnleaaPs
namespace Go.Proofs.Ythmcdldmmhnleaa
open Go.RowKit Go.Sort

def stA : St := ⟨[zerosB 128, zerosB 128], [(0, padB ⟨#[97]⟩)], 1, -1⟩
def stB : St := ⟨[zerosB 128, zerosB 128], [], 1, 0⟩
theorem new2 : St.new 2 = ⟨[zerosB 128, zerosB 128], [], 0, 0⟩ := rfl
theorem writeA : (St.new 2).write 0 ⟨#[97]⟩ = (0, stA) := by
  rw [new2]
  unfold St.write
  rw [if_pos (by decide +kernel), if_neg (by decide +kernel)]
  rfl
theorem crashA : stA.crashed 0 (-1) 0 = stB := by
  unfold St.crashed St.crash stA stB
  rw [show lasting 0 (-1) (cutC 0) 0 [(0, padB ⟨#[97]⟩)] [zerosB 128, zerosB 128] = [zerosB 128, zerosB 128] from rfl]
theorem readA : rdS stA 0 = padB ⟨#[97]⟩ ∧ rdE stA 0 = 0 := ⟨rfl, rfl⟩
theorem readB : rdS stB 0 = zerosB 128 ∧ rdE stB 0 = 0 := ⟨rfl, rfl⟩
theorem okA : stA.Ok where
  safe := by intro s hs; simp [stA] at hs; rw [hs]; exact zerosB_size 128
  data := by intro w hw; simp [stA] at hw; rw [hw]; exact ⟨padB_size _ (by decide), by decide⟩
  many := by decide
  few := by decide
  ops := by decide
  arm := by decide
theorem okB : stB.Ok where
  safe := by intro s hs; simp [stB] at hs; rw [hs]; exact zerosB_size 128
  data := by intro w hw; simp [stB] at hw
  many := by decide
  few := by decide
  ops := by decide
  arm := by decide
theorem padA_get (h : 0 < (padB ⟨#[97]⟩).size) : (padB ⟨#[97]⟩)[0].toNat = 97 := rfl
theorem zeros_get (h : 0 < (zerosB 128).size) : (zerosB 128)[0].toNat = 0 := rfl

set_option maxRecDepth 100000 in
set_option maxHeartbeats 1000000 in
theorem platterAlive_any {Dk : (Nat → Prop) → World → Nat → St → Prop} (K : LandedDk Dk) (w : World) :
    Calls Try.prog 8 #[] w fun e w' => e = .returned (.bool true) ∧ Below w.heap.size w w' := by
  have hnew := Lib.hid (fun W => K.new 2 W (by decide) (by decide))
  have hwr := Lib.hid (fun F W p h => K.write F W p (St.new 2) 0 ⟨#[97]⟩ h (St.Ok.new 2) (by decide))
  rw [writeA] at hwr
  have hrd := Lib.hid (fun F W p h => K.read F W p stA 0 h okA)
  rw [readA.1, readA.2] at hrd
  have hcr := Lib.hid (fun F W p h => K.crash F W p stA 0 (-1) 0 h okA (by decide))
  rw [crashA] at hcr
  have hrd2 := Lib.hid (fun F W p h => K.read F W p stB 0 h okB)
  rw [readB.1, readB.2] at hrd2
  have hse := Lib.hid (fun F W p h => K.sectors F W p stB h okB)
  have z1 := padB_size ⟨#[97]⟩ (by decide)
  have z2 := zerosB_size 128
  have y1 := padA_get
  have y2 := zeros_get
  have hlen := Lib.hid (show ((stB.safe.length : Nat) : Int) = 2 from rfl)
  rw [hlen.out] at hse
  generalize padB ⟨#[97]⟩ = ta at *
  generalize zerosB 128 = tz at *
  replace y1 := y1 (by omega)
  replace y2 := y2 (by omega)
  go_enter Try.func8, Try.ntmps8
  go_wp2_with fail
  refine (hnew.out _).mono ?_
  rintro e w1 ⟨p, F, rfl, hD, hF, hb1⟩
  go_wp2_with fail
  refine (hwr.out _ _ _ hD).mono ?_
  rintro e w2 ⟨rfl, F2, hD2, hO, hN⟩
  have hF2 : ∀ k, F2 k → w.heap.size ≤ k := fun k hk => by
    by_cases e : k < w1.heap.size
    · exact hF k (hN k e hk)
    · have := hb1.size; omega
  replace hb1 := hb1.trans (hO.to_below hb1.size hF)
  clear hD hF hO hN
  go_wp2_with fail
  refine (hrd.out _ _ _ hD2).mono ?_
  rintro e w3 ⟨rfl, hb2⟩
  replace hb1 := hb1.trans (hb2.mono hb1.size)
  replace hD2 := K.later hD2 hb2
  clear hb2
  go_wp2_with fail
  refine (hcr.out _ _ _ hD2).mono ?_
  rintro e w4 ⟨rfl, F3, hD3, hO, hN⟩
  replace hb1 := hb1.trans (hO.to_below hb1.size hF2)
  clear hD2 hF2 hO hN
  go_wp2_with fail
  refine (hrd2.out _ _ _ hD3).mono ?_
  rintro e w5 ⟨rfl, hb2⟩
  replace hb1 := hb1.trans (hb2.mono hb1.size)
  replace hD3 := K.later hD3 hb2
  clear hb2
  go_wp2_with fail
  refine (hse.out _ _ _ hD3).mono ?_
  rintro e w6 ⟨rfl, hb2⟩
  replace hb1 := hb1.trans (hb2.mono hb1.size)
  go_wp2
  go_ret
  exact ⟨rfl, hb1⟩
end Go.Proofs.Ythmcdldmmhnleaa
