/- The question that each law asks first, and TapePuts' walk, out of the landed contracts. -/
import Derived.Test.YtpccoachpilfkaaTq
import Derived.RegionTactic
import Derived.Deep.RegionHeld3
namespace Go.Proofs.Ytpccoachpilfkaa
open Go.RowKit Wm

theorem told3 : intB 2 258 = ⟨#[2, 1]⟩ := by decide +kernel

set_option maxRecDepth 100000 in
set_option maxHeartbeats 1000000 in
theorem tapeAlive_any {Wr : (Nat → Prop) → World → Nat → ByteArray → Prop} (K : LandedWr Wr) {Rd : (Nat → Prop) → World → Nat → Option ByteArray → Prop} (R : LandedRd Rd) (w : World) :
    Calls Try.prog 7 #[] w fun e w' => e = .returned (.bool true) ∧ Below w.heap.size w w' := by
  have hN := K.new w
  have hb1 : Below w.heap.size w (w.alloc (.cells #[.slice none 0 0] 48)) := (Below.refl _ _).alloc (Nat.le_refl _) _
  have hint := Lib.hid (fun F W h => K.int F W w.heap.size ByteArray.empty 2 258 h (by decide) (by decide) (by decide))
  have hstr := Lib.hid (fun F W h => K.str F W w.heap.size (intB 2 258) h (by decide +kernel))
  rw [told3] at hstr
  rw [told3, ByteArray.empty_append] at hint
  have hrd := Lib.hid (fun W => R.read ⟨#[]⟩ W (by decide))
  have hrd2 := Lib.hid (fun W => R.read ⟨#[97]⟩ W (by decide))
  go_enter Try.func7, Try.ntmps7
  go_wp2_with fail
  generalize w.alloc (.cells #[.slice none 0 0] 48) = wn at *
  refine (hint.out _ _ hN).mono ?_
  rintro e w2 ⟨rfl, F2, h1, h2, h3⟩
  replace hb1 := hb1.trans (h2.to_below hb1.size (by intro k hk; omega))
  clear h2 h3 hN
  go_wp2_with fail
  refine (hstr.out _ _ h1).mono ?_
  rintro e w3 ⟨rfl, hb2⟩
  replace hb1 := hb1.trans (hb2.mono hb1.size)
  clear hb2 h1
  go_wp2_with fail
  refine (hrd.out _).mono ?_
  rintro e w4 ⟨p, F, rfl, h1, -, hb2⟩
  replace hb1 := hb1.trans (hb2.mono hb1.size)
  have hen := Lib.hid (R.fin _ _ _ _ h1)
  clear hb2 h1
  go_wp2_with fail
  refine (hen.out).mono ?_
  rintro e w5 ⟨rfl, hb2⟩
  replace hb1 := hb1.trans (hb2.mono hb1.size)
  clear hb2 hen
  go_wp2_with fail
  refine (hrd2.out _).mono ?_
  rintro e w6 ⟨p, F, rfl, h1, -, hb2⟩
  replace hb1 := hb1.trans (hb2.mono hb1.size)
  have hen := Lib.hid (R.fin _ _ _ _ h1)
  clear hb2 h1
  go_wp2_with fail
  refine (hen.out).mono ?_
  rintro e w7 ⟨rfl, hb2⟩
  replace hb1 := hb1.trans (hb2.mono hb1.size)
  go_wp2
  go_ret
  exact ⟨rfl, hb1⟩
end Go.Proofs.Ytpccoachpilfkaa
