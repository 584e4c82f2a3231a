/- CastagTurned's walk. No condition but that the text's length is an int. -/
import Derived.Test.YtbjhkggdklnkjaaCy
namespace Go.Proofs.Ytbjhkggdklnkjaa
open Go.RowKit Go.Sort Cr

/-- The place, as it is reckoned. -/
theorem place_mod (a : Int) (n : Nat) (hn : n ≤ 4096) : ∃ k : Nat, k ≤ n ∧ wrap64 ((IntKind.u64.wrap a).tmod (((n : Nat) : Int) + 4 - 3)) = ((k : Nat) : Int) := by
  have h0 : 0 ≤ IntKind.u64.wrap a := by simp [IntKind.wrap, IntKind.bits, IntKind.signed]; omega
  obtain ⟨u, hu⟩ := Int.eq_ofNat_of_zero_le h0
  refine ⟨u % (n + 1), by have := Nat.mod_lt u (show 0 < n + 1 by omega); omega, ?_⟩
  rw [hu, show ((n : Nat) : Int) + 4 - 3 = ((n + 1 : Nat) : Int) by omega, Int.tmod_eq_emod_of_nonneg (Int.natCast_nonneg u), ← Int.natCast_emod]
  have := Nat.mod_lt u (show 0 < n + 1 by omega)
  generalize u % (n + 1) = z at *
  unfold wrap64
  omega
theorem xor8_form (a b : Nat) (ha : a < 256) : bits .xor .u8 ((a : Nat) : Int) (((b : Nat) : Int) % 256) = ((a ^^^ (b % 256) : Nat) : Int) := by
  rw [show ((b : Nat) : Int) % 256 = ((b % 256 : Nat) : Int) from (Int.natCast_emod _ _).symm]
  exact u8_xor_nat a (b % 256) ha (Nat.mod_lt _ (by decide))

set_option maxRecDepth 100000 in
set_option maxHeartbeats 1000000 in
theorem castagTurned_any (s : ByteArray) (hm2 : s.size ≤ maxLen) (at_ : Int) (t : Nat) (ht : t < W) (w : World) :
    Calls Try.prog 6 #[.string s, .int .i64 at_, .int .u32 ((t : Nat) : Int)] w fun e w' => e = .returned (.bool true) ∧ Below w.heap.size w w' := by
  unfold maxLen at hm2
  have hal := Lib.hid alive3_any
  by_cases hq : s.size ≤ 300 ∧ t ≠ 0
  · obtain ⟨h1, h2⟩ := hq
    have hsu := Lib.hid (fun w => (landed.sum0 s (by omega) w trivial))
    have hby := Lib.hid (fun w => bytes4_any (sumC 0 (bytesC s)) (sumC_lt 0 _) w)
    have hsz := fourT_size (sumC 0 (bytesC s))
    have n1 : ¬ (300 : Int) < ((s.size : Nat) : Int) := by omega
    have n2 : (((t : Nat) : Int) == 0) = false := by rw [beq_eq_false_iff_ne]; omega
    obtain ⟨k, hk, hkm⟩ := place_mod at_ s.size (by omega)
    have hS : (s ++ fourT (sumC 0 (bytesC s))).size = s.size + 4 := by rw [ByteArray.size_append, hsz]
    have hno := turned_not (s ++ fourT (sumC 0 (bytesC s))) (holds_own s) (by omega) k (by omega) t ht h2
    have hlt := Lib.hid (byteOf_lt (s ++ fourT (sumC 0 (bytesC s))))
    rw [hS] at hno
    have hfin := Lib.hid (fun w => holds_any (textOf (s.size + 4) (gF (byteOf (s ++ fourT (sumC 0 (bytesC s)))) k t 4)) (by rw [textOf_size]; omega) w)
    rw [hno] at hfin
    have hrow := Lib.hid (fun (W : World) (hb : Below w.heap.size w W) => row_laid hb (s ++ fourT (sumC 0 (bytesC s))))
    rw [hS] at hrow
    clear hno
    replace hS := Lib.hid hS
    replace hkm := Lib.hid hkm
    go_enter Try.func6, Try.ntmps6
    go_wp2_with fail
    refine (hal.out _).mono ?_
    rintro e w1 ⟨rfl, hb1⟩
    go_wp2_with fail
    refine (hsu.out _).mono ?_
    rintro e w2 ⟨rfl, hb2⟩
    replace hb1 := hb1.trans (hb2.mono hb1.size)
    clear hb2
    go_wp2_with fail
    refine (hby.out _).mono ?_
    rintro e w3 ⟨rfl, hb2⟩
    replace hb1 := hb1.trans (hb2.mono hb1.size)
    clear hb2
    have hconv := row_conv w3 (s ++ fourT (sumC 0 (bytesC s)))
    go_wp2
    rw [hkm.out]
    have hR := hrow.out w3 hb1
    clear hconv hkm hrow
    generalize s ++ fourT (sumC 0 (bytesC s)) = tx at *
    generalize rowLaid w3 tx = wr at *
    generalize rowCap w3 tx = cap at *
    generalize byteOf tx = f at *
    have hg0 := gF_zero f k t
    go_loopw [9] (fun i wr => ∃ m : Nat, m ≤ 4 ∧ i = .int .i64 m ∧ RowIs w wr w3.heap.size (s.size + 4) (gF f k t m)) (fun i _ => (4 - intOf i).toNat)
    case atStart => exact ⟨0, by omega, rfl, by rw [hg0]; exact hR⟩
    case round =>
      clear hR hg0
      obtain ⟨m, hm4, rfl, hR⟩ := hrel
      by_cases hlt4 : m < 4
      · have hc := hR.cell (k + m) (by omega)
        have hf := hR.fz (k + m) (by omega)
        rw [gF_at] at hc
        have hp := hR.put (k := k + m) (x := f (k + m) ^^^ (t / 2 ^ (8 * m) % 256)) (by omega)
        rw [← gF_succ] at hp
        have hx := Lib.hid (xor8_form (f (k + m)) (t / 2 ^ (8 * m)) (hlt.out _))
        go_wp2
        refine ⟨⟨m + 1, by omega, by go_num, ?_⟩, by simp [intOf]; omega⟩
        rw [cast_div_pow4, hx.out]
        exact hp
      · obtain rfl : m = 4 := by omega
        have hback := hR.back (gF_lt hlt.out k t 4) cap
        have hbl := hR.below
        go_wp2_with fail
        refine (hfin.out _).mono ?_
        rintro e w5 ⟨rfl, hb2⟩
        go_wp2
        go_ret
        exact ⟨rfl, hbl.trans (hb2.mono hbl.size)⟩
  · have hq2 : (300 : Int) < ((s.size : Nat) : Int) ∨ (¬ (300 : Int) < ((s.size : Nat) : Int) ∧ t = 0) := by omega
    clear hq
    rcases hq2 with h | ⟨h, rfl⟩
    all_goals
      go_enter Try.func6, Try.ntmps6
      go_wp2_with fail
      refine (hal.out _).mono ?_
      rintro e w1 ⟨rfl, hb1⟩
      go_wp2
      go_ret
      exact ⟨rfl, hb1⟩
end Go.Proofs.Ytbjhkggdklnkjaa
