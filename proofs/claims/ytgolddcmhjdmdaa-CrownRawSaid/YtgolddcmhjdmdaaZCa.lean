/- The document's sum: bit by bit. No condition but the text's size. -/
import Derived.Test.YtgolddcmhjdmdaaRows
import Derived.Test.YtgolddcmhjdmdaaZCrc
import Derived.WalkKit
import Derived.WalkSpells
import Derived.WalkLawsBesides
import Derived.Lib.QuietBelow
import Derived.Lib.Hide
import Derived.BigQuiet
import Derived.Deep.DeepCutAuto
import Derived.Laws.BitsAllLaws
import Derived.IntWalk
namespace Go.Proofs.Ytgolddcmhjdmdaa
open Go.RowKit Go.Sort Cr

/-- A text's bytes, as numbers. -/
def bytesC (s : ByteArray) : List Nat := s.data.toList.map UInt8.toNat
theorem bytesC_length (s : ByteArray) : (bytesC s).length = s.size := by unfold bytesC; rw [List.length_map]; rfl
theorem bytesC_lt (s : ByteArray) : ∀ b ∈ bytesC s, b < 256 := by
  intro b hb
  unfold bytesC at hb
  obtain ⟨x, _, rfl⟩ := List.mem_map.mp hb
  exact UInt8.toNat_lt x
theorem bytesC_get (s : ByteArray) (i : Nat) (h : i < s.size) : (bytesC s)[i]'(by rw [bytesC_length]; exact h) = s[i].toNat := by
  unfold bytesC; rw [List.getElem_map]; rfl
/-- The register behind i bytes. -/
def regC (a : Nat) (s : ByteArray) (i : Nat) : Nat := rowC (4294967295 - a) ((bytesC s).take i)
theorem regC_zero (a : Nat) (s : ByteArray) : regC a s 0 = 4294967295 - a := rfl
theorem regC_lt (a : Nat) (s : ByteArray) (i : Nat) : regC a s i < W :=
  rowC_lt _ (neg_lt a) fun b hb => bytesC_lt s b (List.mem_of_mem_take hb)
theorem regC_succ (a : Nat) (s : ByteArray) (i : Nat) (h : i < s.size) : regC a s (i + 1) = byteC (regC a s i) s[i].toNat := by
  unfold regC
  rw [rowC_take_succ _ _ _ (by rw [bytesC_length]; exact h), bytesC_get s i h]
theorem regC_all (a : Nat) (s : ByteArray) : 4294967295 - regC a s s.size = sumC a (bytesC s) := by
  unfold regC sumC
  rw [List.take_of_length_le (by rw [bytesC_length]; exact Nat.le_refl _)]

theorem half_form (r : Nat) (h : r < W) : ((r : Nat) : Int) / 2 % 4294967296 = ((r / 2 : Nat) : Int) := by rw [W_eq] at h; omega
theorem xor_form (r : Nat) (h : r < 4294967296) : bits .xor .u32 ((r : Nat) : Int) 2197175160 = ((r ^^^ 2197175160 : Nat) : Int) := u32_xor_nat r 2197175160 h (by omega)
theorem out_form (r b m : Nat) : ((((r : Nat) : Int) % 2) != (((b : Nat) : Int) / 2 ^ m).tmod 2) = decide (r % 2 ≠ b / 2 ^ m % 2) := by
  have e : (((b : Nat) : Int) / 2 ^ m).tmod 2 = ((b / 2 ^ m % 2 : Nat) : Int) := by
    rw [show ((b : Nat) : Int) / 2 ^ m = ((b / 2 ^ m : Nat) : Int) by simp]
    rw [Int.tmod_eq_emod_of_nonneg (Int.natCast_nonneg _)]; exact (Int.natCast_emod _ _).symm
  rw [e]
  by_cases h : r % 2 = b / 2 ^ m % 2
  · rw [decide_eq_false (by intro k; exact k h), bne_eq_false_iff_eq]; omega
  · rw [decide_eq_true h, bne_iff_ne]; omega

set_option maxRecDepth 100000 in
set_option maxHeartbeats 1000000 in
theorem refsum_any (a : Nat) (ha : a < W) (s : ByteArray) (hm : s.size ≤ 4096) (w : World) :
    Calls Try.prog 41 #[.int .u32 ((a : Nat) : Int), .string s] w fun e w' => e = .returned (.int .u32 ((sumC a (bytesC s) : Nat) : Int)) ∧ w = w' := by
  have hall := Lib.hid (regC_all a s)
  rw [W_eq] at ha
  go_enter Try.func41, Try.ntmps41
  go_wp2
  go_loopw [5, 6] (fun c i wr => ∃ n : Nat, n ≤ s.size ∧ i = .int .i64 n ∧ c = .int .u32 ((regC a s n : Nat) : Int) ∧ w = wr) (fun _ i _ => (s.size - RowKit.intOf i).toNat)
  case atStart =>
    exact ⟨0, by omega, rfl, by rw [regC_zero]; go_num, rfl⟩
  case round =>
    obtain ⟨n, hn, rfl, rfl, rfl⟩ := hrel
    have hcl := regC_lt a s n
    by_cases hlt : n < s.size
    · have hn2 : ((n : Nat) : Int) < ((s.size : Nat) : Int) := by omega
      have hsc := regC_succ a s n hlt
      have hby : s[n].toNat < 256 := UInt8.toNat_lt _
      have hpe := partC_eight (regC a s n) hby
      have hpo := fun k => partC_out k (regC a s n) s[n].toNat
      have hpl := fun k => partC_lt k hcl hby
      have hpz := partC_zero (regC a s n) s[n].toNat
      go_wp2
      go_loopw [5, 7] (fun c k wk => ∃ m : Nat, m ≤ 8 ∧ k = .int .i64 m ∧ c = .int .u32 ((partC m (regC a s n) s[n].toNat : Nat) : Int) ∧ w = wk) (fun _ k _ => (8 - RowKit.intOf k).toNat)
      case atStart =>
        exact ⟨0, by omega, rfl, by rw [hpz], rfl⟩
      case round =>
        obtain ⟨m, hm8, rfl, rfl, rfl⟩ := hrel
        by_cases hm7 : m < 8
        · have hpm := hpl m
          have hps := hpl (m + 1)
          have ho := hpo m
          replace hpo := Lib.hid hpo
          replace hpl := Lib.hid hpl
          clear hpe hpz hsc
          generalize partC m (regC a s n) s[n].toNat = r at *
          generalize hbb : s[n].toNat = b at *
          have hout := Lib.hid (out_form r b m)
          go_wp2
          all_goals
            rename_i ho2
            rw [hout.out] at ho2
            rw [half_form r hpm]
            refine ⟨⟨m + 1, by omega, by go_num, ?_, trivial⟩, by simp [RowKit.intOf]; omega⟩
          · rw [if_pos (of_decide_eq_true ho2)] at ho
            rw [ho]
            exact congrArg _ (xor_form (r / 2) (by rw [W_eq] at hpm; omega))
          · rw [if_neg (of_decide_eq_false ho2)] at ho
            rw [ho]
        · obtain rfl : m = 8 := by omega
          rw [hpe]
          replace hsc := Lib.hid hsc
          clear hpo hpl hpz
          go_wp2
          exact ⟨⟨n + 1, by omega, by go_num, by rw [hsc.out], trivial⟩, by simp [RowKit.intOf]; omega⟩
    · obtain rfl : n = s.size := by omega
      go_wp2
      go_ret
      have hz := regC_lt a s s.size
      rw [W_eq] at hz
      exact ⟨by have := hall.out; go_num, rfl⟩
end Go.Proofs.Ytgolddcmhjdmdaa
