/- The landed sum: a byte's step, and a text's. No condition but the text's size. -/
import Derived.Test.YtjaaicklhhpebaaZCb
import Derived.RegionTactic
import Derived.Deep.RegionWith
import Derived.Deep.RegionHeld3
namespace Go.Proofs.Ytjaaicklhhpebaa
open Go.RowKit Go.Sort Cr

theorem and1_form (r : Nat) (h : r < 4294967296) : bits .and .u32 ((r : Nat) : Int) 1 = ((r % 2 : Nat) : Int) := by
  have := u32_and_nat r 1 h (by omega)
  rw [Nat.and_one_is_mod] at this
  exact this
theorem not_form (r : Nat) (h : r < W) : bits .xor .u32 IntKind.u32.max ((r : Nat) : Int) = ((4294967295 - r : Nat) : Int) := by
  have hh := h
  rw [W_eq] at hh
  rw [not_eq h]
  exact u32_xor_nat 4294967295 r (by omega) hh
theorem xorb_form (r b : Nat) (h : r < 4294967296) (hb : b < 256) : bits .xor .u32 ((r : Nat) : Int) ((b : Nat) : Int) = ((r ^^^ b : Nat) : Int) := u32_xor_nat r b h (by omega)

set_option maxRecDepth 100000 in
set_option maxHeartbeats 1000000 in
theorem withbyte_any (c b : Nat) (hc : c < W) (hb : b < 256) (w : World) :
    Calls Try.prog 56 #[.int .u32 ((c : Nat) : Int), .int .u8 ((b : Nat) : Int)] w fun e w' => e = .returned (.int .u32 ((byteC c b : Nat) : Int)) ∧ w = w' := by
  have hx := xor_lt hc (byte_lt_W hb)
  rw [W_eq] at hc
  have hxf := Lib.hid (xorb_form c b hc hb)
  have hlt := Lib.hid (fun k => bitsC_lt k hx)
  have hsu := Lib.hid (fun k => bitsC_succ k (c ^^^ b))
  have he := Lib.hid (show byteC c b = bitsC 8 (c ^^^ b) from rfl)
  have hz : bitsC 0 (c ^^^ b) = c ^^^ b := rfl
  replace hz := Lib.hid hz
  clear hx
  go_enter Try.func56, Try.ntmps56
  go_wp2
  rw [hxf.out, ← hz.out]
  generalize c ^^^ b = x at *
  go_loopw [0, 10] (fun c i wr => ∃ n : Nat, n ≤ 8 ∧ i = .int .i64 n ∧ c = .int .u32 ((bitsC n x : Nat) : Int) ∧ w = wr) (fun _ i _ => (8 - intOf i).toNat)
  case atStart =>
    exact ⟨0, by omega, rfl, rfl, rfl⟩
  case round =>
    obtain ⟨n, hn, rfl, rfl, rfl⟩ := hrel
    by_cases hn8 : n < 8
    · have hs := Lib.hid (hsu.out n)
      have hl := hlt.out n
      clear hsu hlt
      generalize bitsC n x = r at *
      have hbit := Lib.hid (show bitC r = if r % 2 = 1 then (r / 2) ^^^ 2197175160 else r / 2 from rfl)
      have ha := Lib.hid (and1_form r (by rw [W_eq] at hl; exact hl))
      go_wp2
      all_goals
        rename_i ho
        rw [ha.out] at ho
        refine ⟨⟨n + 1, by omega, by go_num, ?_, trivial⟩, by simp [intOf]; omega⟩
        rw [hs.out, hbit.out]
      · have h1 : r % 2 = 1 := by
          have := bne_iff_ne.mp ho
          omega
        rw [if_pos h1]
        exact congrArg _ (xor_form (r / 2) (by rw [W_eq] at hl; omega))
      · have h1 : ¬ r % 2 = 1 := by
          have := bne_eq_false_iff_eq.mp ho
          omega
        rw [if_neg h1]
        go_num
    · obtain rfl : n = 8 := by omega
      go_wp2
      go_ret
      exact ⟨by rw [he.out]; rfl, rfl⟩

set_option maxRecDepth 100000 in
set_option maxHeartbeats 1000000 in
theorem sum_any (a : Nat) (ha : a < W) (s : ByteArray) (hm : s.size ≤ 4096) (w : World) :
    Calls Try.prog 32 #[.int .u32 ((a : Nat) : Int), .string s] w fun e w' => e = .returned (.int .u32 ((sumC a (bytesC s) : Nat) : Int)) ∧ w = w' := by
  have hall := Lib.hid (regC_all a s)
  rw [W_eq] at ha
  have hz := Lib.hid (regC_zero a s)
  have hn0 := Lib.hid (not_form a (by rw [W_eq]; exact ha))
  go_enter Try.func32, Try.ntmps32
  go_wp2
  go_loopw [5, 11] (fun c i wr => ∃ n : Nat, n ≤ s.size ∧ i = .int .i64 n ∧ c = .int .u32 ((regC a s n : Nat) : Int) ∧ w = wr) (fun _ i _ => (s.size - intOf i).toNat)
  case atStart =>
    exact ⟨0, by omega, rfl, by rw [hz.out, hn0.out], rfl⟩
  case round =>
    obtain ⟨n, hn, rfl, rfl, rfl⟩ := hrel
    have hcl := regC_lt a s n
    by_cases hlt : n < s.size
    · have hn2 : ((n : Nat) : Int) < ((s.size : Nat) : Int) := by omega
      have hsc := Lib.hid (regC_succ a s n hlt)
      have hby : s[n].toNat < 256 := UInt8.toNat_lt _
      have hc := Lib.hid (fun w => withbyte_any (regC a s n) s[n].toNat hcl hby w)
      go_wp2_with fail
      refine (hc.out _).mono ?_
      rintro e w1 ⟨rfl, rfl⟩
      go_wp2
      exact ⟨⟨n + 1, by omega, by go_num, by rw [hsc.out], trivial⟩, by simp [intOf]; omega⟩
    · obtain rfl : n = s.size := by omega
      go_wp2_with fail
      go_ret
      exact ⟨by rw [← hall.out, ← not_form _ hcl]; rfl, rfl⟩
end Go.Proofs.Ytjaaicklhhpebaa
