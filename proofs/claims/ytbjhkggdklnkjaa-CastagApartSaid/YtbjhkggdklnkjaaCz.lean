/- CastagApart's walk. No condition but that the text's length is an int. -/
import Derived.Test.YtbjhkggdklnkjaaCy
namespace Go.Proofs.Ytbjhkggdklnkjaa
open Go.RowKit Go.Sort Cr

theorem place_any (a : Int) (n : Nat) (hn : n ≤ 4096) (h0' : 0 < n) : ∃ k : Nat, k < n ∧ wrap64 ((IntKind.u64.wrap a).tmod ((n : Nat) : Int)) = ((k : Nat) : Int) := by
  have h0 : 0 ≤ IntKind.u64.wrap a := by simp [IntKind.wrap, IntKind.bits, IntKind.signed]; omega
  obtain ⟨u, hu⟩ := Int.eq_ofNat_of_zero_le h0
  have := Nat.mod_lt u h0'
  refine ⟨u % n, this, ?_⟩
  rw [hu, Int.tmod_eq_emod_of_nonneg (Int.natCast_nonneg u), ← Int.natCast_emod]
  generalize u % n = z at *
  unfold wrap64
  omega
theorem sums_eq (a b : Nat) (ha : a < W) (hb : b < W) (l : List Nat) (hl : ∀ x ∈ l, x < 256) : (((sumC a l : Nat) : Int) == ((sumC b l : Nat) : Int)) = (((a : Nat) : Int) == ((b : Nat) : Int)) := by
  by_cases h : a = b
  · subst h; simp
  · have h2 : sumC a l ≠ sumC b l := fun e => h (sumC_inj ha hb l hl e)
    have e1 : (((sumC a l : Nat) : Int) == ((sumC b l : Nat) : Int)) = false := by rw [beq_eq_false_iff_ne]; omega
    have e2 : (((a : Nat) : Int) == ((b : Nat) : Int)) = false := by rw [beq_eq_false_iff_ne]; omega
    rw [e1, e2]
theorem xor8b_form (a b : Nat) (ha : a < 256) (hb : b < 256) : bits .xor .u8 ((a : Nat) : Int) ((b : Nat) : Int) = ((a ^^^ b : Nat) : Int) := u8_xor_nat a b ha hb
theorem one_turned (a : Nat) (s : ByteArray) (k : Nat) (hk : k < s.size) (t : Nat) (ht : t < 256) (hne : t ≠ 0) :
    sumC a (bytesC (textOf s.size (setF (byteOf s) k (byteOf s k ^^^ t)))) ≠ sumC a (bytesC s) := by
  have hl := bytesC_length s
  have hlt := bytesC_lt s
  have hb := byteOf_lt s
  have hx := xor_lt_256 (hb k) ht
  have hf : ∀ j, setF (byteOf s) k (byteOf s k ^^^ t) j < 256 := by
    intro j; unfold setF; split
    · exact hx
    · exact hb j
  have hxne : byteOf s k ^^^ t ≠ byteOf s k := by
    intro e
    apply hne
    have : byteOf s k ^^^ (byteOf s k ^^^ t) = byteOf s k ^^^ byteOf s k := by rw [e]
    rwa [← Nat.xor_assoc, Nat.xor_self, Nat.zero_xor] at this
  rw [bytesC_textOf _ _ hf]
  have e1 : (List.range s.size).map (setF (byteOf s) k (byteOf s k ^^^ t)) = (bytesC s).take k ++ (byteOf s k ^^^ t) :: (bytesC s).drop (k + 1) := by
    rw [← List.set_eq_take_append_cons_drop (l := bytesC s) (i := k) (a := byteOf s k ^^^ t) |>.trans (if_pos (by omega))]
    apply List.ext_getElem?
    intro j
    rw [List.getElem?_map, List.getElem?_set]
    by_cases hj : j < s.size
    · rw [List.getElem?_range hj, Option.map_some]
      unfold setF
      by_cases e : k = j
      · subst e; rw [if_pos rfl, if_pos rfl, if_pos (by omega)]
      · rw [if_neg (fun h => e h.symm), if_neg e, byteOf_get, List.getD_eq_getElem?_getD, List.getElem?_eq_getElem (by omega)]; rfl
    · rw [List.getElem?_eq_none (by rw [List.length_range]; omega), if_neg (by omega), List.getElem?_eq_none (by omega)]; rfl
  have e2 : bytesC s = (bytesC s).take k ++ byteOf s k :: (bytesC s).drop (k + 1) := by
    have hkl : k < (bytesC s).length := by omega
    rw [byteOf_get, List.getD_eq_getElem?_getD, List.getElem?_eq_getElem hkl, Option.getD_some, ← List.drop_eq_getElem_cons hkl, List.take_append_drop]
  have hp : ∀ b ∈ (bytesC s).take k, b < 256 := fun b hb => hlt b (List.mem_of_mem_take hb)
  have hq : ∀ b ∈ (bytesC s).drop (k + 1), b < 256 := fun b hb => hlt b (List.mem_of_mem_drop hb)
  rw [e1]
  intro h
  rw [e2] at h
  rw [List.take_append_of_le_length (by simp; omega), List.take_take, Nat.min_self] at h
  have hd : ((bytesC s).take k ++ byteOf s k :: (bytesC s).drop (k + 1)).drop (k + 1) = (bytesC s).drop (k + 1) := by rw [← e2]
  rw [hd] at h
  refine sumC_of_row ?_ ?_ (rowC_byte (neg_lt a) ((bytesC s).take k) ((bytesC s).drop (k + 1)) hx (hb k) hxne hp hq) h
  · intro b hb'
    rcases List.mem_append.mp hb' with h1 | h1
    · exact hp b h1
    · rcases List.mem_cons.mp h1 with rfl | h2
      · exact hx
      · exact hq b h2
  · intro b hb'
    rcases List.mem_append.mp hb' with h1 | h1
    · exact hp b h1
    · rcases List.mem_cons.mp h1 with rfl | h2
      · exact hb k
      · exact hq b h2

set_option maxRecDepth 100000 in
set_option maxHeartbeats 1000000 in
theorem castagApart_any (a : Nat) (ha : a < W) (b : Nat) (hb : b < W) (s : ByteArray) (hm2 : s.size ≤ maxLen) (at_ : Int) (t : Nat) (ht : t < 256) (w : World) :
    Calls Try.prog 7 #[.int .u32 ((a : Nat) : Int), .int .u32 ((b : Nat) : Int), .string s, .int .i64 at_, .int .u8 ((t : Nat) : Int)] w fun e w' => e = .returned (.bool true) ∧ Below w.heap.size w w' := by
  unfold maxLen at hm2
  have hal := Lib.hid alive3_any
  by_cases hq : s.size ≤ 2048
  · have hsa := Lib.hid (fun w => sum_any a ha s (by omega) w)
    have hsb := Lib.hid (fun w => sum_any b hb s (by omega) w)
    have hse := Lib.hid (sums_eq a b ha hb (bytesC s) (bytesC_lt s))
    have n1 : ¬ (2048 : Int) < ((s.size : Nat) : Int) := by omega
    by_cases hq2 : s.size ≠ 0 ∧ t ≠ 0
    · obtain ⟨h1, h2⟩ := hq2
      have n2 : (((t : Nat) : Int) == 0) = false := by rw [beq_eq_false_iff_ne]; omega
      have n3 : (((s.size : Nat) : Int) == 0) = false := by rw [beq_eq_false_iff_ne]; omega
      obtain ⟨k, hk, hkm⟩ := place_any at_ s.size (by omega) (by omega)
      have hlt := Lib.hid (byteOf_lt s)
      have hne := Lib.hid (one_turned a s k hk t ht h2)
      have hst := Lib.hid (fun w => sum_any a ha (textOf s.size (setF (byteOf s) k (byteOf s k ^^^ t))) (by rw [textOf_size]; omega) w)
      have hrow := Lib.hid (fun (W : World) (hb : Below w.heap.size w W) => row_laid hb s)
      replace hkm := Lib.hid hkm
      go_enter Try.func7, Try.ntmps7
      go_wp2_with fail
      refine (hal.out _).mono ?_
      rintro e w1 ⟨rfl, hb1⟩
      go_wp2_with fail
      refine (hsa.out _).mono ?_
      rintro e w2 ⟨rfl, rfl⟩
      go_wp2_with fail
      refine (hsb.out _).mono ?_
      rintro e w2 ⟨rfl, rfl⟩
      have hs1 := hse.out
      have hconv := row_conv w1 s
      have hR := hrow.out w1 hb1
      have hc := hR.cell k hk
      have hf := hR.fz k hk
      have hp := hR.put (k := k) (x := byteOf s k ^^^ t) hk
      have hx := xor8b_form (byteOf s k) t (hlt.out _) ht
      have hkm := hkm.out
      have hback := hp.back (f := setF (byteOf s) k (byteOf s k ^^^ t)) (by intro j; unfold setF; split; exact xor_lt_256 (hlt.out k) ht; exact hlt.out j) (rowCap w1 s)
      have hbl := hp.below
      clear hR hp
      go_wp2_with fail
      refine (hst.out _).mono ?_
      rintro e w2 ⟨rfl, rfl⟩
      go_wp2_with fail
      refine (hsa.out _).mono ?_
      rintro e w2 ⟨rfl, rfl⟩
      go_wp2
      go_ret
      exact ⟨by simp; have := hne.out; omega, hbl⟩
    · have hq3 : s.size = 0 ∨ (s.size ≠ 0 ∧ t = 0) := by omega
      clear hq2
      have hs1 := hse.out
      rcases hq3 with h | ⟨h, rfl⟩
      · have n3 : (((s.size : Nat) : Int) == 0) = true := by rw [beq_iff_eq]; omega
        replace h := Lib.hid h
        go_enter Try.func7, Try.ntmps7
        go_wp2_with fail
        refine (hal.out _).mono ?_
        rintro e w1 ⟨rfl, hb1⟩
        go_wp2_with fail
        refine (hsa.out _).mono ?_
        rintro e w2 ⟨rfl, rfl⟩
        go_wp2_with fail
        refine (hsb.out _).mono ?_
        rintro e w2 ⟨rfl, rfl⟩
        go_wp2
        go_ret
        exact ⟨rfl, hb1⟩
      · have n3 : (((s.size : Nat) : Int) == 0) = false := by rw [beq_eq_false_iff_ne]; omega
        go_enter Try.func7, Try.ntmps7
        go_wp2_with fail
        refine (hal.out _).mono ?_
        rintro e w1 ⟨rfl, hb1⟩
        go_wp2_with fail
        refine (hsa.out _).mono ?_
        rintro e w2 ⟨rfl, rfl⟩
        go_wp2_with fail
        refine (hsb.out _).mono ?_
        rintro e w2 ⟨rfl, rfl⟩
        go_wp2
        go_ret
        exact ⟨rfl, hb1⟩
  · have hq2 : (2048 : Int) < ((s.size : Nat) : Int) := by omega
    clear hq
    go_enter Try.func7, Try.ntmps7
    go_wp2_with fail
    refine (hal.out _).mono ?_
    rintro e w1 ⟨rfl, hb1⟩
    go_wp2
    go_ret
    exact ⟨rfl, hb1⟩
end Go.Proofs.Ytbjhkggdklnkjaa
