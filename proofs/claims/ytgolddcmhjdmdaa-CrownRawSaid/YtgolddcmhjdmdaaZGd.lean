/- The landed Greatest. No condition but the disk's. -/
import Derived.Test.YtgolddcmhjdmdaaZGc
namespace Go.Proofs.Ytgolddcmhjdmdaa
open Go.RowKit Go.Sort Cr Wm

/-- The greatest of what was, and such of the first so many ends as can be. -/
def numZ (n : Int) : Int := if numOk n = true then n else 0
def upTo (g a b : Int) : Nat → Int
  | 0 => g
  | 1 => max g (numZ a)
  | _ => max (max g (numZ a)) (numZ b)
theorem numZ_yes {n : Int} (h : numOk n = true) : numZ n = n := by unfold numZ; rw [if_pos h]
theorem numZ_no {n : Int} (h : numOk n = false) : numZ n = 0 := by unfold numZ; rw [h]; rfl
theorem numZ_nonneg (n : Int) : 0 ≤ numZ n := by
  unfold numZ numOk
  split
  · rename_i h
    simp only [Bool.and_eq_true, decide_eq_true_eq] at h
    exact Int.le_trans (by decide) h.1
  · exact Int.le_refl 0
theorem numOk_iff (n : Int) : numOk n = true ↔ (1 ≤ n ∧ n ≤ 1152921504606846976) := by
  unfold numOk
  rw [Bool.and_eq_true, decide_eq_true_eq, decide_eq_true_eq]
theorem numZ_back (s : ByteArray) : numZ (backZ s) = numE s := by
  unfold numZ numE
  generalize backZ s = x
  by_cases h : 1 ≤ x ∧ x ≤ 1152921504606846976
  · rw [if_pos h, if_pos ((numOk_iff x).2 h)]
  · rw [if_neg h, if_neg (fun e => h ((numOk_iff x).1 e))]
theorem max_three (g x y : Int) : max (max g x) y = max g (max x y) := by omega
theorem max_nought {g : Int} (h : 0 ≤ g) : max g 0 = g := by omega
theorem ends_z (s : ByteArray) : endsN s = max (numZ (backZ (s.extract 0 8))) (numZ (backZ (s.extract 120 128))) := by
  rw [numZ_back, numZ_back]; rfl
theorem upTo_two (g a b : Int) : upTo g a b 2 = max (max g (numZ a)) (numZ b) := rfl
theorem upTo_zero (g a b : Int) : upTo g a b 0 = g := rfl
theorem upTo_one (g a b : Int) : upTo g a b 1 = max g (numZ a) := rfl
theorem upTo_great (f : Nat → ByteArray) (k : Nat) : upTo (greatN f k) (backZ ((f k).extract 0 8)) (backZ ((f k).extract 120 128)) 2 = greatN f (k + 1) := by
  rw [upTo_two, max_three, ← ends_z]; rfl
theorem rd_first {s : ByteArray} (h : s.size = 128) : rdPart (some s) 8 = s.extract 0 8 ∧ rdPart (rdNext (rdNext (some s) 8) 112) 8 = s.extract 120 128 := by
  have e1 : rdPart (some s) 8 = s.extract 0 8 := by
    unfold rdPart
    dsimp only
    rw [if_pos (by omega)]; rfl
  have e2 : rdNext (some s) 8 = some (s.extract 8 128) := by
    unfold rdNext
    dsimp only
    rw [if_pos (by omega), h]; rfl
  have z1 : (s.extract 8 128).size = 120 := by rw [ByteArray.size_extract]; omega
  have e3 : rdNext (some (s.extract 8 128)) 112 = some (s.extract 120 128) := by
    unfold rdNext
    dsimp only
    rw [if_pos (by omega), z1, ByteArray.extract_extract]; rfl
  have z2 : (s.extract 120 128).size = 8 := by rw [ByteArray.size_extract]; omega
  refine ⟨e1, ?_⟩
  rw [e2, e3]
  unfold rdPart
  dsimp only
  rw [if_pos (by omega), ByteArray.extract_extract]; rfl
theorem now_sized {st : St} (hok : st.Ok) (i : Nat) (hi : i < st.safe.length) : (st.now i).size = 128 := by
  have h0 : (st.safe.getD i ByteArray.empty).size = 128 := by
    rw [List.getD_eq_getElem?_getD, List.getElem?_eq_getElem hi]
    exact hok.safe _ (List.getElem_mem hi)
  have hd := hok.data
  unfold St.now
  generalize st.safe.getD i ByteArray.empty = x at *
  generalize st.later = L at *
  unfold nowAt
  induction L generalizing x with
  | nil => exact h0
  | cons v r ih =>
    rw [List.foldl_cons]
    refine ih _ ?_ (fun w hw => hd w (List.mem_cons_of_mem _ hw))
    split
    · exact (hd v (List.mem_cons_self ..)).1
    · exact h0
set_option maxRecDepth 100000 in
set_option maxHeartbeats 1000000 in
theorem stGreat_any {Dk : (Nat → Prop) → World → Nat → St → Prop} (K : LandedDk Dk) {F : Nat → Prop} {W : World} {p : Nat} {st : St} (h : Dk F W p st) (hok : st.Ok) :
    Calls Try.prog 22 #[.pointer (some ⟨p, 0, none⟩)] W fun e W' => e = .returned (.int .i64 st.great) ∧ Below W.heap.size W W' := by
  have hS := Lib.hid (K.sectors F W p st h hok)
  have hR := Lib.hid (fun W1 (h1 : Dk F W1 p st) (i : Int) => K.read F W1 p st i h1 hok)
  have hG : st.great = greatN st.now st.safe.length := rfl
  have hmany := hok.many
  replace hG := Lib.hid hG
  go_enter Try.func22, Try.ntmps22
  go_wp2_with fail
  refine hS.out.mono ?_
  rintro e W1 ⟨rfl, hb1⟩
  have hn : ∀ i, i < st.safe.length → (st.now i).size = 128 := fun i hi => now_sized hok i hi
  generalize hlen : st.safe.length = n at *
  replace hlen := Lib.hid hlen
  go_wp2_with fail
  go_loopw [3, 14] (fun g i wr => ∃ k : Nat, k ≤ n ∧ i = .int .i64 k ∧ g = .int .i64 (greatN st.now k) ∧ Below W.heap.size W wr) (fun _ i _ => (n - RowKit.intOf i).toNat)
  case atStart => exact ⟨0, by omega, rfl, rfl, hb1⟩
  case round =>
    obtain ⟨k, hk, rfl, rfl, hbr⟩ := hrel
    by_cases hlt : k < n
    · have hD := K.later h hbr
      have hrd := Lib.hid (hR.out _ hD ((k : Nat) : Int))
      have hsz := hn k hlt
      have e1 : rdS st ((k : Nat) : Int) = st.now k := by unfold rdS; rw [hlen.out, if_pos (by omega), Int.toNat_natCast]
      have hg0 := greatN_nonneg st.now k
      have hu2 := Lib.hid (upTo_great st.now k)
      rw [e1] at hrd
      clear e1 hD
      obtain ⟨p1, p2⟩ := rd_first hsz
      go_wp2_with fail
      refine hrd.out.mono ?_
      rintro e W2 ⟨rfl, hb2⟩
      go_wp2_with fail
      refine (rs_read (st.now k) W2 (by rw [hsz]; decide)).mono ?_
      rintro e W3 ⟨q, rfl, R⟩
      have k1 := Lib.hid (fun w R => rs_int (W0 := W2) w q (some (st.now k)) 8 R)
      have k2 := Lib.hid (fun w R => rs_raw (W0 := W2) w q (rdNext (some (st.now k)) 8) 112 (by decide) (by decide) R)
      have k3 := Lib.hid (fun w R => rs_int (W0 := W2) w q (rdNext (rdNext (some (st.now k)) 8) 112) 8 R)
      rw [show ((sizeK 8 : Nat) : Int) = 8 from rfl, p1] at k1
      rw [show ((sizeK 8 : Nat) : Int) = 8 from rfl, p2] at k3
      go_wp2_with fail
      refine (k1.out _ R).mono ?_
      clear k1 R
      rintro e W4 ⟨rfl, R⟩
      go_wp2_with fail
      refine (k2.out _ R).mono ?_
      clear k2 R
      rintro e W5 ⟨rfl, R⟩
      go_wp2_with fail
      refine (k3.out _ R).mono ?_
      clear k3
      rintro e W6 ⟨rfl, R'⟩
      have hb6 : Below W.heap.size W W6 := hbr.trans ((hb2.trans (R'.bel.mono hb2.size)).mono hbr.size)
      clear R R' hrd hb2 hbr p1 p2
      generalize backZ ((st.now k).extract 0 8) = a at *
      generalize backZ ((st.now k).extract 120 128) = b at *
      generalize greatN st.now k = g at *
      have na := numZ_nonneg a
      have nb := numZ_nonneg b
      have hu1 := Lib.hid (upTo_one g a b)
      have hu0 := Lib.hid (upTo_zero g a b)
      go_wp2_with fail
      have i0 : ∀ w, (Instr.index 86 (.agg #[.int .i64 a, .int .i64 b]) (.int .i64 0)).run Try.prog w = .ok (.int .i64 a) w := fun _ => by kernel_rfl
      have i1 : ∀ w, (Instr.index 86 (.agg #[.int .i64 a, .int .i64 b]) (.int .i64 1)).run Try.prog w = .ok (.int .i64 b) w := fun _ => by kernel_rfl
      have g1 : 0 ≤ max g (numZ a) := Int.le_trans hg0 (Int.le_max_left _ _)
      go_loopw [3, 34] (fun gv iv wr => ((iv = .int .i64 0 ∧ gv = .int .i64 (upTo g a b 0)) ∨ (iv = .int .i64 1 ∧ gv = .int .i64 (upTo g a b 1)) ∨ (iv = .int .i64 2 ∧ gv = .int .i64 (upTo g a b 2))) ∧ W6 = wr) (fun _ iv _ => (2 - RowKit.intOf iv).toNat)
      case atStart => exact ⟨.inl ⟨rfl, rfl⟩, rfl⟩
      case round =>
        obtain ⟨⟨rfl, rfl⟩ | ⟨rfl, rfl⟩ | ⟨rfl, rfl⟩, rfl⟩ := hrel
        · rw [hu0.out]
          have ca := Lib.hid (fun W => isNumber_any a W)
          have hy := Lib.hid (fun h => numZ_yes (n := a) h)
          have hz := Lib.hid (fun h => numZ_no (n := a) h)
          generalize numOk a = ba at *
          cases ba
          · go_wp2_with (go_at_call 44; refine (ca.out _).mono ?_; rintro e W7 ⟨rfl, rfl⟩)
            refine ⟨⟨.inr (.inl ⟨rfl, ?_⟩), trivial⟩, by decide⟩
            rw [hu1.out, hz.out trivial, max_nought hg0]
          · go_wp2_with (go_at_call 44; refine (ca.out _).mono ?_; rintro e W7 ⟨rfl, rfl⟩)
            refine ⟨⟨.inr (.inl ⟨rfl, ?_⟩), trivial⟩, by decide⟩
            rw [hu1.out, hy.out trivial]
        · rw [hu1.out]
          have cb := Lib.hid (fun W => isNumber_any b W)
          have hy := Lib.hid (fun h => numZ_yes (n := b) h)
          have hz := Lib.hid (fun h => numZ_no (n := b) h)
          generalize numOk b = bb at *
          generalize hm : max g (numZ a) = m at *
          replace hm := Lib.hid hm
          cases bb
          · go_wp2_with (go_at_call 44; refine (cb.out _).mono ?_; rintro e W7 ⟨rfl, rfl⟩)
            refine ⟨⟨.inr (.inr ⟨rfl, ?_⟩), trivial⟩, by decide⟩
            rw [upTo_two, hm.out, hz.out trivial, max_nought g1]
          · go_wp2_with (go_at_call 44; refine (cb.out _).mono ?_; rintro e W7 ⟨rfl, rfl⟩)
            refine ⟨⟨.inr (.inr ⟨rfl, ?_⟩), trivial⟩, by decide⟩
            rw [upTo_two, hm.out, hy.out trivial]
        · rw [hu2.out]
          go_wp2_with fail
          exact ⟨⟨k + 1, by omega, by go_num, rfl, hb6⟩, by simp [RowKit.intOf]; omega⟩
    · obtain rfl : k = n := by omega
      go_wp2_with fail
      go_ret
      exact ⟨by rw [hG.out]; rfl, hbr⟩
end Go.Proofs.Ytgolddcmhjdmdaa
