/- Stage 12, landed: a list in memory; the place of a stamp. No condition but sizes. -/
import Derived.Test.YtgpjbacggcfcmaaLoa
namespace Go.Proofs.Ytgpjbacggcfcmaa
open Go.RowKit Wm

/-- A list in memory. -/
structure OrV (W : World) (p : Nat) (v : Value) (s : Zbl) : Prop where
  c0 : W.cell? ⟨p, 0, none⟩ = some v
  fp : W.frozen? ⟨p, 0, none⟩ = false
  lp : p < W.heap.size
  own : W.ownsRow 0 44 2 v s.length (rowP s)
  ne : v.ownBlock ≠ some p
def footO (p : Nat) (v : Value) : Nat → Prop := fun k => k = p ∨ v.ownBlock = some k
section
variable {W W' : World} {p : Nat} {v : Value} {s : Zbl}
theorem OrV.near (h : OrV W p v s) : ∀ k, footO p v k → k < W.heap.size := by
  rintro k (rfl | e)
  · exact h.lp
  · exact (h.own.lt k e).2
theorem OrV.keep {G : Nat → Prop} (h : OrV W p v s) (hO : Only G W W') (hG : ∀ k, footO p v k → ¬ G k) : OrV W' p v s := by
  have hp : ¬ G p := hG p (.inl rfl)
  refine ⟨?_, ?_, Nat.lt_of_lt_of_le h.lp hO.size, hO.row h.own (fun g e => hG g (.inr e)), h.ne⟩
  · rw [hO.cell (p := ⟨p, 0, none⟩) h.lp hp]; exact h.c0
  · rw [hO.frozen (p := ⟨p, 0, none⟩) h.lp hp]; exact h.fp
theorem OrV.later (h : OrV W p v s) (hb : Below W.heap.size W W') : OrV W' p v s := h.keep (G := fun _ => False) (Only.of_below hb) (fun _ _ e => e)
/-- Its slice, as a value. -/
theorem OrV.slice (h : OrV W p v s) : (v = .slice none 0 0 ∧ s = []) ∨ ∃ g c, v = .slice (some ⟨g, 0, none⟩) s.length c ∧ g < W.heap.size ∧ s.length ≤ c ∧
    (∀ i (hi : i < s.length), W.cell? ⟨g, i * 2, none⟩ = some (.int .i64 (s[i]).1) ∧ W.cell? ⟨g, i * 2 + 1, none⟩ = some (.int .i64 (s[i]).2)) ∧ g ≠ p := by
  rcases own_slice h.own with ⟨rfl, h0⟩ | ⟨g, c, rfl, hg, hc1, hc, -⟩
  · exact .inl ⟨rfl, List.eq_nil_of_length_eq_zero h0⟩
  · refine .inr ⟨g, c, rfl, hg, by first | exact hc1 | exact hc1.1, fun i hi => ⟨?_, ?_⟩, fun e => h.ne (by rw [e]; rfl)⟩
    · exact hc (i * 2) _ ((rowP_at s i 0 hi (by decide)).trans rfl)
    · exact hc (i * 2 + 1) _ ((rowP_at s i 1 hi (by decide)).trans rfl)
end
set_option maxRecDepth 100000 in
/-- The search: the first place that goes far enough. -/
theorem orSearch_any (g : Nat) (cb : Array Value) (n k : Nat) (hk : k ≤ n) (hn : n ≤ 10000) (w : World) (eg : ∀ args w, (callFunc g args).run Try.prog w = .ok (.enter g args) w)
    (hf : ∀ (W' : World) (i : Nat), Below w.heap.size w W' → i < n → Calls Try.prog g (#[.int .i64 ((i : Nat) : Int)] ++ cb) W' fun e w' => e = .returned (.bool (decide (k ≤ i))) ∧ Below W'.heap.size W' w') :
    Calls Try.prog 28 #[.int .i64 ((n : Nat) : Int), .func (.func g) #[] cb] w fun e w' => e = .returned (.int .i64 ((k : Nat) : Int)) ∧ Below w.heap.size w w' := by
  replace hf := Lib.hid hf
  go_enter Try.func28, Try.ntmps28
  go_wp2
  go_loopw [5, 6] (fun lv hv wr => ∃ lo hi : Nat, lv = .int .i64 lo ∧ hv = .int .i64 hi ∧ lo ≤ k ∧ k ≤ hi ∧ hi ≤ n ∧ Below w.heap.size w wr) (fun lv hv _ => (RowKit.intOf hv - RowKit.intOf lv).toNat)
  case atStart => exact ⟨0, n, rfl, rfl, Nat.zero_le _, hk, Nat.le_refl _, Below.refl _ _⟩
  case round =>
    obtain ⟨lo, hi, rfl, rfl, h1, h2, h3, hb⟩ := hrel
    by_cases hlt : lo < hi
    · have hc := hf.out wr ((lo + hi) / 2) hb (by omega)
      rw [show (((lo + hi) / 2 : Nat) : Int) = ((lo : Int) + (hi : Int)) / 2 by omega] at hc
      have hltI : ((lo : Nat) : Int) < ((hi : Nat) : Int) := by omega
      by_cases hp : k ≤ (lo + hi) / 2
      · rw [decide_eq_true hp] at hc
        replace hp := Lib.hid hp
        go_wp2_with fail
        refine hc.mono ?_
        rintro e w2 ⟨rfl, hb2⟩
        have hb3 := Lib.hid (hb.trans (hb2.mono hb.size))
        clear hb hb2 hc
        go_wp2_with fail
        go_roundw
        case measure => simp [RowKit.intOf]; omega
        case rel => exact ⟨lo, (lo + hi) / 2, rfl, by go_num, h1, hp.out, by omega, hb3.out⟩
      · rw [decide_eq_false hp] at hc
        replace hp := Lib.hid hp
        go_wp2_with fail
        refine hc.mono ?_
        rintro e w2 ⟨rfl, hb2⟩
        have hb3 := Lib.hid (hb.trans (hb2.mono hb.size))
        clear hb hb2 hc
        go_wp2_with fail
        go_roundw
        case measure => simp [RowKit.intOf]; omega
        case rel => exact ⟨(lo + hi) / 2 + 1, hi, by go_num, rfl, by have := hp.out; omega, h2, h3, hb3.out⟩
    · have hltI : ¬ ((lo : Nat) : Int) < ((hi : Nat) : Int) := by omega
      obtain rfl : lo = k := by omega
      go_wp2
      go_ret
      exact ⟨rfl, hb⟩
set_option maxRecDepth 100000 in
theorem orNot1 (k x : Int) (B : Nat) (W : World) (hB : W.cell? ⟨B, 0, none⟩ = some (.int .i64 k)) : Calls Try.prog 26 #[.int .i64 x, .pointer (some ⟨B, 0, none⟩)] W fun e W' => e = .returned (.bool (decide (k ≤ x))) ∧ W' = W := by
  go_enter Try.func26, Try.ntmps26
  go_wp2
  go_ret
  exact ⟨by first | rfl | simp, rfl⟩
set_option maxRecDepth 100000 in
theorem orAbv1 (k x : Int) (B : Nat) (W : World) (hB : W.cell? ⟨B, 0, none⟩ = some (.int .i64 k)) : Calls Try.prog 27 #[.int .i64 x, .pointer (some ⟨B, 0, none⟩)] W fun e W' => e = .returned (.bool (decide (k < x))) ∧ W' = W := by
  go_enter Try.func27, Try.ntmps27
  go_wp2
  go_ret
  exact ⟨by first | rfl | simp, rfl⟩
theorem run_idx_pairO (g n c i : Nat) (h : i < n) (w : World) : (Instr.indexAt 25 (.slice (some ⟨g, 0, none⟩) n c) (.int .i64 (i : Int))).run Try.prog w = .ok (.pointer (some ⟨g, i * 2, none⟩)) w := by
  go_simp
end Go.Proofs.Ytgpjbacggcfcmaa
