/- Stage 12, landed: the first place that goes far enough; a stamp looked for. No condition but sizes. -/
import Derived.Test.YtgpjbacggcfcmaaLob
namespace Go.Proofs.Ytgpjbacggcfcmaa
open Go.RowKit Wm

section
variable {W : World} {p : Nat} {v : Value} {s : Zbl}
set_option maxRecDepth 100000 in
theorem orFirst1 (h : OrV W p v s) (i : Nat) (hi : i < s.length) (g : Nat) (cb : Array Value) (eg : ∀ args w, (callFunc g args).run Try.prog w = .ok (.enter g args) w) (b : Bool) (bf bl : Nat)
    (hbf : W.cell? ⟨bf, 0, none⟩ = some (.func (.func g) #[] cb)) (hbl : W.cell? ⟨bl, 0, none⟩ = some (.pointer (some ⟨p, 0, none⟩)))
    (hg : ∀ n : Nat, Calls Try.prog g (#[.int .i64 (s[i]).1] ++ cb) (W.drewN n) fun e W' => e = .returned (.bool b) ∧ W' = W.drewN n) :
    Calls Try.prog 29 #[.int .i64 ((i : Nat) : Int), .pointer (some ⟨bf, 0, none⟩), .pointer (some ⟨bl, 0, none⟩)] W fun e W' => e = .returned (.bool b) ∧ Below W.heap.size W W' := by
  have c0 := h.c0
  have lp := h.lp
  rcases h.slice with ⟨-, rfl⟩ | ⟨gs, c, rfl, hgl, -, hc, -⟩
  · simp at hi
  · have hcs := (hc i hi).1
    have hix := run_idx_pairO gs s.length c i hi
    generalize (s[i]).1 = x at *
    have hg1 := Lib.hid hg
    clear h hc hg
    generalize s.length = n at *
    go_enter Try.func29, Try.ntmps29
    go_wp2
    go_quiet ((refine Calls.quiet_of_same (hg1.out _)))
    go_wp2
    go_ret
    exact ⟨rfl, ⟨rfl, rfl, rfl, Nat.le_refl _, fun _ _ => rfl⟩⟩
set_option maxRecDepth 100000 in
/-- The first place that goes far enough. -/
theorem orFirst_any (h : OrV W p v s) (hn : s.length ≤ 10000) (k : Nat) (hk : k ≤ s.length) (g : Nat) (cb : Array Value) (eg : ∀ args w, (callFunc g args).run Try.prog w = .ok (.enter g args) w)
    (hg : ∀ (W' : World) (i : Nat) (hi : i < s.length), Below W.heap.size W W' → Calls Try.prog g (#[.int .i64 (s[i]).1] ++ cb) W' fun e W'' => e = .returned (.bool (decide (k ≤ i))) ∧ W'' = W') :
    Calls Try.prog 25 #[.pointer (some ⟨p, 0, none⟩), .func (.func g) #[] cb] W fun e W' => e = .returned (.int .i64 ((k : Nat) : Int)) ∧ Below W.heap.size W W' := by
  obtain ⟨W0, hW0⟩ : ∃ W0, W0 = (W.alloc (.cells #[.pointer (some ⟨p, 0, none⟩)] 24)).alloc (.cells #[.func (.func g) #[] cb] 41) := ⟨_, rfl⟩
  have hb0 : Below W.heap.size W W0 := by rw [hW0]; exact ((Below.refl _ _).alloc (Nat.le_refl _) _).alloc (by simp) _
  have hbl : W0.cell? ⟨W.heap.size, 0, none⟩ = some (.pointer (some ⟨p, 0, none⟩)) := by rw [hW0]; simp [go_sem]
  have hbf : W0.cell? ⟨W.heap.size + 1, 0, none⟩ = some (.func (.func g) #[] cb) := by rw [hW0]; simp [go_sem]
  have hsz : W0.heap.size = W.heap.size + 2 := by rw [hW0]; simp
  have h0 := h.later hb0
  have eg29 : ∀ args w, (callFunc 29 args).run Try.prog w = .ok (.enter 29 args) w := enters_of Try.func29 (by kernel_rfl) rfl
  have hse := orSearch_any 29 #[.pointer (some ⟨W.heap.size + 1, 0, none⟩), .pointer (some ⟨W.heap.size, 0, none⟩)] s.length k hk hn W0 eg29 (fun W' i hb hi =>
    orFirst1 (h0.later hb) i hi g cb eg _ _ _ ((hb.cell (p := ⟨W.heap.size + 1, 0, none⟩) (by rw [hsz]; show W.heap.size + 1 < W.heap.size + 2; omega)).trans hbf) ((hb.cell (p := ⟨W.heap.size, 0, none⟩) (by rw [hsz]; show W.heap.size < W.heap.size + 2; omega)).trans hbl)
      (fun n => hg _ i hi ((hb0.trans (hb.mono hb0.size)).trans ⟨rfl, rfl, rfl, Nat.le_refl _, fun _ _ => rfl⟩)))
  have c0 := h0.c0
  have lp := h0.lp
  have hse2 := Lib.hid hse
  replace hb0 := Lib.hid hb0
  rcases h.slice with ⟨rfl, hs0⟩ | ⟨gs, c, rfl, -⟩
  · have hl0 : s.length = 0 := by rw [hs0]; rfl
    rw [hl0] at hse2
    clear h h0 hg hse hbf hsz
    go_enter Try.func25, Try.ntmps25
    go_upto_region 1 with (fail)
    rw [← hW0]
    clear hW0
    go_wp2_with fail
    refine hse2.out.mono ?_
    rintro e w2 ⟨rfl, hb2⟩
    go_wp2
    go_ret
    exact ⟨rfl, hb0.out.trans (hb2.mono hb0.out.size)⟩
  · clear h h0 hg hse hbf hsz hn hk
    generalize s.length = n at *
    go_enter Try.func25, Try.ntmps25
    go_upto_region 1 with (fail)
    rw [← hW0]
    clear hW0
    go_wp2_with fail
    refine hse2.out.mono ?_
    rintro e w2 ⟨rfl, hb2⟩
    go_wp2
    go_ret
    exact ⟨rfl, hb0.out.trans (hb2.mono hb0.out.size)⟩
end
end Go.Proofs.Ytgpjbacggcfcmaa
