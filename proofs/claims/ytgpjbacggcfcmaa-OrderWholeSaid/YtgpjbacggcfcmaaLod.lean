/- Stage 12, landed: how many stamps are below a number, or not above it; a stamp's place; the small calls. No condition but sizes. -/
import Derived.Test.YtgpjbacggcfcmaaLoc
namespace Go.Proofs.Ytgpjbacggcfcmaa
open Go.RowKit Wm

/-- Does a stamp stand at its place? -/
def hereZ (s : Zbl) (k : Int) : Bool := match s[lowZ s k]? with | some x => decide (x.1 = k) | none => false
section
variable {W : World} {p : Nat} {v : Value} {s : Zbl}
set_option maxRecDepth 100000 in
theorem orLow_any (h : OrV W p v s) (hr : Rise s) (hn : s.length ≤ 10000) (k : Int) :
    Calls Try.prog 18 #[.pointer (some ⟨p, 0, none⟩), .int .i64 k] W fun e W' => e = .returned (.int .i64 ((lowZ s k : Nat) : Int)) ∧ Below W.heap.size W W' := by
  obtain ⟨W0, hW0⟩ : ∃ W0, W0 = W.alloc (.cells #[.int .i64 k] 3) := ⟨_, rfl⟩
  have hb0 : Below W.heap.size W W0 := by rw [hW0]; exact (Below.refl _ _).alloc (Nat.le_refl _) _
  have hbk : W0.cell? ⟨W.heap.size, 0, none⟩ = some (.int .i64 k) := by rw [hW0]; simp [go_sem]
  have hsz : W0.heap.size = W.heap.size + 1 := by rw [hW0]; simp
  have h0 := h.later hb0
  have eg : ∀ args w, (callFunc 26 args).run Try.prog w = .ok (.enter 26 args) w := enters_of Try.func26 (by kernel_rfl) rfl
  have hse := orFirst_any h0 hn (lowZ s k) (lowZ_le s k) 26 #[.pointer (some ⟨W.heap.size, 0, none⟩)] eg (fun W' i hi hb => by
    rw [← lowZ_spot hr k i hi]
    exact orNot1 k _ _ W' ((hb.cell (p := ⟨W.heap.size, 0, none⟩) (by rw [hsz]; show W.heap.size < W.heap.size + 1; omega)).trans hbk))
  replace hse := Lib.hid hse
  replace hb0 := Lib.hid hb0
  clear h h0 hbk hsz eg hr hn
  generalize lowZ s k = n at *
  go_enter Try.func18, Try.ntmps18
  go_upto_region 1 with (fail)
  rw [← hW0]
  clear hW0
  go_wp2_with fail
  refine hse.out.mono ?_
  rintro e w2 ⟨rfl, hb2⟩
  go_wp2
  go_ret
  exact ⟨rfl, hb0.out.trans (hb2.mono hb0.out.size)⟩
set_option maxRecDepth 100000 in
theorem orHigh_any (h : OrV W p v s) (hr : Rise s) (hn : s.length ≤ 10000) (k : Int) :
    Calls Try.prog 19 #[.pointer (some ⟨p, 0, none⟩), .int .i64 k] W fun e W' => e = .returned (.int .i64 ((highZ s k : Nat) : Int)) ∧ Below W.heap.size W W' := by
  obtain ⟨W0, hW0⟩ : ∃ W0, W0 = W.alloc (.cells #[.int .i64 k] 3) := ⟨_, rfl⟩
  have hb0 : Below W.heap.size W W0 := by rw [hW0]; exact (Below.refl _ _).alloc (Nat.le_refl _) _
  have hbk : W0.cell? ⟨W.heap.size, 0, none⟩ = some (.int .i64 k) := by rw [hW0]; simp [go_sem]
  have hsz : W0.heap.size = W.heap.size + 1 := by rw [hW0]; simp
  have h0 := h.later hb0
  have eg : ∀ args w, (callFunc 27 args).run Try.prog w = .ok (.enter 27 args) w := enters_of Try.func27 (by kernel_rfl) rfl
  have hse := orFirst_any h0 hn (highZ s k) (highZ_le s k) 27 #[.pointer (some ⟨W.heap.size, 0, none⟩)] eg (fun W' i hi hb => by
    rw [← highZ_spot hr k i hi]
    exact orAbv1 k _ _ W' ((hb.cell (p := ⟨W.heap.size, 0, none⟩) (by rw [hsz]; show W.heap.size < W.heap.size + 1; omega)).trans hbk))
  replace hse := Lib.hid hse
  replace hb0 := Lib.hid hb0
  clear h h0 hbk hsz eg hr hn
  generalize highZ s k = n at *
  go_enter Try.func19, Try.ntmps19
  go_upto_region 1 with (fail)
  rw [← hW0]
  clear hW0
  go_wp2_with fail
  refine hse.out.mono ?_
  rintro e w2 ⟨rfl, hb2⟩
  go_wp2
  go_ret
  exact ⟨rfl, hb0.out.trans (hb2.mono hb0.out.size)⟩
set_option maxRecDepth 100000 in
theorem orFind_any (h : OrV W p v s) (hr : Rise s) (hn : s.length ≤ 10000) (k : Int) :
    Calls Try.prog 21 #[.pointer (some ⟨p, 0, none⟩), .int .i64 k] W fun e W' => e = .returned (.tuple #[.int .i64 ((lowZ s k : Nat) : Int), .bool (hereZ s k)]) ∧ Below W.heap.size W W' := by
  have hlo := Lib.hid (orLow_any h hr hn k)
  have hle := lowZ_le s k
  have hV := Lib.hid h
  obtain ⟨b, hb⟩ : ∃ b, b = hereZ s k := ⟨_, rfl⟩
  rw [← hb]
  unfold hereZ at hb
  clear hr
  generalize lowZ s k = i at *
  go_enter Try.func21, Try.ntmps21
  go_wp2_with fail
  refine hlo.out.mono ?_
  rintro e w2 ⟨rfl, hb2⟩
  have h2 := hV.out.later hb2
  have c0 := h2.c0
  have lp := h2.lp
  have hfb := Lib.hid hb2
  clear hlo hV h hb2
  rcases h2.slice with ⟨rfl, rfl⟩ | ⟨gs, c, rfl, hgl, -, hc, -⟩
  · have hi0 : i = 0 := by simpa using hle
    subst hi0
    have hbf : b = false := hb
    subst hbf
    clear h2 hb hle hn
    go_wp2
    go_quiet (fail)
    go_wp2
    go_ret2
    exact ⟨rfl, hfb.out.trans ⟨rfl, rfl, rfl, Nat.le_refl _, fun _ _ => rfl⟩⟩
  · by_cases hi : i < s.length
    · have hcs := (hc i hi).1
      have hix := run_idx_pairO gs s.length c i hi
      rw [List.getElem?_eq_getElem hi] at hb
      have hb' : b = decide ((s[i]).1 = k) := hb
      clear hb h2 hc hn hle
      generalize (s[i]).1 = x at *
      generalize s.length = n at *
      have hiI : decide (((i : Nat) : Int) < ((n : Nat) : Int)) = true := decide_eq_true (by omega)
      have hb2 : (x == k) = b := by rw [hb', Bool.eq_iff_iff]; simp
      clear hb'
      go_wp2
      go_quiet (fail)
      go_wp2
      go_ret2
      exact ⟨by first | rfl | (rw [← hb2]; rfl) | (rw [← hb2]; simp), hfb.out.trans ⟨rfl, rfl, rfl, Nat.le_refl _, fun _ _ => rfl⟩⟩
    · have hi0 : s.length = i := by omega
      rw [List.getElem?_eq_none (by omega)] at hb
      have hbf : b = false := hb
      subst hbf
      clear h2 hc hb hle hi hn
      generalize s.length = n at *
      subst hi0
      go_wp2
      go_quiet (fail)
      go_wp2
      go_ret2
      exact ⟨rfl, hfb.out.trans ⟨rfl, rfl, rfl, Nat.le_refl _, fun _ _ => rfl⟩⟩
set_option maxRecDepth 100000 in
theorem orLen_any (h : OrV W p v s) : Calls Try.prog 9 #[.pointer (some ⟨p, 0, none⟩)] W fun e W' => e = .returned (.int .i64 ((s.length : Nat) : Int)) ∧ Below W.heap.size W W' := by
  have c0 := h.c0
  have lp := h.lp
  rcases h.slice with ⟨rfl, rfl⟩ | ⟨gs, c, rfl, hgl, -, -, -⟩
  · clear h
    go_enter Try.func9, Try.ntmps9
    go_wp2
    go_ret
    exact ⟨rfl, Below.refl _ _⟩
  · clear h
    go_enter Try.func9, Try.ntmps9
    go_wp2
    go_ret
    exact ⟨rfl, Below.refl _ _⟩
set_option maxRecDepth 100000 in
theorem orLast_any (h : OrV W p v s) (hn : s.length ≤ 10000) : Calls Try.prog 13 #[.pointer (some ⟨p, 0, none⟩)] W fun e W' => e = .returned (.int .i64 (match s.getLast? with | some x => x.1 | none => 0)) ∧ Below W.heap.size W W' := by
  have c0 := h.c0
  have lp := h.lp
  rcases h.slice with ⟨rfl, rfl⟩ | ⟨gs, c, rfl, hgl, -, hc, -⟩
  · clear h
    go_enter Try.func13, Try.ntmps13
    go_wp2
    go_ret
    exact ⟨rfl, Below.refl _ _⟩
  · by_cases h0 : s = []
    · subst h0
      clear h hc
      go_enter Try.func13, Try.ntmps13
      go_wp2
      go_ret
      exact ⟨rfl, Below.refl _ _⟩
    · have hl : 0 < s.length := List.length_pos_iff.2 h0
      have hlast : (match s.getLast? with | some x => x.1 | none => 0) = (s[s.length - 1]).1 := by rw [List.getLast?_eq_getElem?, List.getElem?_eq_getElem (by omega)]
      rw [hlast]
      have hcs := (hc (s.length - 1) (by omega)).1
      have hix := run_idx_pairO gs s.length c (s.length - 1) (by omega)
      have e1 : ((s.length - 1 : Nat) : Int) = ((s.length : Nat) : Int) - 1 := by omega
      rw [e1] at hix
      clear h hc h0 hlast
      generalize (s[s.length - 1]).1 = x at *
      generalize s.length = n at *
      have hne : (((n : Nat) : Int) == 0) = false := by rw [beq_eq_false_iff_ne]; omega
      go_enter Try.func13, Try.ntmps13
      go_wp2
      go_quiet (fail)
      go_wp2
      go_ret
      exact ⟨rfl, ⟨rfl, rfl, rfl, Nat.le_refl _, fun _ _ => rfl⟩⟩
end
end Go.Proofs.Ytgpjbacggcfcmaa
