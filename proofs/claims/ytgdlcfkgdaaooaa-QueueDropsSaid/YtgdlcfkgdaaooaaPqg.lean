/- Stage 13, landed: container/heap's Push, Pop and Remove on a queue's row. No condition but sizes. -/
import Derived.Test.YtgdlcfkgdaaooaaPqf
namespace Go.Proofs.Ytgdlcfkgdaaooaa
open Go.RowKit Wm

theorem atQ_left {s t : List Qit} {k : Nat} (h : k < s.length) : atQ (s ++ t) k = atQ s k := by unfold atQ; rw [List.getElem?_append_left h]
theorem atQ_take {s : List Qit} {n k : Nat} (h : k < n) : atQ (s.take n) k = atQ s k := by unfold atQ; rw [List.getElem?_take, if_pos h]
theorem HeapF.same {f g : Nat → Qit} {n : Nat} (h : HeapF f n) (e : ∀ k, k < n → g k = f k) : HeapF g n := fun k k0 kn => by
  have := parQ_lt k0
  rw [e k kn, e _ (by omega)]
  exact h k k0 kn
theorem take_last {t : List Qit} {n : Nat} (h : t.length = n + 1) : t = t.take n ++ [atQ t n] := by
  rw [atQ_get (by omega), List.take_append_getElem, List.take_of_length_le (by omega)]
/-- Behind a call that turned a queue. -/
def HeapPost (W : World) (p : Nat) (v : Value) (m : List Qit) (W' : World) : Prop := ∃ t, t.Perm m ∧ HeapF (atQ t) t.length ∧ PostQ W p v t W'
theorem DnF.none (f : Nat → Qit) : DnF f 0 0 0 := ⟨fun k _ kn => by omega, fun e => absurd rfl e, fun k _ kn => by omega, Nat.le_refl _⟩
theorem PostQ.of {W W1 W2 : World} {p : Nat} {v v1 : Value} {s t : List Qit} (h : PostQ W p v s W1) (h1 : QuV W1 p v1 s) (k : PostQ W1 p v1 t W2) : PostQ W p v t W2 := by
  obtain ⟨v0, q0, o0, f0⟩ := h
  have e : v0 = v1 := by
    have := q0.c0.symm.trans h1.c0
    injection this
  subst e
  obtain ⟨v2, q2, o2, f2⟩ := k
  exact ⟨v2, q2, o0.trans o2 (fun j hj e => f0 j hj e), fun j hj e => f0 j hj (f2 j (Nat.lt_of_lt_of_le hj o0.size) e)⟩
theorem PostQ.here {W W' : World} {p g c n : Nat} {t : List Qit} (h : QuV W' p (.slice (some ⟨g, 0, none⟩) n c) t) (hO : Only (fun k => k = g) W W') : PostQ W p (.slice (some ⟨g, 0, none⟩) n c) t W' :=
  ⟨_, h, hO.mono (fun j _ e => .inr (by rw [e]; rfl)), fun _ _ e => e⟩
section
variable {W : World} {p : Nat} {v : Value} {s : List Qit}
set_option maxRecDepth 100000 in
set_option maxHeartbeats 1000000 in
theorem qHPush_any (h : QuV W p v s) (hs : s.length ≤ 50000) (hh : HeapF (atQ s) s.length) (x : Qit) :
    Calls Try.prog 16 #[.iface 55 (.pointer (some ⟨p, 0, none⟩)), .iface 34 (.agg x.cells.toArray)] W fun e W' => e = .returned (.tuple #[]) ∧ HeapPost W p v (s ++ [x]) W' := by
  have hpu := Lib.hid (qPPush_any h (by omega) x)
  have mP := fun n => m_Push (.pointer (some ⟨p, 0, none⟩)) W n
  have hup : UpF (atQ (s ++ [x])) (s.length + 1) s.length := (hh.same (fun k hk => atQ_left hk)).toUp
  have hl : (s ++ [x]).length = s.length + 1 := by simp
  replace hup := Lib.hid hup
  clear h hh
  generalize s ++ [x] = t at *
  go_enter Try.func16, Try.ntmps16
  go_wp2_with fail
  refine hpu.out.mono ?_
  rintro e w1 ⟨rfl, hpo⟩
  have hpo' := hpo
  obtain ⟨v1, h1, -, -⟩ := hpo'
  rcases h1.slice with ⟨-, e⟩ | ⟨g, c, rfl, -⟩
  · rw [e] at hl; simp at hl
  have c1 := h1.c0
  have mL := fun n => m_Len c1 n
  have hu := qUp_any h1 (s.length + 1) s.length (by omega) (by omega) (by omega) hup.out
  have ew : ((t.length : Nat) : Int) - 1 = (s.length : Int) := by omega
  have hb : (t.length : Int) ≤ 60000 := by omega
  have hb0 : 1 ≤ (t.length : Int) := by omega
  replace hu := Lib.hid hu
  replace hl := Lib.hid hl
  replace h1 := Lib.hid h1
  replace hpo := Lib.hid hpo
  clear hpu mP hup
  go_wp2_with (go_at_call 39; refine (qPLen_any _ _ _ _).mono ?_; rintro e w' ⟨rfl, rfl⟩)
  refine hu.out.mono ?_
  rintro e w2 ⟨rfl, s', hS, hH, hV, hO⟩
  have hfin := Lib.hid (show HeapPost W p v t w2 from ⟨s', hS.perm, by rw [hS.len, hl.out]; exact hH, hpo.out.of h1.out (PostQ.here hV hO)⟩)
  clear hS hH hV hO hu h1 hpo mL c1
  go_wp2
  go_end0
  exact ⟨rfl, hfin.out⟩
end
end Go.Proofs.Ytgdlcfkgdaaooaa
