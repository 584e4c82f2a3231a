/- The landed disk: a write, by the document's machine. No condition but sizes. -/
import Derived.Test.YtgolddcmhjdmdaaZDe
namespace Go.Proofs.Ytgolddcmhjdmdaa
open Go.RowKit

theorem armed_fails (st : St) : decide (max st.arm 0 ≠ 1) = !st.fails := by
  unfold St.fails
  by_cases e : st.arm - 1 = 0
  · rw [decide_eq_true e, decide_eq_false (by omega)]; rfl
  · rw [decide_eq_false e, decide_eq_true (by omega)]; rfl
theorem armed_tried (st : St) : max (max st.arm 0 - 1) 0 = max st.tried.arm 0 := by
  show _ = max (st.arm - 1) 0
  omega
theorem nowAt_more (later : List (Nat × ByteArray)) (w : Nat × ByteArray) (i : Nat) (s : ByteArray) : nowAt (later ++ [w]) i s = if w.1 = i then w.2 else nowAt later i s := by
  unfold nowAt; rw [List.foldl_append]; rfl
theorem nowL_write (st : St) (k : Nat) (x : ByteArray) : nowL { st.tried with later := st.later ++ [(k, x)] } = (nowL st).set k x := by
  apply List.ext_getElem?
  intro i
  by_cases hi : i < st.safe.length
  · have e : (nowL { st.tried with later := st.later ++ [(k, x)] })[i]? = some (St.now { st.tried with later := st.later ++ [(k, x)] } i) := nowL_at { st.tried with later := st.later ++ [(k, x)] } i hi
    rw [e]
    show some (nowAt (st.later ++ [(k, x)]) i (st.safe.getD i ByteArray.empty)) = _
    rw [nowAt_more]
    by_cases hk : k = i
    · subst hk
      rw [if_pos rfl, List.getElem?_set_self (by rw [nowL_length]; exact hi)]
    · rw [if_neg hk, List.getElem?_set_ne hk, nowL_at st i hi]
      rfl
  · rw [List.getElem?_eq_none (by rw [nowL_length]; show st.safe.length ≤ i; omega), List.getElem?_eq_none (by rw [List.length_set, nowL_length]; omega)]
theorem hasB_iff (n : Nat) (i : Int) : hasB n i = true ↔ 0 ≤ i ∧ i < (n : Int) := by unfold hasB; simp
theorem tried_dk {F : Nat → Prop} {W W' : World} {p a b : Nat} {v : Value} {st : St} (hF : ∀ k, F k ↔ footD p a b v k) (h : TriedPost W p a b v st.safe.length st.safe (nowL st) st.later (max st.arm 0) st.ops W') : DkPost DkIs F p st.tried W W' := by
  obtain ⟨h1, h2⟩ := h
  rw [armed_tried] at h1
  exact ⟨F, ⟨a, b, v, h1, hF⟩, h2.mono (fun j _ e => (hF j).2 (.inl e)), fun _ _ e => e⟩
set_option maxRecDepth 100000 in
set_option maxHeartbeats 1000000 in
theorem dk_write (F : Nat → Prop) (W : World) (p : Nat) (st : St) (i : Int) (s : ByteArray) (h : DkIs F W p st) (hok : st.Ok) (hs : s.size ≤ 140737488351232) :
    Calls Try.prog 23 #[.pointer (some ⟨p, 0, none⟩), .int .i64 i, .string s] W fun e W' => e = .returned (.int .i64 (st.write i s).1) ∧ DkPost DkIs F p (st.write i s).2 W W' := by
  obtain ⟨a, b, v, hV, hF⟩ := h
  have hh := has_any hV i
  have hn1 : 0 ≤ max st.arm 0 ∧ max st.arm 0 ≤ 9223372036854775807 := by have := hok.arm; omega
  by_cases hg : hasB st.safe.length i = true ∧ s.size ≤ 128
  · obtain ⟨g1, g2⟩ := hg
    have hi := (hasB_iff _ _).1 g1
    have hgw : st.goodW i s = true := by unfold St.goodW; rw [decide_eq_true hi.1, decide_eq_true hi.2, decide_eq_true g2]; rfl
    by_cases hfail : st.fails = true
    · have hw := Lib.hid (show st.write i s = (8, st.tried) by unfold St.write; rw [if_pos hgw, if_pos hfail])
      rw [hw.out]
      have ht := tried_post hV hok.ops hn1
      rw [armed_fails, hfail] at ht
      rw [g1] at hh
      have hs2 : ¬ (128 : Int) < (s.size : Int) := by omega
      have hdk := Lib.hid (fun W' => tried_dk (W := W) (W' := W') (st := st) hF)
      replace hh := Lib.hid hh
      replace ht := Lib.hid ht
      clear hw hfail hgw g1 hn1 hV hok hi hs g2
      go_enter Try.func23, Try.ntmps23
      go_wp2_with fail
      refine (hh.out).mono ?_
      rintro e w1 ⟨rfl, rfl⟩
      go_wp2_with fail
      refine (ht.out).mono ?_
      rintro e w2 ⟨rfl, hP⟩
      have hfin := Lib.hid (hdk.out _ hP)
      clear hP hdk
      go_wp2
      go_ret
      exact ⟨rfl, hfin.out⟩
    · obtain ⟨k, rfl⟩ := Int.eq_ofNat_of_zero_le hi.1
      have hw := Lib.hid (show st.write (k : Int) s = (0, { st.tried with later := st.later ++ [(k, padB s)] }) by unfold St.write; rw [if_pos hgw, if_neg hfail, Int.toNat_natCast])
      rw [hw.out]
      refine (writeD_any hV k (by have := hi.2; omega) s g2 g1 hok.ops hn1 (by rw [armed_fails, Bool.eq_false_iff.mpr hfail]; rfl) hok.few).mono ?_
      rintro e W' ⟨rfl, v', k1, k2, k3⟩
      refine ⟨rfl, footD p a b v', ⟨a, b, v', ?_, fun _ => Iff.rfl⟩, k2.mono (fun j _ e => (hF j).2 e), fun j hj e => (hF j).2 (k3 j hj e)⟩
      rw [nowL_write]
      rw [armed_tried] at k1
      exact k1
  · have hw := Lib.hid (show st.write i s = (1, st) by
      unfold St.write
      rw [if_neg]
      intro e
      unfold St.goodW at e
      simp at e
      exact hg ⟨(hasB_iff _ _).2 ⟨e.1.1, e.1.2⟩, e.2⟩)
    rw [hw.out]
    have hP := Lib.hid (show DkPost DkIs F p st W W from ⟨F, ⟨a, b, v, hV, hF⟩, Only.refl _ _, fun _ _ e => e⟩)
    have hq : hasB st.safe.length i = false ∨ (hasB st.safe.length i = true ∧ (128 : Int) < (s.size : Int)) := by
      by_cases e : hasB st.safe.length i = true
      · right
        refine ⟨e, ?_⟩
        have : ¬ s.size ≤ 128 := fun e2 => hg ⟨e, e2⟩
        omega
      · left; exact Bool.eq_false_iff.mpr e
    clear hg hV hw
    rcases hq with q | ⟨q, q'⟩
    all_goals
      rw [q] at hh
      replace hh := Lib.hid hh
      clear q
      go_enter Try.func23, Try.ntmps23
      go_wp2_with fail
      refine (hh.out).mono ?_
      rintro e w1 ⟨rfl, rfl⟩
      go_wp2
      go_ret
      exact ⟨rfl, hP.out⟩
end Go.Proofs.Ytgolddcmhjdmdaa
