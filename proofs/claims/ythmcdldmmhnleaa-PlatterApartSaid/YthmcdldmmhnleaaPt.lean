/- Two landed disks, apart, and a block of known cells beside them; PlatterApart's walk. -/
import Derived.Test.YthmcdldmmhnleaaPe
namespace Go.Proofs.Ythmcdldmmhnleaa
open Go.RowKit Go.Sort

structure TwinB (Dk : (Nat → Prop) → World → Nat → St → Prop) (w W : World) (p q : Nat) (sd su : St) (b : Nat) (cs : List Value) : Prop where
  ex : ∃ F G, Dk F W p sd ∧ Dk G W q su ∧ (∀ k, F k → ¬ G k) ∧ (∀ k, F k → w.heap.size ≤ k) ∧ (∀ k, G k → w.heap.size ≤ k) ∧ ¬ F b ∧ ¬ G b
  box : BoxAt W b cs
  below : Below w.heap.size w W
structure Twin (Dk : (Nat → Prop) → World → Nat → St → Prop) (w W : World) (p q : Nat) (sd su : St) : Prop where
  ex : ∃ F G, Dk F W p sd ∧ Dk G W q su ∧ (∀ k, F k → ¬ G k) ∧ (∀ k, F k → w.heap.size ≤ k) ∧ (∀ k, G k → w.heap.size ≤ k)
  below : Below w.heap.size w W
section
variable {Dk : (Nat → Prop) → World → Nat → St → Prop} {w W : World} {p q : Nat} {sd su : St} {b : Nat} {cs : List Value}
theorem Twin.boxed (K : LandedDk Dk) (h : Twin Dk w W p q sd su) (cs : List Value) (t : TypeId) : TwinB Dk w (W.alloc (.cells cs.toArray t)) p q sd su W.heap.size cs := by
  obtain ⟨⟨F, G, h1, h2, h3, h4, h5⟩, hb⟩ := h
  have hal : Below W.heap.size W (W.alloc (.cells cs.toArray t)) := (Below.refl _ _).alloc (Nat.le_refl _) _
  exact ⟨⟨F, G, K.later h1 hal, K.later h2 hal, h3, h4, h5, fun e => by have := K.near _ _ _ _ h1 _ e; omega, fun e => by have := K.near _ _ _ _ h2 _ e; omega⟩, BoxAt.new W cs t, hb.trans (hal.mono hb.size)⟩
theorem TwinB.free (h : TwinB Dk w W p q sd su b cs) : Twin Dk w W p q sd su := by
  obtain ⟨⟨F, G, h1, h2, h3, h4, h5, _, _⟩, _, hb⟩ := h
  exact ⟨⟨F, G, h1, h2, h3, h4, h5⟩, hb⟩
theorem TwinB.later (K : LandedDk Dk) (h : TwinB Dk w W p q sd su b cs) {W' : World} (hb2 : Below W.heap.size W W') : TwinB Dk w W' p q sd su b cs := by
  obtain ⟨⟨F, G, h1, h2, h3, h4, h5, h6, h7⟩, hx, hb⟩ := h
  exact ⟨⟨F, G, K.later h1 hb2, K.later h2 hb2, h3, h4, h5, h6, h7⟩, hx.later hb2, hb.trans (hb2.mono hb.size)⟩
/-- A call of the one, and of the other. -/
theorem tb_l (K : LandedDk Dk) (h : TwinB Dk w W p q sd su b cs) {f : FuncId} {args : Array Value} {v : Ending} {sd' : St}
    (hc : ∀ F, Dk F W p sd → Calls Try.prog f args W fun e W' => e = v ∧ DkPost Dk F p sd' W W') : Calls Try.prog f args W fun e W' => e = v ∧ TwinB Dk w W' p q sd' su b cs := by
  obtain ⟨⟨F, G, h1, h2, h3, h4, h5, h6, h7⟩, hx, hb⟩ := h
  refine (hc F h1).mono ?_
  rintro e W' ⟨he, F', k1, k2, k3⟩
  have hs := hb.size
  have hbl := hx.lt
  refine ⟨he, ⟨F', G, k1, K.keep _ _ _ _ _ _ h2 k2 (fun k hg hf => h3 k hf hg), fun k hf hg => h3 k (k3 k (K.near _ _ _ _ h2 k hg) hf) hg, fun k hf => ?_, h5, fun e => h6 (k3 b hbl e), h7⟩, hx.only k2 h6, hb.trans (k2.to_below hs h4)⟩
  by_cases e : k < W.heap.size
  · exact h4 k (k3 k e hf)
  · omega
theorem tb_r (K : LandedDk Dk) (h : TwinB Dk w W p q sd su b cs) {f : FuncId} {args : Array Value} {v : Ending} {su' : St}
    (hc : ∀ G, Dk G W q su → Calls Try.prog f args W fun e W' => e = v ∧ DkPost Dk G q su' W W') : Calls Try.prog f args W fun e W' => e = v ∧ TwinB Dk w W' p q sd su' b cs := by
  obtain ⟨⟨F, G, h1, h2, h3, h4, h5, h6, h7⟩, hx, hb⟩ := h
  refine (hc G h2).mono ?_
  rintro e W' ⟨he, G', k1, k2, k3⟩
  have hs := hb.size
  have hbl := hx.lt
  refine ⟨he, ⟨F, G', K.keep _ _ _ _ _ _ h1 k2 (fun k hf hg => h3 k hf hg), k1, fun k hf hg => h3 k hf (k3 k (K.near _ _ _ _ h1 k hf) hg), h4, fun k hg => ?_, h6, fun e => h7 (k3 b hbl e)⟩, hx.only k2 h7, hb.trans (k2.to_below hs h5)⟩
  by_cases e : k < W.heap.size
  · exact h5 k (k3 k e hg)
  · omega
theorem tb_lq (K : LandedDk Dk) (h : TwinB Dk w W p q sd su b cs) {f : FuncId} {args : Array Value} {v : Ending}
    (hc : ∀ F, Dk F W p sd → Calls Try.prog f args W fun e W' => e = v ∧ Below W.heap.size W W') : Calls Try.prog f args W fun e W' => e = v ∧ TwinB Dk w W' p q sd su b cs := by
  have h' := h
  obtain ⟨⟨F, G, h1, _⟩, _, _⟩ := h'
  refine (hc F h1).mono ?_
  rintro e W' ⟨he, hb⟩
  exact ⟨he, h.later K hb⟩
theorem tb_rq (K : LandedDk Dk) (h : TwinB Dk w W p q sd su b cs) {f : FuncId} {args : Array Value} {v : Ending}
    (hc : ∀ F, Dk F W q su → Calls Try.prog f args W fun e W' => e = v ∧ Below W.heap.size W W') : Calls Try.prog f args W fun e W' => e = v ∧ TwinB Dk w W' p q sd su b cs := by
  have h' := h
  obtain ⟨⟨F, G, _, h2, _⟩, _, _⟩ := h'
  refine (hc G h2).mono ?_
  rintro e W' ⟨he, hb⟩
  exact ⟨he, h.later K hb⟩
theorem Twin.later (K : LandedDk Dk) (h : Twin Dk w W p q sd su) {W' : World} (hb2 : Below W.heap.size W W') : Twin Dk w W' p q sd su := by
  obtain ⟨⟨F, G, h1, h2, h3, h4, h5⟩, hb⟩ := h
  exact ⟨⟨F, G, K.later h1 hb2, K.later h2 hb2, h3, h4, h5⟩, hb.trans (hb2.mono hb.size)⟩
theorem tw_lq (K : LandedDk Dk) (h : Twin Dk w W p q sd su) {f : FuncId} {args : Array Value} {v : Ending}
    (hc : ∀ F, Dk F W p sd → Calls Try.prog f args W fun e W' => e = v ∧ Below W.heap.size W W') : Calls Try.prog f args W fun e W' => e = v ∧ Twin Dk w W' p q sd su := by
  have h' := h
  obtain ⟨⟨F, G, h1, _⟩, _⟩ := h'
  refine (hc F h1).mono ?_
  rintro e W' ⟨he, hb⟩
  exact ⟨he, h.later K hb⟩
theorem tw_rq (K : LandedDk Dk) (h : Twin Dk w W p q sd su) {f : FuncId} {args : Array Value} {v : Ending}
    (hc : ∀ F, Dk F W q su → Calls Try.prog f args W fun e W' => e = v ∧ Below W.heap.size W W') : Calls Try.prog f args W fun e W' => e = v ∧ Twin Dk w W' p q sd su := by
  have h' := h
  obtain ⟨⟨F, G, _, h2, _⟩, _⟩ := h'
  refine (hc G h2).mono ?_
  rintro e W' ⟨he, hb⟩
  exact ⟨he, h.later K hb⟩
end

/-! ### Plain -/
theorem ones_bit (k : Nat) : allOnes / 2 ^ (min k 63) % 2 = 1 := by
  have h : ∀ j, j < 64 → allOnes / 2 ^ j % 2 = 1 := by decide +kernel
  exact h _ (by omega)
theorem lasting_all_cons (c k : Nat) (w : Nat × ByteArray) (r : List (Nat × ByteArray)) (safe : List ByteArray) : lasting allOnes (-1) c k (w :: r) safe = lasting allOnes (-1) c (k + 1) r (safe.set w.1 w.2) := by
  rw [lasting, if_neg (by omega), if_pos (ones_bit k)]
theorem nowAt_cons (w : Nat × ByteArray) (r : List (Nat × ByteArray)) (i : Nat) (s : ByteArray) : nowAt (w :: r) i s = nowAt r i (if w.1 = i then w.2 else s) := rfl
/-- Once synced, a sector holds what it held. -/
theorem lasting_all (i : Nat) : ∀ (r : List (Nat × ByteArray)) (c k : Nat) (safe : List ByteArray), i < safe.length → (∀ w ∈ r, w.1 < safe.length) → (lasting allOnes (-1) c k r safe).getD i ByteArray.empty = nowAt r i (safe.getD i ByteArray.empty)
  | [], _, _, _, _, _ => rfl
  | w :: r, c, k, safe, hi, hw => by
    rw [lasting_all_cons, lasting_all i r c (k + 1) _ (by rw [List.length_set]; exact hi) (fun v hv => by rw [List.length_set]; exact hw v (List.mem_cons_of_mem _ hv)), nowAt_cons]
    congr 1
    rw [List.getD_eq_getElem?_getD, List.getD_eq_getElem?_getD, List.getElem?_set]
    by_cases e : w.1 = i
    · rw [if_pos e, if_pos e, if_pos (by rw [e]; exact hi)]; rfl
    · rw [if_neg e, if_neg e]
theorem nowAt_filter (i : Nat) : ∀ (r : List (Nat × ByteArray)) (s : ByteArray), nowAt r i s = nowAt (r.filter (fun w => w.1 == i)) i s
  | [], _ => rfl
  | w :: r, s => by
    rw [nowAt_cons, nowAt_filter i r]
    by_cases e : w.1 = i
    · rw [List.filter_cons_of_pos (by simp [e]), nowAt_cons]
    · rw [List.filter_cons_of_neg (by simp [e]), if_neg e]
/-- Of one sector both disks say the same. -/
structure SameAt (i : Nat) (sd su : St) : Prop where
  len : sd.safe.length = su.safe.length
  here : i < sd.safe.length
  safe : sd.safe.getD i ByteArray.empty = su.safe.getD i ByteArray.empty
  later : sd.later.filter (fun w => w.1 == i) = su.later.filter (fun w => w.1 == i)
  armd : sd.arm ≤ 0
  armu : su.arm ≤ 0
theorem SameAt.now {i : Nat} {sd su : St} (h : SameAt i sd su) : sd.now i = su.now i := by
  unfold St.now
  rw [nowAt_filter, h.later, h.safe, ← nowAt_filter]
theorem fails_no {st : St} (h : st.arm ≤ 0) : st.fails = false := by unfold St.fails; rw [decide_eq_false]; omega
theorem write_calm {st : St} (h : st.arm ≤ 0) (j : Int) (s : ByteArray) : (st.write j s).2 = if st.goodW j s = true then { st.tried with later := st.later ++ [(j.toNat, padB s)] } else st := by
  unfold St.write
  split
  · rw [if_neg (by rw [fails_no h]; decide)]
  · rfl
theorem goodW_same {sd su : St} (h : sd.safe.length = su.safe.length) (j : Int) (s : ByteArray) : sd.goodW j s = su.goodW j s := by unfold St.goodW; rw [h]
theorem SameAt.write_both {i : Nat} {sd su : St} (h : SameAt i sd su) (j : Int) (s : ByteArray) : SameAt i (sd.write j s).2 (su.write j s).2 := by
  rw [write_calm h.armd, write_calm h.armu, goodW_same h.len]
  split
  · exact ⟨h.len, h.here, h.safe, by show (sd.later ++ _).filter _ = (su.later ++ _).filter _; rw [List.filter_append, List.filter_append, h.later], by have := h.armd; show sd.arm - 1 ≤ 0; omega, by have := h.armu; show su.arm - 1 ≤ 0; omega⟩
  · exact h
theorem SameAt.write_one {i : Nat} {sd su : St} (h : SameAt i sd su) (j : Int) (s : ByteArray) (hj : j ≠ ((i : Nat) : Int)) : SameAt i (sd.write j s).2 su := by
  rw [write_calm h.armd]
  split
  · rename_i hg
    unfold St.goodW at hg
    simp at hg
    refine ⟨h.len, h.here, h.safe, ?_, by have := h.armd; show sd.arm - 1 ≤ 0; omega, h.armu⟩
    show (sd.later ++ _).filter _ = _
    rw [List.filter_append, h.later, List.filter_cons_of_neg (by simp; omega), List.filter_nil, List.append_nil]
  · exact h
theorem SameAt.sync {i : Nat} {sd su : St} {k j : Nat} (h : SameAt i sd su) (hd : sd.OkN k) (hu : su.OkN j) : SameAt i sd.sync.2 su.sync.2 := by
  have ed : sd.sync.2 = sd.tried.crash allOnes (-1) 0 := by unfold St.sync; rw [if_neg (by rw [fails_no h.armd]; decide)]
  have eu : su.sync.2 = su.tried.crash allOnes (-1) 0 := by unfold St.sync; rw [if_neg (by rw [fails_no h.armu]; decide)]
  rw [ed, eu]
  refine ⟨by rw [crash_length, crash_length]; exact h.len, by rw [crash_length]; exact h.here, ?_, rfl, by have := h.armd; show sd.arm - 1 ≤ 0; omega, by have := h.armu; show su.arm - 1 ≤ 0; omega⟩
  show (lasting allOnes (-1) (cutC 0) 0 sd.later sd.safe).getD i _ = (lasting allOnes (-1) (cutC 0) 0 su.later su.safe).getD i _
  rw [lasting_all i _ _ _ _ h.here (fun w hw => (hd.data w hw).2), lasting_all i _ _ _ _ (by rw [← h.len]; exact h.here) (fun w hw => (hu.data w hw).2)]
  exact h.now
end Go.Proofs.Ythmcdldmmhnleaa
