/- Stage 6: records as sectors, one behind the other. Plain: no program, no condition. -/
import Derived.Test.YtdphflbgecnhkaaDoorZQf
namespace Go.Proofs.YtdphflbgecnhkaaDoor
open Go Go.RowKit Cr

/-- A record's bytes, with its number and its length. -/
def frameB (q : Int) (s : ByteArray) : ByteArray := intB 8 q ++ (intB 4 ((s.size : Nat) : Int) ++ s)
theorem int4_size (n : Int) : (intB 4 n).size = 4 := by rw [intB_size]; rfl
theorem frameB_size (q : Int) (s : ByteArray) : (frameB q s).size = 12 + s.size := by
  unfold frameB
  rw [ByteArray.size_append, ByteArray.size_append, int8_size, int4_size]; omega
theorem frame_seq (q : Int) (s : ByteArray) : (frameB q s).extract 0 8 = intB 8 q := by
  unfold frameB
  rw [cut_left _ _ _ _ (by rw [int8_size]; omega)]
  exact cut_all _ _ (by rw [int8_size])
theorem frame_len (q : Int) (s : ByteArray) : (frameB q s).extract 8 12 = intB 4 ((s.size : Nat) : Int) := by
  unfold frameB
  rw [cut_right _ _ _ _ (by rw [int8_size]; omega), int8_size, cut_left _ _ _ _ (by rw [int4_size]; omega)]
  exact cut_all _ _ (by rw [int4_size])
theorem frame_text (q : Int) (s : ByteArray) : (frameB q s).extract 12 (12 + s.size) = s := by
  unfold frameB
  rw [cut_right _ _ _ _ (by rw [int8_size]; omega), int8_size, cut_right _ _ _ _ (by rw [int4_size]; omega), int4_size]
  exact cut_all _ _ (by omega)
theorem intB_inj4 {n m : Int} (hn : 0 ≤ n ∧ n < 4294967296) (hm : 0 ≤ m ∧ m < 4294967296) (h : intB 4 n = intB 4 m) : n = m := by
  have e : ∀ z : Int, valL (bytesN (intB 4 z)) = u64N z % 256 ^ 4 := fun z => valL_textP _ _
  have := (e n).symm.trans ((congrArg (fun s => valL (bytesN s)) h).trans (e m))
  unfold u64N at *
  omega
/-- How many sectors a record of so many bytes takes. -/
def cntR (n : Nat) : Nat := countN (12 + n)
theorem cntR_pos (n : Nat) : 1 ≤ cntR n := countN_pos _
theorem cntR_le {n : Nat} (h : n ≤ 32768) : cntR n ≤ 320 := countN_stop _ 320 (by omega) (by omega)
/-- A record lies whole at a place, ahead of an end. -/
structure RecAt (get : Nat → ByteArray) (a u : Nat) (q N : Int) (s : ByteArray) : Prop where
  num : 0 ≤ q ∧ q ≤ 1152921504606846976
  n : 1 ≤ N ∧ N ≤ 1152921504606846976
  len : s.size ≤ 32768
  fit : a + cntR s.size ≤ u
  sec : ∀ i, i < cntR s.size → get (a + i) = secB N ((i : Nat) : Int) (partS (frameB q s) i)
theorem RecAt.leaf {get : Nat → ByteArray} {a u : Nat} {q N : Int} {s : ByteArray} (h : RecAt get a u q N s) (i : Nat) (hi : i < cntR s.size) : leafOf (get (a + i)) = some (N, ((i : Nat) : Int), partS (frameB q s) i) := by
  have := cntR_le h.len
  rw [h.sec i hi]
  exact leafOf_sec (part_ok h.n.1 h.n.2 _ i (by omega))
theorem part0_cut (f : ByteArray) (i j : Nat) (hf : 12 ≤ f.size) (hj : j ≤ 12) : (partS f 0).extract i j = f.extract i j := by
  unfold partS
  rw [ByteArray.extract_extract]
  congr 1 <;> omega
/-- At a place there is one record at most. -/
theorem rec_one {get : Nat → ByteArray} {a u u' : Nat} {q q' N N' : Int} {s s' : ByteArray} (h : RecAt get a u q N s) (h' : RecAt get a u' q' N' s') : q = q' ∧ N = N' ∧ s = s' := by
  have p1 := cntR_pos s.size
  have p2 := cntR_pos s'.size
  have e0 := (h.leaf 0 (by omega)).symm.trans (h'.leaf 0 (by omega))
  have eo := Option.some.inj e0
  have eN : N = N' := congrArg Prod.fst eo
  replace e0 : partS (frameB q s) 0 = partS (frameB q' s') 0 := congrArg (fun x => x.2.2) eo
  clear eo
  have f1 := frameB_size q s
  have f2 := frameB_size q' s'
  have eq : intB 8 q = intB 8 q' := by
    have this : (partS (frameB q s) 0).extract 0 8 = (partS (frameB q' s') 0).extract 0 8 := by rw [e0]
    rw [part0_cut _ 0 8 (by omega) (by omega), part0_cut _ 0 8 (by omega) (by omega), frame_seq, frame_seq] at this
    exact this
  have el : intB 4 ((s.size : Nat) : Int) = intB 4 ((s'.size : Nat) : Int) := by
    have this : (partS (frameB q s) 0).extract 8 12 = (partS (frameB q' s') 0).extract 8 12 := by rw [e0]
    rw [part0_cut _ 8 12 (by omega) (by omega), part0_cut _ 8 12 (by omega) (by omega), frame_len, frame_len] at this
    exact this
  have l1 := h.len
  have l2 := h'.len
  have q1 := h.num
  have q2 := h'.num
  have eq2 := intB_inj8 (by omega) (by omega) eq
  have el2 := intB_inj4 (by omega) (by omega) el
  have el3 : s.size = s'.size := by omega
  refine ⟨eq2, eN, ?_⟩
  have ef : frameB q s = frameB q' s' := parts_ext (by omega) (fun i hi => by
    rw [f1] at hi
    have hi' : i < cntR s.size := hi
    have e := (h.leaf i hi').symm.trans (h'.leaf i (by rw [← el3]; exact hi'))
    exact congrArg (fun x => x.2.2) (Option.some.inj e))
  have t1 := frame_text q s
  have t2 := frame_text q' s'
  rw [← t1, ef, el3]
  exact t2
open Classical in
noncomputable def recOf (get : Nat → ByteArray) (a u : Nat) (q : Int) : Option ByteArray := if h : ∃ s N, RecAt get a u q N s then some h.choose else none
theorem recOf_some {get : Nat → ByteArray} {a u : Nat} {q N : Int} {s : ByteArray} (h : RecAt get a u q N s) : recOf get a u q = some s := by
  have hx : ∃ s N, RecAt get a u q N s := ⟨s, N, h⟩
  unfold recOf
  rw [dif_pos hx]
  obtain ⟨N2, h2⟩ := hx.choose_spec
  exact congrArg some (rec_one h2 h).2.2
theorem recOf_not {get : Nat → ByteArray} {a u : Nat} {q : Int} (h : recOf get a u q = none) (N : Int) (s : ByteArray) : ¬ RecAt get a u q N s := fun e => by
  rw [recOf_some e] at h; cases h
/-- Records that lie one behind the other. -/
inductive Chain (get : Nat → ByteArray) (u : Nat) : Nat → Int → List ByteArray → Nat → Prop
  | nil (a : Nat) (q : Int) : Chain get u a q [] a
  | cons {a : Nat} {q N : Int} {s : ByteArray} {l : List ByteArray} {e : Nat} (h : RecAt get a u (q + 1) N s) (r : Chain get u (a + cntR s.size) (q + 1) l e) : Chain get u a q (s :: l) e
theorem Chain.ends {get : Nat → ByteArray} {u a : Nat} {q : Int} {l : List ByteArray} {e : Nat} (h : Chain get u a q l e) : a ≤ e ∧ (a ≤ u → e ≤ u) := by
  induction h with
  | nil a q => exact ⟨Nat.le_refl _, fun h => h⟩
  | cons h r ih =>
    have := h.fit
    have := ih.2 (by omega)
    exact ⟨by omega, fun _ => by omega⟩
theorem RecAt.congr {get get' : Nat → ByteArray} {a u u' : Nat} {q N : Int} {s : ByteArray} (h : RecAt get a u q N s) (hu : a + cntR s.size ≤ u') (hg : ∀ i, a ≤ i → i < a + cntR s.size → get' i = get i) : RecAt get' a u' q N s :=
  ⟨h.num, h.n, h.len, hu, fun i hi => by rw [hg (a + i) (by omega) (by omega)]; exact h.sec i hi⟩
theorem Chain.congr {get get' : Nat → ByteArray} {u a : Nat} {q : Int} {l : List ByteArray} {e : Nat} (h : Chain get u a q l e) (hg : ∀ i, a ≤ i → i < e → get' i = get i) : Chain get' u a q l e := by
  induction h with
  | nil a q => exact .nil a q
  | cons h r ih =>
    have := r.ends.1
    exact .cons (h.congr h.fit (fun i h1 h2 => hg i h1 (by omega))) (ih (fun i h1 h2 => hg i (by omega) h2))
/-- The records that some sectors have: as long as one lies at the next place. -/
structure Recs (get : Nat → ByteArray) (u a : Nat) (q : Int) (l : List ByteArray) (e : Nat) : Prop where
  chain : Chain get u a q l e
  stop : recOf get e u (q + (l.length : Nat) + 1) = none
theorem recs_one {get : Nat → ByteArray} {u a : Nat} {q : Int} {l : List ByteArray} {e : Nat} (h : Chain get u a q l e) : recOf get e u (q + (l.length : Nat) + 1) = none → ∀ {l' : List ByteArray} {e' : Nat}, Recs get u a q l' e' → l = l' ∧ e = e' := by
  induction h with
  | nil a q =>
    intro hs l' e' h'
    obtain ⟨c, _⟩ := h'
    cases c with
    | nil => exact ⟨rfl, rfl⟩
    | @cons _ _ N s' l2 _ hr r =>
      simp only [List.length_nil, Int.natCast_zero, Int.add_zero] at hs
      exact absurd hr (recOf_not hs N s')
  | @cons a q N s l e hr r ih =>
    intro hs l' e' h'
    obtain ⟨c, hs'⟩ := h'
    cases c with
    | nil =>
      simp only [List.length_nil, Int.natCast_zero, Int.add_zero] at hs'
      exact absurd hr (recOf_not hs' N s)
    | @cons _ _ N2 s2 l2 _ hr2 r2 =>
      obtain ⟨_, _, rfl⟩ := rec_one hr hr2
      have e1 : q + 1 + (l.length : Nat) + 1 = q + ((s :: l).length : Nat) + 1 := by rw [List.length_cons]; omega
      have e2 : q + 1 + (l2.length : Nat) + 1 = q + ((s :: l2).length : Nat) + 1 := by rw [List.length_cons]; omega
      obtain ⟨rfl, rfl⟩ := ih (by rw [e1]; exact hs) ⟨r2, by rw [e2]; exact hs'⟩
      exact ⟨rfl, rfl⟩
theorem Recs.one {get : Nat → ByteArray} {u a : Nat} {q : Int} {l l' : List ByteArray} {e e' : Nat} (h : Recs get u a q l e) (h' : Recs get u a q l' e') : l = l' ∧ e = e' := recs_one h.chain h.stop h'
end Go.Proofs.YtdphflbgecnhkaaDoor
