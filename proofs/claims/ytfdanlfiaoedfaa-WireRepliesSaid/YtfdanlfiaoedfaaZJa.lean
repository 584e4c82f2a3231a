/- Stage 5: parts of a text, what a sector is read as. Plain: no condition. -/
/- Stage 5: what is laid, and what is taken, as plain functions. Plain: no program, no condition. -/
/- Stage 5: what is taken of what was laid, behind a crash, too. Plain: no program, no condition. -/
/- Stage 6: records as sectors, one behind the other. Plain: no program, no condition. -/
/- The document's sectors of layer 5, walked. -/
/- The landed Bytes of a leaf. No condition but a text's size. -/
import Derived.Test.YtfdanlfiaoedfaaRows
import Derived.Test.YtfdanlfiaoedfaaZQs
import Derived.Test.YtfdanlfiaoedfaaZPl
import Derived.Test.YtfdanlfiaoedfaaZTw
import Derived.Lib.QuietBelow
import Derived.Lib.MinMax
import Derived.Laws.StructEq
import Derived.Shelf.Strings.Repeat
namespace Go.Proofs.Ytfdanlfiaoedfaa
open Go Cr

/-- How many sectors so many bytes take. -/
def countN (n : Nat) : Nat := if n ≤ 104 then 1 else (n + 103) / 104
theorem countN_pos (n : Nat) : 1 ≤ countN n := by unfold countN; split <;> omega
theorem countN_ge (n : Nat) : n ≤ 104 * countN n := by unfold countN; split <;> omega
theorem countN_stop (n k : Nat) (h : 1 ≤ k) (h2 : n ≤ 104 * k) : countN n ≤ k := by unfold countN; split <;> omega
/-- The i-th part. -/
def partS (s : ByteArray) (i : Nat) : ByteArray := s.extract (min (104 * i) s.size) (min (104 * i + 104) s.size)
theorem partS_size (s : ByteArray) (i : Nat) : (partS s i).size = min (104 * i + 104) s.size - min (104 * i) s.size := by
  unfold partS
  rw [ByteArray.size_extract]
  omega
theorem partS_le (s : ByteArray) (i : Nat) : (partS s i).size ≤ 104 := by rw [partS_size]; omega
theorem cut_join (s : ByteArray) (a b : Nat) (h : a ≤ b) (hb : b ≤ s.size) : s.extract 0 a ++ s.extract a b = s.extract 0 b := by
  have e1 : (s.extract 0 a).size = a := by rw [ByteArray.size_extract]; omega
  have e2 : (s.extract a b).size = b - a := by rw [ByteArray.size_extract]; omega
  have e3 : (s.extract 0 b).size = b := by rw [ByteArray.size_extract]; omega
  refine ByteArray.ext_getElem (by rw [ByteArray.size_append]; omega) (fun i h1 h2 => ?_)
  by_cases hi : i < a
  · refine (ByteArray.getElem_append_left (a := s.extract 0 a) (b := s.extract a b) (by omega)).trans ?_
    rw [ByteArray.getElem_extract, ByteArray.getElem_extract]
  · refine (ByteArray.getElem_append_right (a := s.extract 0 a) (b := s.extract a b) (by omega)).trans ?_
    rw [ByteArray.getElem_extract, ByteArray.getElem_extract]
    congr 1
    omega
/-- The first parts, joined. -/
theorem part_join (s : ByteArray) (k : Nat) : s.extract 0 (min (104 * k) s.size) ++ partS s k = s.extract 0 (min (104 * (k + 1)) s.size) := by
  unfold partS
  rw [cut_join s _ _ (by omega) (by omega), show 104 * k + 104 = 104 * (k + 1) by omega]
theorem part_all (s : ByteArray) : s.extract 0 (min (104 * countN s.size) s.size) = s := by
  have := countN_ge s.size
  exact cut_all _ _ (by omega)
/-- What a sector is read as: the leaf whose sector it is, if it is one's. -/
noncomputable def leafOf (s : ByteArray) : Option (Int × Int × ByteArray) :=
  open Classical in if h : ∃ x : Int × Int × ByteArray, LeafOk x.1 x.2.1 x.2.2 ∧ secB x.1 x.2.1 x.2.2 = s then some h.choose else none
theorem leafOf_sec {N I : Int} {D : ByteArray} (h : LeafOk N I D) : leafOf (secB N I D) = some (N, I, D) := by
  have hx : ∃ x : Int × Int × ByteArray, LeafOk x.1 x.2.1 x.2.2 ∧ secB x.1 x.2.1 x.2.2 = secB N I D := ⟨(N, I, D), h, rfl⟩
  unfold leafOf
  rw [dif_pos hx]
  obtain ⟨a, b⟩ := hx.choose_spec
  obtain ⟨e1, e2, e3⟩ := secB_inj a h b
  congr 1
  exact Prod.ext e1 (Prod.ext e2 e3)
end Go.Proofs.Ytfdanlfiaoedfaa
namespace Go.Proofs.Ytfdanlfiaoedfaa
open Go Go.RowKit Cr

theorem parts_ext {t u : ByteArray} (hs : t.size = u.size) (h : ∀ i, i < countN t.size → partS t i = partS u i) : t = u := by
  have key : ∀ k, k ≤ countN t.size → t.extract 0 (min (104 * k) t.size) = u.extract 0 (min (104 * k) u.size) := by
    intro k
    induction k with
    | zero =>
      intro _
      rw [Nat.mul_zero, Nat.zero_min, Nat.zero_min]
      exact (ByteArray.extract_eq_empty_iff.mpr (by omega)).trans (ByteArray.extract_eq_empty_iff.mpr (by omega)).symm
    | succ k ih => intro hk; rw [← part_join, ← part_join, ih (by omega), h k (by omega)]
  have e := key _ (Nat.le_refl _)
  rw [part_all t, hs, part_all u] at e
  exact e
/-- The text whose parts the sectors are. -/
def TakeIs (get : Nat → ByteArray) (N : Int) (size : Nat) (t : ByteArray) : Prop := t.size = size ∧ ∀ i, i < countN size → leafOf (get i) = some (N, ((i : Nat) : Int), partS t i)
theorem TakeIs.one {get : Nat → ByteArray} {N : Int} {size : Nat} {t u : ByteArray} (h : TakeIs get N size t) (k : TakeIs get N size u) : t = u := by
  refine parts_ext (h.1.trans k.1.symm) (fun i hi => ?_)
  rw [h.1] at hi
  have := (h.2 i hi).symm.trans (k.2 i hi)
  injection this with e
  injection e with _ e
  injection e
open Classical in
noncomputable def takeOf (get : Nat → ByteArray) (N : Int) (size : Nat) : Option ByteArray := if h : ∃ t, TakeIs get N size t then some h.choose else none
/-- What Take answers of a disk. -/
def takePlace (st : St) (fr upto : Int) (size : Int) : Prop := 0 ≤ fr ∧ fr ≤ upto ∧ upto ≤ ((st.safe.length : Nat) : Int) ∧ 0 ≤ size ∧ ((countN size.toNat : Nat) : Int) ≤ upto - fr
open Classical in
noncomputable def St.take (st : St) (fr upto N size : Int) : Option ByteArray := if takePlace st fr upto size then takeOf (fun i => st.now (fr.toNat + i)) N size.toNat else none
/-- There is room for so many writes. -/
structure St.Room (st : St) (n : Nat) : Prop where
  safe : ∀ s ∈ st.safe, s.size = 128
  data : ∀ w ∈ st.later, w.2.size = 128 ∧ w.1 < st.safe.length
  many : st.safe.length ≤ 4096
  few : st.later.length + n ≤ 1000
  ops : 0 ≤ st.ops ∧ st.ops + n ≤ 1000000
  arm : -1000000 + (n : Int) ≤ st.arm ∧ st.arm ≤ 9223372036854775807
theorem St.Room.ok {st : St} {n : Nat} (h : st.Room n) : st.Ok where
  safe := h.safe
  data := h.data
  many := h.many
  few := by have := h.few; omega
  ops := by have := h.ops; omega
  arm := by have := h.arm; omega
end Go.Proofs.Ytfdanlfiaoedfaa
namespace Go.Proofs.Ytfdanlfiaoedfaa
open Go Go.RowKit Cr

theorem part_ok {N : Int} (h0 : 1 ≤ N) (h1 : N ≤ 1152921504606846976) (s : ByteArray) (i : Nat) (hi : i < 4096) : LeafOk N ((i : Nat) : Int) (partS s i) := ⟨⟨h0, h1⟩, by omega, partS_le s i⟩
end Go.Proofs.Ytfdanlfiaoedfaa
namespace Go.Proofs.Ytfdanlfiaoedfaa
open Go Go.RowKit Cr

/-- A record's bytes, with its number and its length. -/
def frameB (q : Int) (s : ByteArray) : ByteArray := intB 8 q ++ (intB 4 ((s.size : Nat) : Int) ++ s)
theorem int4_size (n : Int) : (intB 4 n).size = 4 := by rw [intB_size]; rfl
theorem frameB_size (q : Int) (s : ByteArray) : (frameB q s).size = 12 + s.size := by
  unfold frameB
  rw [ByteArray.size_append, ByteArray.size_append, int8_size, int4_size]; omega
theorem frame_seq (q : Int) (s : ByteArray) : (frameB q s).extract 0 8 = intB 8 q := by
  unfold frameB
  rw [cut_left _ _ _ _ (by rw [int8_size]; omega)]
  exact cut_all _ _ (by rw [int8_size])
theorem frame_len (q : Int) (s : ByteArray) : (frameB q s).extract 8 12 = intB 4 ((s.size : Nat) : Int) := by
  unfold frameB
  rw [cut_right _ _ _ _ (by rw [int8_size]; omega), int8_size, cut_left _ _ _ _ (by rw [int4_size]; omega)]
  exact cut_all _ _ (by rw [int4_size])
theorem frame_text (q : Int) (s : ByteArray) : (frameB q s).extract 12 (12 + s.size) = s := by
  unfold frameB
  rw [cut_right _ _ _ _ (by rw [int8_size]; omega), int8_size, cut_right _ _ _ _ (by rw [int4_size]; omega), int4_size]
  exact cut_all _ _ (by omega)
theorem intB_inj4 {n m : Int} (hn : 0 ≤ n ∧ n < 4294967296) (hm : 0 ≤ m ∧ m < 4294967296) (h : intB 4 n = intB 4 m) : n = m := by
  have e : ∀ z : Int, valL (bytesN (intB 4 z)) = u64N z % 256 ^ 4 := fun z => valL_textP _ _
  have := (e n).symm.trans ((congrArg (fun s => valL (bytesN s)) h).trans (e m))
  unfold u64N at *
  omega
/-- How many sectors a record of so many bytes takes. -/
def cntR (n : Nat) : Nat := countN (12 + n)
theorem cntR_pos (n : Nat) : 1 ≤ cntR n := countN_pos _
theorem cntR_le {n : Nat} (h : n ≤ 32768) : cntR n ≤ 320 := countN_stop _ 320 (by omega) (by omega)
/-- A record lies whole at a place, ahead of an end. -/
structure RecAt (get : Nat → ByteArray) (a u : Nat) (q N : Int) (s : ByteArray) : Prop where
  num : 0 ≤ q ∧ q ≤ 1152921504606846976
  n : 1 ≤ N ∧ N ≤ 1152921504606846976
  len : s.size ≤ 32768
  fit : a + cntR s.size ≤ u
  sec : ∀ i, i < cntR s.size → get (a + i) = secB N ((i : Nat) : Int) (partS (frameB q s) i)
theorem RecAt.leaf {get : Nat → ByteArray} {a u : Nat} {q N : Int} {s : ByteArray} (h : RecAt get a u q N s) (i : Nat) (hi : i < cntR s.size) : leafOf (get (a + i)) = some (N, ((i : Nat) : Int), partS (frameB q s) i) := by
  have := cntR_le h.len
  rw [h.sec i hi]
  exact leafOf_sec (part_ok h.n.1 h.n.2 _ i (by omega))
theorem part0_cut (f : ByteArray) (i j : Nat) (hf : 12 ≤ f.size) (hj : j ≤ 12) : (partS f 0).extract i j = f.extract i j := by
  unfold partS
  rw [ByteArray.extract_extract]
  congr 1 <;> omega
/-- At a place there is one record at most. -/
theorem rec_one {get : Nat → ByteArray} {a u u' : Nat} {q q' N N' : Int} {s s' : ByteArray} (h : RecAt get a u q N s) (h' : RecAt get a u' q' N' s') : q = q' ∧ N = N' ∧ s = s' := by
  have p1 := cntR_pos s.size
  have p2 := cntR_pos s'.size
  have e0 := (h.leaf 0 (by omega)).symm.trans (h'.leaf 0 (by omega))
  have eo := Option.some.inj e0
  have eN : N = N' := congrArg Prod.fst eo
  replace e0 : partS (frameB q s) 0 = partS (frameB q' s') 0 := congrArg (fun x => x.2.2) eo
  clear eo
  have f1 := frameB_size q s
  have f2 := frameB_size q' s'
  have eq : intB 8 q = intB 8 q' := by
    have this : (partS (frameB q s) 0).extract 0 8 = (partS (frameB q' s') 0).extract 0 8 := by rw [e0]
    rw [part0_cut _ 0 8 (by omega) (by omega), part0_cut _ 0 8 (by omega) (by omega), frame_seq, frame_seq] at this
    exact this
  have el : intB 4 ((s.size : Nat) : Int) = intB 4 ((s'.size : Nat) : Int) := by
    have this : (partS (frameB q s) 0).extract 8 12 = (partS (frameB q' s') 0).extract 8 12 := by rw [e0]
    rw [part0_cut _ 8 12 (by omega) (by omega), part0_cut _ 8 12 (by omega) (by omega), frame_len, frame_len] at this
    exact this
  have l1 := h.len
  have l2 := h'.len
  have q1 := h.num
  have q2 := h'.num
  have eq2 := intB_inj8 (by omega) (by omega) eq
  have el2 := intB_inj4 (by omega) (by omega) el
  have el3 : s.size = s'.size := by omega
  refine ⟨eq2, eN, ?_⟩
  have ef : frameB q s = frameB q' s' := parts_ext (by omega) (fun i hi => by
    rw [f1] at hi
    have hi' : i < cntR s.size := hi
    have e := (h.leaf i hi').symm.trans (h'.leaf i (by rw [← el3]; exact hi'))
    exact congrArg (fun x => x.2.2) (Option.some.inj e))
  have t1 := frame_text q s
  have t2 := frame_text q' s'
  rw [← t1, ef, el3]
  exact t2
open Classical in
noncomputable def recOf (get : Nat → ByteArray) (a u : Nat) (q : Int) : Option ByteArray := if h : ∃ s N, RecAt get a u q N s then some h.choose else none
theorem recOf_some {get : Nat → ByteArray} {a u : Nat} {q N : Int} {s : ByteArray} (h : RecAt get a u q N s) : recOf get a u q = some s := by
  have hx : ∃ s N, RecAt get a u q N s := ⟨s, N, h⟩
  unfold recOf
  rw [dif_pos hx]
  obtain ⟨N2, h2⟩ := hx.choose_spec
  exact congrArg some (rec_one h2 h).2.2
theorem recOf_not {get : Nat → ByteArray} {a u : Nat} {q : Int} (h : recOf get a u q = none) (N : Int) (s : ByteArray) : ¬ RecAt get a u q N s := fun e => by
  rw [recOf_some e] at h; cases h
/-- Records that lie one behind the other. -/
inductive Chain (get : Nat → ByteArray) (u : Nat) : Nat → Int → List ByteArray → Nat → Prop
  | nil (a : Nat) (q : Int) : Chain get u a q [] a
  | cons {a : Nat} {q N : Int} {s : ByteArray} {l : List ByteArray} {e : Nat} (h : RecAt get a u (q + 1) N s) (r : Chain get u (a + cntR s.size) (q + 1) l e) : Chain get u a q (s :: l) e
theorem Chain.ends {get : Nat → ByteArray} {u a : Nat} {q : Int} {l : List ByteArray} {e : Nat} (h : Chain get u a q l e) : a ≤ e ∧ (a ≤ u → e ≤ u) := by
  induction h with
  | nil a q => exact ⟨Nat.le_refl _, fun h => h⟩
  | cons h r ih =>
    have := h.fit
    have := ih.2 (by omega)
    exact ⟨by omega, fun _ => by omega⟩
theorem RecAt.congr {get get' : Nat → ByteArray} {a u u' : Nat} {q N : Int} {s : ByteArray} (h : RecAt get a u q N s) (hu : a + cntR s.size ≤ u') (hg : ∀ i, a ≤ i → i < a + cntR s.size → get' i = get i) : RecAt get' a u' q N s :=
  ⟨h.num, h.n, h.len, hu, fun i hi => by rw [hg (a + i) (by omega) (by omega)]; exact h.sec i hi⟩
theorem Chain.congr {get get' : Nat → ByteArray} {u a : Nat} {q : Int} {l : List ByteArray} {e : Nat} (h : Chain get u a q l e) (hg : ∀ i, a ≤ i → i < e → get' i = get i) : Chain get' u a q l e := by
  induction h with
  | nil a q => exact .nil a q
  | cons h r ih =>
    have := r.ends.1
    exact .cons (h.congr h.fit (fun i h1 h2 => hg i h1 (by omega))) (ih (fun i h1 h2 => hg i (by omega) h2))
/-- The records that some sectors have: as long as one lies at the next place. -/
structure Recs (get : Nat → ByteArray) (u a : Nat) (q : Int) (l : List ByteArray) (e : Nat) : Prop where
  chain : Chain get u a q l e
  stop : recOf get e u (q + (l.length : Nat) + 1) = none
theorem recs_one {get : Nat → ByteArray} {u a : Nat} {q : Int} {l : List ByteArray} {e : Nat} (h : Chain get u a q l e) : recOf get e u (q + (l.length : Nat) + 1) = none → ∀ {l' : List ByteArray} {e' : Nat}, Recs get u a q l' e' → l = l' ∧ e = e' := by
  induction h with
  | nil a q =>
    intro hs l' e' h'
    obtain ⟨c, _⟩ := h'
    cases c with
    | nil => exact ⟨rfl, rfl⟩
    | @cons _ _ N s' l2 _ hr r =>
      simp only [List.length_nil, Int.natCast_zero, Int.add_zero] at hs
      exact absurd hr (recOf_not hs N s')
  | @cons a q N s l e hr r ih =>
    intro hs l' e' h'
    obtain ⟨c, hs'⟩ := h'
    cases c with
    | nil =>
      simp only [List.length_nil, Int.natCast_zero, Int.add_zero] at hs'
      exact absurd hr (recOf_not hs' N s)
    | @cons _ _ N2 s2 l2 _ hr2 r2 =>
      obtain ⟨_, _, rfl⟩ := rec_one hr hr2
      have e1 : q + 1 + (l.length : Nat) + 1 = q + ((s :: l).length : Nat) + 1 := by rw [List.length_cons]; omega
      have e2 : q + 1 + (l2.length : Nat) + 1 = q + ((s :: l2).length : Nat) + 1 := by rw [List.length_cons]; omega
      obtain ⟨rfl, rfl⟩ := ih (by rw [e1]; exact hs) ⟨r2, by rw [e2]; exact hs'⟩
      exact ⟨rfl, rfl⟩
theorem Recs.one {get : Nat → ByteArray} {u a : Nat} {q : Int} {l l' : List ByteArray} {e e' : Nat} (h : Recs get u a q l e) (h' : Recs get u a q l' e') : l = l' ∧ e = e' := recs_one h.chain h.stop h'
end Go.Proofs.Ytfdanlfiaoedfaa
namespace Go.Proofs.Ytfdanlfiaoedfaa
open Go.RowKit Go.Sort Cr

def lenOf : Value → Nat
  | .string s => s.size
  | _ => 0
end Go.Proofs.Ytfdanlfiaoedfaa
namespace Go.Proofs.Ytfdanlfiaoedfaa
open Go.RowKit Go.Sort Cr Wm

/-- A writer in the making, over a block of known cells that lies ahead of it. -/
structure Lw (W0 : World) (cs : List Value) (w : World) (p : Nat) (bs : ByteArray) : Prop where
  wr : ∃ F, WrIs F w p bs ∧ ∀ k, F k → W0.heap.size < k
  box : BoxAt w W0.heap.size cs
  bel : Below W0.heap.size W0 w
theorem Lw.later {W0 : World} {cs : List Value} {w w' : World} {p : Nat} {bs : ByteArray} (h : Lw W0 cs w p bs) (hb : Below w.heap.size w w') : Lw W0 cs w' p bs := by
  obtain ⟨F, h1, h2⟩ := h.wr
  exact ⟨⟨F, wrIs_later h1 hb, h2⟩, h.box.later hb, h.bel.trans (hb.mono h.bel.size)⟩
/-- A call that puts, as it is met. -/
theorem Lw.put {W0 : World} {cs : List Value} {w : World} {p : Nat} {bs : ByteArray} (h : Lw W0 cs w p bs) {f : Nat} {args : Array Value} {bs' : ByteArray} {P : Program}
    (hc : ∀ F, WrIs F w p bs → Calls P f args w fun e w' => e = .returned (.tuple #[]) ∧ WrPost WrIs F p bs' w w') :
    Calls P f args w fun e w' => e = .returned (.tuple #[]) ∧ Lw W0 cs w' p bs' := by
  obtain ⟨F, h1, h2⟩ := h.wr
  refine (hc F h1).mono ?_
  rintro e w' ⟨rfl, F', k1, k2, k3⟩
  refine ⟨rfl, ⟨F', k1, fun k hk => ?_⟩, h.box.only k2 (fun e => by have := h2 _ e; omega), h.bel.trans (k2.to_below h.bel.size (fun k hk => by have := h2 _ hk; omega))⟩
  by_cases e : k < w.heap.size
  · exact h2 k (k3 k e hk)
  · have := h.box.lt
    omega
end Go.Proofs.Ytfdanlfiaoedfaa
