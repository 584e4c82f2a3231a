/- Stage 7: a disk's plan, and what putting into a slot makes of the disk. Plain: no program, no condition. -/
/- What the walks of stage 7's laws ask of the landed slots; a plan's value; the question that each law asks first. -/
import Derived.Test.YtgolddcmhjdmdaaRows
import Derived.Test.YtgolddcmhjdmdaaZJl
import Derived.Test.YtgolddcmhjdmdaaZQj
import Derived.WalkKit
import Derived.IntWalk
import Derived.Laws.StructEq
namespace Go.Proofs.Ytgolddcmhjdmdaa
open Go Go.RowKit Cr

/-- What putting answers, and makes of the disk. -/
def St.put (st : St) (a size : Nat) (N : Int) (s : ByteArray) : Int × St :=
  if (st.lay (a : Int) ((a + size : Nat) : Int) N s).1 ≠ 0 then st.lay (a : Int) ((a + size : Nat) : Int) N s else (st.lay (a : Int) ((a + size : Nat) : Int) N s).2.sync
/-- A disk on which nothing is armed. -/
structure St.Calm (st : St) (n k : Nat) : Prop where
  len : st.safe.length = n
  safe : ∀ s ∈ st.safe, s.size = 128
  data : ∀ w ∈ st.later, w.2.size = 128 ∧ w.1 < st.safe.length
  few : st.later.length ≤ k
  ops : 0 ≤ st.ops ∧ st.ops ≤ k
  arm : -(k : Int) ≤ st.arm ∧ st.arm ≤ 0
theorem St.Calm.mono {st : St} {n j k : Nat} (h : st.Calm n j) (hk : j ≤ k) : st.Calm n k :=
  ⟨h.len, h.safe, h.data, by have := h.few; omega, by have := h.ops; omega, by have := h.arm; omega⟩
theorem St.Calm.room {st : St} {n k m : Nat} (h : st.Calm n k) (hn : n ≤ 4096) (hm : k + m ≤ 1000) : st.Room m where
  safe := h.safe
  data := h.data
  many := by rw [h.len]; omega
  few := by have := h.few; omega
  ops := by have := h.ops; omega
  arm := by have := h.arm; omega
theorem St.Calm.ok {st : St} {n k : Nat} (h : st.Calm n k) (hn : n ≤ 4096) (hk : k ≤ 1000) : st.Ok := (h.room (m := 0) hn (by omega)).ok
theorem St.Calm.new (n : Nat) (hn : n ≤ 4096) : (St.new (n : Int)).Calm n 0 where
  len := (St.Dry.new n hn).len
  safe := (St.Ok.new n).safe
  data := (St.Ok.new n).data
  few := by simp [St.new]
  ops := by simp [St.new]
  arm := by simp [St.new]
theorem St.Calm.idle {st : St} {n k : Nat} (h : st.Calm n k) (hl : st.later = []) : st.Idle n k := ⟨h.len, h.safe, hl, h.ops, by have := h.arm; omega⟩
/-- A write on it. -/
theorem St.Calm.write {st : St} {n k : Nat} (h : st.Calm n k) (i : Nat) (hi : i < n) (s : ByteArray) (hs : s.size ≤ 128) :
    ∃ st', st.write (i : Int) s = (0, st') ∧ st'.Calm n (k + 1) ∧ ∀ j, st'.now j = if i = j then padB s else st.now j := by
  have hl := h.len
  have hg : st.goodW (i : Int) s = true := by
    unfold St.goodW
    rw [decide_eq_true (by omega), decide_eq_true (by omega), decide_eq_true hs]; rfl
  have h1 := h.few
  have h2 := h.ops
  have h3 := h.arm
  refine ⟨{ st.tried with later := st.later ++ [(i, padB s)] }, ?_, ⟨hl, h.safe, fun w hw => ?_, ?_, ?_, ?_⟩, fun j => ?_⟩
  · unfold St.write
    rw [if_pos hg, fails_calm h3.2, if_neg (by decide), Int.toNat_natCast]
  · rcases List.mem_append.mp hw with hw | hw
    · exact h.data w hw
    · rw [List.mem_singleton.mp hw]
      exact ⟨padB_size _ hs, by show i < st.safe.length; omega⟩
  · show (st.later ++ [(i, padB s)]).length ≤ _
    rw [List.length_append, List.length_singleton]; omega
  · show 0 ≤ st.ops + 1 ∧ st.ops + 1 ≤ _; omega
  · show _ ≤ st.arm - 1 ∧ st.arm - 1 ≤ _; omega
  · show nowAt (st.later ++ [(i, padB s)]) j _ = _
    rw [nowAt_snoc]; rfl
theorem laid_now2 (st : St) (f : Nat) (N : Int) (s : ByteArray) (j : Nat) : (laidSt st f N s).now j = if f ≤ j ∧ j < f + countN s.size then secB N (((j - f : Nat)) : Int) (partS s (j - f)) else st.now j := by
  show nowAt (st.later ++ layW N s f 0 (countN s.size)) j (st.safe.getD j ByteArray.empty) = _
  unfold nowAt
  rw [List.foldl_append]
  exact now_laid N s f _ j _
/-- Putting, where nothing is armed: it lies there, synced; or it is too long, and nothing has changed. -/
theorem St.Calm.put {st : St} {n k : Nat} (h : st.Calm n k) (a size : Nat) (ha : a + size ≤ n) {N : Int} (hN : 1 ≤ N ∧ N ≤ 1152921504606846976) (s : ByteArray) :
    (countN s.size ≤ size ∧ ∃ st', st.put a size N s = (0, st') ∧ st'.Calm n (k + countN s.size + 1) ∧ st'.later = [] ∧
      ∀ j, j < n → st'.now j = if a ≤ j ∧ j < a + countN s.size then secB N (((j - a : Nat)) : Int) (partS s (j - a)) else st.now j) ∨
    (size < countN s.size ∧ st.put a size N s = (3, st)) := by
  have hl := h.len
  have hpl : layPlace st (a : Int) ((a + size : Nat) : Int) N = true := by
    unfold layPlace
    rw [decide_eq_true hN.1, decide_eq_true hN.2, decide_eq_true (by omega), decide_eq_true (by omega), decide_eq_true (by omega)]; rfl
  by_cases hc : countN s.size ≤ size
  · left
    have h1 := h.few
    have h2 := h.ops
    have h3 := h.arm
    have hlay := lay_good hpl s (by omega) h3.2
    rw [Int.toNat_natCast] at hlay
    have harm : (laidSt st a N s).arm ≤ 0 := by
      show st.arm - ((countN s.size : Nat) : Int) ≤ 0
      omega
    have hsy := sync_calm harm
    have hdata : ∀ w ∈ (laidSt st a N s).later, w.2.size = 128 ∧ w.1 < st.safe.length := fun w hw => by
      rcases List.mem_append.mp hw with hw | hw
      · exact h.data w hw
      · unfold layW at hw
        obtain ⟨j, hj2, rfl⟩ := List.mem_map.mp hw
        have := List.mem_range.mp hj2
        refine ⟨secB_size (partS_le _ _), ?_⟩
        show a + (0 + j) < st.safe.length
        rw [hl]; omega
    refine ⟨hc, (laidSt st a N s).tried.crash allOnes (-1) 0, ?_, ⟨?_, ?_, fun w hw => by simp [St.crash] at hw, by simp [St.crash], ?_, ?_⟩, rfl, fun j hj => ?_⟩
    · unfold St.put
      rw [hlay]
      dsimp only
      rw [if_neg (fun e => e rfl), hsy]
    · rw [crash_length]; exact hl
    · exact lasting_sizes _ _ _ (cutC_le 0) (laidSt st a N s).later 0 st.safe hdata h.safe
    · show 0 ≤ st.ops + ((countN s.size : Nat) : Int) + 1 ∧ st.ops + ((countN s.size : Nat) : Int) + 1 ≤ _
      omega
    · show _ ≤ st.arm - ((countN s.size : Nat) : Int) - 1 ∧ st.arm - ((countN s.size : Nat) : Int) - 1 ≤ _
      omega
    · rw [sync_now _ j (by show j < st.safe.length; rw [hl]; exact hj), laid_now2]
  · right
    refine ⟨by omega, ?_⟩
    unfold St.put
    rw [lay_long hpl s (by omega)]
    exact if_pos (show (3 : Int) ≠ 0 by decide)
/-- A new disk's sectors bear nothing. -/
theorem blank_at (n j : Nat) : leafOf ((St.new (n : Int)).now j) = none := by
  have e : (St.new (n : Int)).now j = (List.replicate (min (max (n : Int) 0) 4096).toNat (zerosB 128)).getD j ByteArray.empty := rfl
  rw [e, List.getD_eq_getElem?_getD, List.getElem?_replicate]
  split
  · exact blank_none
  · exact empty_none
end Go.Proofs.Ytgolddcmhjdmdaa
namespace Go.Proofs.Ytgolddcmhjdmdaa
open Go.RowKit Go.Sort Cr

/-- A plan in a block, and a disk of the law's own behind it. -/
structure Sl (Dk : (Nat → Prop) → World → Nat → St → Prop) (w wr : World) (b : Nat) (S Z J E : Int) (p : Nat) (st : St) : Prop where
  box : BoxAt wr b [.int .i64 2, .int .i64 S, .int .i64 Z, .int .i64 J, .int .i64 E]
  new : w.heap.size ≤ b
  ex : ∃ F, Dk F wr p st ∧ ∀ k, F k → b < k
  below : Below w.heap.size w wr
section
variable {Dk : (Nat → Prop) → World → Nat → St → Prop} {w wr w2 : World} {b p : Nat} {S Z J E : Int} {st st2 : St}
theorem Sl.later (K : LandedDk Dk) (h : Sl Dk w wr b S Z J E p st) (hb : Below wr.heap.size wr w2) : Sl Dk w w2 b S Z J E p st := by
  obtain ⟨h1, h2, ⟨F, h3, h4⟩, h5⟩ := h
  exact ⟨h1.later hb, h2, ⟨F, K.later h3 hb, h4⟩, h5.trans (hb.mono h5.size)⟩
theorem Sl.ask (K : LandedDk Dk) (h : Sl Dk w wr b S Z J E p st) {f : FuncId} {args : Array Value} {R : Ending → Prop} (hc : ∀ F, Dk F wr p st → Calls Try.prog f args wr fun e W' => R e ∧ Below wr.heap.size wr W') :
    Calls Try.prog f args wr fun e w2 => R e ∧ Sl Dk w w2 b S Z J E p st := by
  have h' := h
  obtain ⟨_, _, ⟨F, h3, _⟩, _⟩ := h'
  refine (hc F h3).mono ?_
  rintro e w2 ⟨hr, hb⟩
  exact ⟨hr, h.later K hb⟩
theorem Sl.op (h : Sl Dk w wr b S Z J E p st) {f : FuncId} {args : Array Value} {R : Ending → Prop} (hc : ∀ F, Dk F wr p st → Calls Try.prog f args wr fun e W' => R e ∧ DkPost Dk F p st2 wr W') :
    Calls Try.prog f args wr fun e w2 => R e ∧ Sl Dk w w2 b S Z J E p st2 := by
  obtain ⟨h1, h2, ⟨F, h3, h4⟩, h5⟩ := h
  refine (hc F h3).mono ?_
  rintro e w2 ⟨hr, F', k1, k2, k3⟩
  refine ⟨hr, h1.only k2 (fun e => by have := h4 _ e; omega), h2, ⟨F', k1, fun k hk => ?_⟩, h5.trans (k2.to_below h5.size (fun k hk => by have := h4 _ hk; omega))⟩
  by_cases e : k < wr.heap.size
  · exact h4 k (k3 k e hk)
  · have := h1.lt
    omega
theorem Sl.cells (h : Sl Dk w wr b S Z J E p st) : wr.cell? ⟨b, 0, none⟩ = some (.int .i64 2) ∧ wr.cell? ⟨b, 1, none⟩ = some (.int .i64 S) ∧ wr.cell? ⟨b, 2, none⟩ = some (.int .i64 Z) ∧ wr.cell? ⟨b, 3, none⟩ = some (.int .i64 J) ∧ wr.cell? ⟨b, 4, none⟩ = some (.int .i64 E) ∧ b < wr.heap.size :=
  ⟨h.box.spot 0 _ rfl, h.box.spot 1 _ rfl, h.box.spot 2 _ rfl, h.box.spot 3 _ rfl, h.box.spot 4 _ rfl, h.box.lt⟩
end
theorem Sl.five {Dk : (Nat → Prop) → World → Nat → St → Prop} {w wr : World} {b p : Nat} {S Z J E : Int} {st : St} (h : Sl Dk w wr b S Z J E p st) :
    wr.cell? ⟨b, 0, none⟩ = some (.int .i64 2) ∧ wr.cell? ⟨b, 1, none⟩ = some (.int .i64 S) ∧ wr.cell? ⟨b, 2, none⟩ = some (.int .i64 Z) ∧ wr.cell? ⟨b, 3, none⟩ = some (.int .i64 J) ∧ wr.cell? ⟨b, 4, none⟩ = some (.int .i64 E) :=
  ⟨h.box.spot 0 _ rfl, h.box.spot 1 _ rfl, h.box.spot 2 _ rfl, h.box.spot 3 _ rfl, h.box.spot 4 _ rfl⟩
end Go.Proofs.Ytgolddcmhjdmdaa
