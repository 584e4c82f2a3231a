/- Stage 5: what is laid, and what is taken, as plain functions. Plain: no program, no condition. -/
import Derived.Test.YtgolddcmhjdmdaaZQp
namespace Go.Proofs.Ytgolddcmhjdmdaa
open Go Go.RowKit Cr

/-- The number that an end bears; 0: none that can be. -/
def numE (s : ByteArray) : Int := if 1 ≤ backZ s ∧ backZ s ≤ 1152921504606846976 then backZ s else 0
def endsN (s : ByteArray) : Int := max (numE (s.extract 0 8)) (numE (s.extract 120 128))
/-- The greatest of the first so many sectors. -/
def greatN (f : Nat → ByteArray) : Nat → Int
  | 0 => 0
  | k + 1 => max (greatN f k) (endsN (f k))
theorem greatN_nonneg (f : Nat → ByteArray) : ∀ k, 0 ≤ greatN f k
  | 0 => by show (0 : Int) ≤ 0; omega
  | k + 1 => by have := greatN_nonneg f k; show 0 ≤ max (greatN f k) (endsN (f k)); omega
theorem backZ_int8 {n : Int} (h0 : 0 ≤ n) (h1 : n ≤ 9223372036854775807) : backZ (intB 8 n) = n := by
  unfold backZ intB
  rw [show sizeK 8 = 8 from rfl, valL_textP]
  unfold u64N
  rw [show (256 : Nat) ^ 8 = 18446744073709551616 from rfl, Int.emod_eq_of_lt h0 (by omega), Nat.mod_eq_of_lt (by omega)]
  unfold wrap64
  omega
theorem numE_int8 {n : Int} (h0 : 1 ≤ n) (h1 : n ≤ 1152921504606846976) : numE (intB 8 n) = n := by
  unfold numE
  rw [backZ_int8 (by omega) (by omega), if_pos ⟨h0, h1⟩]
theorem parts_ext {t u : ByteArray} (hs : t.size = u.size) (h : ∀ i, i < countN t.size → partS t i = partS u i) : t = u := by
  have key : ∀ k, k ≤ countN t.size → t.extract 0 (min (104 * k) t.size) = u.extract 0 (min (104 * k) u.size) := by
    intro k
    induction k with
    | zero =>
      intro _
      rw [Nat.mul_zero, Nat.zero_min, Nat.zero_min]
      exact (ByteArray.extract_eq_empty_iff.mpr (by omega)).trans (ByteArray.extract_eq_empty_iff.mpr (by omega)).symm
    | succ k ih => intro hk; rw [← part_join, ← part_join, ih (by omega), h k (by omega)]
  have e := key _ (Nat.le_refl _)
  rw [part_all t, hs, part_all u] at e
  exact e
/-- The text whose parts the sectors are. -/
def TakeIs (get : Nat → ByteArray) (N : Int) (size : Nat) (t : ByteArray) : Prop := t.size = size ∧ ∀ i, i < countN size → leafOf (get i) = some (N, ((i : Nat) : Int), partS t i)
theorem TakeIs.one {get : Nat → ByteArray} {N : Int} {size : Nat} {t u : ByteArray} (h : TakeIs get N size t) (k : TakeIs get N size u) : t = u := by
  refine parts_ext (h.1.trans k.1.symm) (fun i hi => ?_)
  rw [h.1] at hi
  have := (h.2 i hi).symm.trans (k.2 i hi)
  injection this with e
  injection e with _ e
  injection e
open Classical in
noncomputable def takeOf (get : Nat → ByteArray) (N : Int) (size : Nat) : Option ByteArray := if h : ∃ t, TakeIs get N size t then some h.choose else none
theorem takeOf_some {get : Nat → ByteArray} {N : Int} {size : Nat} {t : ByteArray} (h : TakeIs get N size t) : takeOf get N size = some t := by
  unfold takeOf
  rw [dif_pos ⟨t, h⟩]
  exact congrArg some ((Exists.choose_spec ⟨t, h⟩).one h)
theorem takeOf_none {get : Nat → ByteArray} {N : Int} {size : Nat} (h : ∀ t, ¬ TakeIs get N size t) : takeOf get N size = none := by
  unfold takeOf
  rw [dif_neg (fun ⟨t, ht⟩ => h t ht)]
/-- What Take answers of a disk. -/
def takePlace (st : St) (fr upto : Int) (size : Int) : Prop := 0 ≤ fr ∧ fr ≤ upto ∧ upto ≤ ((st.safe.length : Nat) : Int) ∧ 0 ≤ size ∧ ((countN size.toNat : Nat) : Int) ≤ upto - fr
open Classical in
noncomputable def St.take (st : St) (fr upto N size : Int) : Option ByteArray := if takePlace st fr upto size then takeOf (fun i => st.now (fr.toNat + i)) N size.toNat else none
/-- So many parts, written one behind the other. -/
def layAll (N : Int) (s : ByteArray) (f : Nat) : Nat → Nat → St → Int × St
  | _, 0, st => (0, st)
  | i, k + 1, st => if (st.write ((f + i : Nat) : Int) (secB N ((i : Nat) : Int) (partS s i))).1 = 0 then layAll N s f (i + 1) k (st.write ((f + i : Nat) : Int) (secB N ((i : Nat) : Int) (partS s i))).2
    else st.write ((f + i : Nat) : Int) (secB N ((i : Nat) : Int) (partS s i))
def layPlace (st : St) (fr upto N : Int) : Bool := decide (1 ≤ N) && decide (N ≤ 1152921504606846976) && decide (0 ≤ fr) && decide (fr ≤ upto) && decide (upto ≤ ((st.safe.length : Nat) : Int))
def St.lay (st : St) (fr upto N : Int) (s : ByteArray) : Int × St :=
  if layPlace st fr upto N = true then (if upto - fr < ((countN s.size : Nat) : Int) then (3, st) else layAll N s fr.toNat 0 (countN s.size) st) else (1, st)
def St.great (st : St) : Int := greatN st.now st.safe.length
/-- There is room for so many writes. -/
structure St.Room (st : St) (n : Nat) : Prop where
  safe : ∀ s ∈ st.safe, s.size = 128
  data : ∀ w ∈ st.later, w.2.size = 128 ∧ w.1 < st.safe.length
  many : st.safe.length ≤ 4096
  few : st.later.length + n ≤ 1000
  ops : 0 ≤ st.ops ∧ st.ops + n ≤ 1000000
  arm : -1000000 + (n : Int) ≤ st.arm ∧ st.arm ≤ 9223372036854775807
theorem St.Room.less {st : St} {n m : Nat} (h : st.Room n) (hm : m ≤ n) : st.Room m :=
  ⟨h.safe, h.data, h.many, by have := h.few; omega, by have := h.ops; omega, by have := h.arm; omega⟩
theorem St.Room.ok {st : St} {n : Nat} (h : st.Room n) : st.Ok where
  safe := h.safe
  data := h.data
  many := h.many
  few := by have := h.few; omega
  ops := by have := h.ops; omega
  arm := by have := h.arm; omega
theorem St.Room.write {st : St} {n : Nat} (h : st.Room (n + 1)) (i : Int) (s : ByteArray) : (st.write i s).2.Room n := by
  have h1 := h.few
  have h2 := h.ops
  have h3 := h.arm
  have ht : st.tried.Room n := ⟨h.safe, h.data, h.many, by show st.later.length + n ≤ _; omega, by show 0 ≤ st.ops + 1 ∧ st.ops + 1 + n ≤ _; omega, by show _ ≤ st.arm - 1 ∧ st.arm - 1 ≤ _; omega⟩
  unfold St.write
  by_cases hg : st.goodW i s = true
  · rw [if_pos hg]
    split
    · exact ht
    · refine ⟨h.safe, fun w hw => ?_, h.many, ?_, ht.ops, ht.arm⟩
      · rcases List.mem_append.mp hw with hw | hw
        · exact h.data w hw
        · rw [List.mem_singleton.mp hw]
          unfold St.goodW at hg
          simp only [Bool.and_eq_true, decide_eq_true_eq] at hg
          exact ⟨padB_size _ hg.2, by show i.toNat < st.safe.length; have := hg.1; omega⟩
      · show (st.later ++ [(i.toNat, padB s)]).length + n ≤ _
        rw [List.length_append, List.length_singleton]; omega
  · rw [if_neg hg]
    show St.Room st n
    exact ⟨h.safe, h.data, h.many, by omega, by omega, by omega⟩
theorem padB_whole {s : ByteArray} (h : s.size = 128) : padB s = s := by
  unfold padB
  rw [h]
  have e : (zerosB 128).extract 128 128 = ByteArray.empty := ByteArray.extract_eq_empty_iff.mpr (by omega)
  rw [e, ByteArray.append_empty]
/-- The writes of a text's parts. -/
def layW (N : Int) (s : ByteArray) (f i k : Nat) : List (Nat × ByteArray) := (List.range k).map fun j => (f + (i + j), secB N (((i + j : Nat)) : Int) (partS s (i + j)))
theorem layW_cons (N : Int) (s : ByteArray) (f i k : Nat) : layW N s f i (k + 1) = (f + i, secB N ((i : Nat) : Int) (partS s i)) :: layW N s f (i + 1) k := by
  unfold layW
  rw [List.range_succ_eq_map, List.map_cons, List.map_map]
  congr 1
  apply List.map_congr_left
  intro j _
  show (f + (i + (j + 1)), secB N (((i + (j + 1) : Nat)) : Int) (partS s (i + (j + 1)))) = (f + (i + 1 + j), secB N (((i + 1 + j : Nat)) : Int) (partS s (i + 1 + j)))
  rw [show i + (j + 1) = i + 1 + j by omega]
theorem fails_calm {st : St} (h : st.arm ≤ 0) : st.fails = false := by unfold St.fails; rw [decide_eq_false]; omega
/-- Where nothing is armed all is laid. -/
theorem layAll_calm (N : Int) (s : ByteArray) (f : Nat) : ∀ (k i : Nat) (st : St), st.arm ≤ 0 → f + i + k ≤ st.safe.length →
    layAll N s f i k st = (0, { st with later := st.later ++ layW N s f i k, ops := st.ops + k, arm := st.arm - k })
  | 0, i, st, _, _ => by
    show ((0 : Int), st) = _
    have e : st.later ++ layW N s f i 0 = st.later := List.append_nil _
    rw [e, Int.natCast_zero, Int.add_zero, Int.sub_zero]
  | k + 1, i, st, ha, hl => by
    have hsz := secB_size (N := N) (I := ((i : Nat) : Int)) (partS_le s i)
    have hw : st.write ((f + i : Nat) : Int) (secB N ((i : Nat) : Int) (partS s i)) = (0, { st.tried with later := st.later ++ [(f + i, secB N ((i : Nat) : Int) (partS s i))] }) := by
      unfold St.write
      have hg : st.goodW ((f + i : Nat) : Int) (secB N ((i : Nat) : Int) (partS s i)) = true := by
        unfold St.goodW
        rw [decide_eq_true (by omega), decide_eq_true (by omega), decide_eq_true (by omega)]; rfl
      rw [if_pos hg, fails_calm ha, if_neg (by decide), Int.toNat_natCast, padB_whole hsz]
    rw [layAll, hw]
    dsimp only
    rw [if_pos rfl, layAll_calm N s f k (i + 1) _ (by show st.arm - 1 ≤ 0; omega) (by show f + (i + 1) + k ≤ st.safe.length; omega), layW_cons]
    show ((0 : Int), _) = _
    congr 1
    show St.mk st.safe ((st.later ++ [(f + i, secB N ((i : Nat) : Int) (partS s i))]) ++ layW N s f (i + 1) k) (st.ops + 1 + k) (st.arm - 1 - k) = St.mk st.safe _ _ _
    congr 1
    · rw [List.append_assoc]; rfl
    · omega
    · omega
end Go.Proofs.Ytgolddcmhjdmdaa
