/- Stage 26: places, their names and their texts. Plain: no program, no condition. -/
import Derived.Test.YtdphflbgecnhkaaZYv
import Derived.Test.YtdphflbgecnhkaaZPm
import Derived.Test.YtdphflbgecnhkaaZAb
namespace Go.Proofs.Ytdphflbgecnhkaa
open Go Go.RowKit Wm

/-- Is a byte one of a name's signs? -/
def signB (c : UInt8) : Bool := (decide (65 ≤ c.toNat) && decide (c.toNat ≤ 90)) || (decide (48 ≤ c.toNat) && decide (c.toNat ≤ 57)) || decide (c.toNat = 45)
/-- Is a text a name? -/
def nameB (s : ByteArray) (m : Nat) : Bool := decide (0 < s.size ∧ s.size ≤ m) && s.data.toList.all signB
/-- Can a place be? -/
def goodPl (p : Place) : Bool := nameB p.Good 10 && nameB p.Site 4 && decide (0 ≤ p.State ∧ p.State ≤ 2)
def fillB (s : ByteArray) (n : Nat) : ByteArray := s ++ zerosB (n - s.size)
def tailB (st : Int) : ByteArray := ⟨#[UInt8.ofNat st.toNat, 1]⟩
/-- A place's sixteen bytes. -/
def plcB (p : Place) : ByteArray := fillB p.Good 10 ++ fillB p.Site 4 ++ tailB p.State
/-- Its account's name. -/
def idPl (p : Place) : Nat := if goodPl p = true then valL (bytesN (plcB p)) else 0
/-- No place. -/
def noPl : Place := ⟨ByteArray.empty, ByteArray.empty, 0⟩
def atB : ByteArray := ⟨#[64]⟩
/-- A place's text. -/
def showPl (p : Place) : ByteArray := if goodPl p = true then p.Good ++ atB ++ p.Site else ByteArray.empty
theorem sign_nonzero {c : UInt8} (h : signB c = true) : (c != 0) = true := by
  unfold signB at h
  rw [bne_iff_ne]
  rintro rfl
  revert h
  decide
theorem sign_noat {c : UInt8} (h : signB c = true) : (c != 64) = true := by
  unfold signB at h
  rw [bne_iff_ne]
  rintro rfl
  revert h
  decide
theorem nameB_iff (s : ByteArray) (m : Nat) : nameB s m = true ↔ (0 < s.size ∧ s.size ≤ m) ∧ ∀ c ∈ s.data.toList, signB c = true := by
  unfold nameB
  rw [Bool.and_eq_true, decide_eq_true_iff, List.all_eq_true]
theorem goodPl_iff (p : Place) : goodPl p = true ↔ nameB p.Good 10 = true ∧ nameB p.Site 4 = true ∧ 0 ≤ p.State ∧ p.State ≤ 2 := by
  unfold goodPl
  rw [Bool.and_eq_true, Bool.and_eq_true, decide_eq_true_iff, and_assoc]
theorem fillB_size {s : ByteArray} {n : Nat} (h : s.size ≤ n) : (fillB s n).size = n := by
  unfold fillB
  rw [ByteArray.size_append, zerosB_size]
  omega
/-- What stands ahead of the noughts. -/
theorem fillB_take {s : ByteArray} {n : Nat} (h : ∀ c ∈ s.data.toList, signB c = true) : (fillB s n).data.toList.takeWhile (· != 0) = s.data.toList := by
  unfold fillB zerosB
  rw [ByteArray.data_append, Array.toList_append, List.takeWhile_append_of_pos (fun c hc => sign_nonzero (h c hc))]
  have : ∀ k : Nat, (List.replicate k (0 : UInt8)).takeWhile (· != 0) = [] := fun k => by cases k <;> rfl
  rw [this, List.append_nil]
theorem bytes_ext {s t : ByteArray} (h : s.data.toList = t.data.toList) : s = t := ByteArray.ext (Array.toList_inj.mp h)
theorem fillB_inj {s t : ByteArray} {n : Nat} (hs : ∀ c ∈ s.data.toList, signB c = true) (ht : ∀ c ∈ t.data.toList, signB c = true) (h : fillB s n = fillB t n) : s = t := by
  apply bytes_ext
  rw [← fillB_take (n := n) hs, ← fillB_take (n := n) ht, h]
theorem plcB_size {p : Place} (h : goodPl p = true) : (plcB p).size = 16 := by
  obtain ⟨h1, h2, -⟩ := (goodPl_iff p).1 h
  unfold plcB
  rw [ByteArray.size_append, ByteArray.size_append, fillB_size ((nameB_iff _ _).1 h1).1.2, fillB_size ((nameB_iff _ _).1 h2).1.2]
  rfl
theorem plcB_parts {p : Place} (h : goodPl p = true) : (plcB p).extract 0 10 = fillB p.Good 10 ∧ (plcB p).extract 10 14 = fillB p.Site 4 ∧ (plcB p).extract 14 16 = tailB p.State := by
  obtain ⟨h1, h2, -⟩ := (goodPl_iff p).1 h
  have z1 := fillB_size ((nameB_iff _ _).1 h1).1.2
  have z2 := fillB_size ((nameB_iff _ _).1 h2).1.2
  have z3 : (tailB p.State).size = 2 := rfl
  unfold plcB
  refine ⟨part_at _ ByteArray.empty _ (fillB p.Site 4 ++ tailB p.State) _ _ ?_ rfl (by rw [z1]), part_at _ (fillB p.Good 10) _ (tailB p.State) _ _ ?_ (by rw [z1]) (by rw [z2]), part_at _ (fillB p.Good 10 ++ fillB p.Site 4) _ ByteArray.empty _ _ ?_ (by rw [ByteArray.size_append, z1, z2]) (by rw [z3])⟩
  · rw [ByteArray.empty_append, ByteArray.append_assoc]
  · rw [ByteArray.append_assoc]
  · rw [ByteArray.append_empty]
theorem tailB_inj {a b : Int} (ha : 0 ≤ a ∧ a ≤ 2) (hb : 0 ≤ b ∧ b ≤ 2) (h : tailB a = tailB b) : a = b := by
  have e := congrArg (fun s : ByteArray => (s.data.toList.map UInt8.toNat).head?) h
  have e2 : (UInt8.ofNat a.toNat).toNat = (UInt8.ofNat b.toNat).toNat := by simpa [tailB] using e
  rw [UInt8.toNat_ofNat_of_lt' (by show a.toNat < 256; omega), UInt8.toNat_ofNat_of_lt' (by show b.toNat < 256; omega)] at e2
  omega
theorem Place.same {p q : Place} (h1 : p.Good = q.Good) (h2 : p.Site = q.Site) (h3 : p.State = q.State) : p = q := by
  cases p; cases q
  dsimp only at *
  subst h1 h2 h3
  rfl
/-- Unlike places have unlike bytes. -/
theorem plcB_inj {p q : Place} (hp : goodPl p = true) (hq : goodPl q = true) (h : plcB p = plcB q) : p = q := by
  obtain ⟨p1, p2, p3⟩ := plcB_parts hp
  obtain ⟨q1, q2, q3⟩ := plcB_parts hq
  obtain ⟨a1, a2, a3⟩ := (goodPl_iff p).1 hp
  obtain ⟨b1, b2, b3⟩ := (goodPl_iff q).1 hq
  rw [h] at p1 p2 p3
  exact Place.same (fillB_inj ((nameB_iff _ _).1 a1).2 ((nameB_iff _ _).1 b1).2 (p1.symm.trans q1)) (fillB_inj ((nameB_iff _ _).1 a2).2 ((nameB_iff _ _).1 b2).2 (p2.symm.trans q2)) (tailB_inj a3 b3 (p3.symm.trans q3))
theorem num16_lt (x : ByteArray) (h : x.size = 16) : valL (bytesN x) < big := by
  have h1 := valL_lt (bytesN x) (bytesN_lt _)
  rw [bytesN_length, h] at h1
  rw [big_eq]
  exact h1
theorem idPl_lt (p : Place) : idPl p < big := by
  unfold idPl
  by_cases h : goodPl p = true
  · rw [if_pos h]; exact num16_lt _ (plcB_size h)
  · rw [if_neg h, big_eq]; omega
theorem idPl_bytes {p : Place} (h : goodPl p = true) : numB (idPl p) = plcB p := by
  unfold idPl
  rw [if_pos h, numB_valL _ (plcB_size h)]
theorem idPl_inj {p q : Place} (hp : goodPl p = true) (hq : goodPl q = true) (h : idPl p = idPl q) : p = q :=
  plcB_inj hp hq (by rw [← idPl_bytes hp, ← idPl_bytes hq, h])
open Classical in
/-- The place that a text and a state tell. -/
noncomputable def parsePl (s : ByteArray) (st : Int) : Option Place := if h : ∃ p, goodPl p = true ∧ showPl p = s ∧ p.State = st then some h.choose else none
theorem show_good {p : Place} (h : goodPl p = true) : showPl p = p.Good ++ atB ++ p.Site := by unfold showPl; rw [if_pos h]
theorem show_inj {p q : Place} (hp : goodPl p = true) (hq : goodPl q = true) (h : showPl p = showPl q) (hs : p.State = q.State) : p = q := by
  rw [show_good hp, show_good hq] at h
  obtain ⟨a1, a2, a3⟩ := (goodPl_iff p).1 hp
  obtain ⟨b1, b2, b3⟩ := (goodPl_iff q).1 hq
  have key : ∀ (a b : ByteArray), (∀ c ∈ a.data.toList, signB c = true) → ((a ++ atB ++ b).data.toList.takeWhile (· != 64) = a.data.toList ∧ (a ++ atB ++ b).data.toList.dropWhile (· != 64) = 64 :: b.data.toList) := by
    intro a b ha
    have e : (a ++ atB ++ b).data.toList = a.data.toList ++ (64 :: b.data.toList) := by
      rw [ByteArray.data_append, ByteArray.data_append, Array.toList_append, Array.toList_append, List.append_assoc]
      rfl
    rw [e, List.takeWhile_append_of_pos (fun c hc => sign_noat (ha c hc)), List.dropWhile_append_of_pos (fun c hc => sign_noat (ha c hc))]
    have t1 : (64 :: b.data.toList).takeWhile (· != (64 : UInt8)) = [] := rfl
    have t2 : (64 :: b.data.toList).dropWhile (· != (64 : UInt8)) = 64 :: b.data.toList := rfl
    rw [t1, t2, List.append_nil]
    exact ⟨rfl, rfl⟩
  obtain ⟨k1, k2⟩ := key p.Good p.Site ((nameB_iff _ _).1 a1).2
  obtain ⟨m1, m2⟩ := key q.Good q.Site ((nameB_iff _ _).1 b1).2
  rw [h] at k1 k2
  refine Place.same (bytes_ext (k1.symm.trans m1)) (bytes_ext ?_) hs
  have e := k2.symm.trans m2
  injection e
theorem parsePl_of {s : ByteArray} {st : Int} {p : Place} (h : goodPl p = true) (hb : showPl p = s) (hs : p.State = st) : parsePl s st = some p := by
  have c : ∃ p, goodPl p = true ∧ showPl p = s ∧ p.State = st := ⟨p, h, hb, hs⟩
  unfold parsePl
  rw [dif_pos c]
  exact congrArg some (show_inj c.choose_spec.1 h (c.choose_spec.2.1.trans hb.symm) (c.choose_spec.2.2.trans hs.symm))
theorem parsePl_none {s : ByteArray} {st : Int} (h : ¬ ∃ p, goodPl p = true ∧ showPl p = s ∧ p.State = st) : parsePl s st = none := by
  unfold parsePl
  rw [dif_neg h]
/-- A place as a value. -/
def placeV (p : Place) : Value := .agg p.cells.toArray
/-- What the walks of stage 26's laws ask of the landed package; what the world must keep for it is Mo. -/
structure LandedSh (Mo : World → Prop) : Prop where
  later : ∀ W W', Mo W → Below W.heap.size W W' → Mo W'
  good : ∀ (p : Place) W, p.Wf → Mo W → Calls Try.prog 12 #[placeV p] W fun e W' => e = .returned (.bool (goodPl p)) ∧ Below W.heap.size W W'
  id : ∀ (p : Place) W, p.Wf → Mo W → Calls Try.prog 9 #[placeV p] W fun e W' => e = .returned (.tuple #[numV (idPl p), .int .i64 (if goodPl p = true then 0 else 1)]) ∧ Below W.heap.size W W'
  parse : ∀ (s : ByteArray) (st : Int) W, s.size ≤ 140737488351232 → -9223372036854775808 ≤ st ∧ st ≤ 9223372036854775807 → Mo W → Calls Try.prog 6 #[.string s, .int .i64 st] W fun e W' => e = .returned (.tuple #[placeV ((parsePl s st).getD noPl), .int .i64 (if (parsePl s st).isSome = true then 0 else 4)]) ∧ Below W.heap.size W W'
  shows : ∀ (p : Place) W, p.Wf → Mo W → Calls Try.prog 8 #[placeV p] W fun e W' => e = .returned (.string (showPl p)) ∧ Below W.heap.size W W'
end Go.Proofs.Ytdphflbgecnhkaa
