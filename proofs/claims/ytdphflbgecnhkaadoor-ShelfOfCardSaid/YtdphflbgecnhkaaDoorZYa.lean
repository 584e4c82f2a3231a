/- Stage 26: places, their names and their texts. Plain: no program, no condition. -/
import Derived.Test.YtdphflbgecnhkaaDoorZYv
import Derived.Test.YtdphflbgecnhkaaDoorZPm
import Derived.Test.YtdphflbgecnhkaaDoorZAa
namespace Go.Proofs.YtdphflbgecnhkaaDoor
open Go Go.RowKit Wm

/-- Is a byte one of a name's signs? -/
def signB (c : UInt8) : Bool := (decide (65 ≤ c.toNat) && decide (c.toNat ≤ 90)) || (decide (48 ≤ c.toNat) && decide (c.toNat ≤ 57)) || decide (c.toNat = 45)
/-- Is a text a name? -/
def nameB (s : ByteArray) (m : Nat) : Bool := decide (0 < s.size ∧ s.size ≤ m) && s.data.toList.all signB
/-- Can a place be? -/
def goodPl (p : Place) : Bool := nameB p.Good 10 && nameB p.Site 4 && decide (0 ≤ p.State ∧ p.State ≤ 2)
def fillB (s : ByteArray) (n : Nat) : ByteArray := s ++ zerosB (n - s.size)
def tailB (st : Int) : ByteArray := ⟨#[UInt8.ofNat st.toNat, 1]⟩
/-- A place's sixteen bytes. -/
def plcB (p : Place) : ByteArray := fillB p.Good 10 ++ fillB p.Site 4 ++ tailB p.State
/-- Its account's name. -/
def idPl (p : Place) : Nat := if goodPl p = true then valL (bytesN (plcB p)) else 0
/-- No place. -/
def noPl : Place := ⟨ByteArray.empty, ByteArray.empty, 0⟩
def atB : ByteArray := ⟨#[64]⟩
/-- A place's text. -/
def showPl (p : Place) : ByteArray := if goodPl p = true then p.Good ++ atB ++ p.Site else ByteArray.empty
theorem sign_nonzero {c : UInt8} (h : signB c = true) : (c != 0) = true := by
  unfold signB at h
  rw [bne_iff_ne]
  rintro rfl
  revert h
  decide
theorem nameB_iff (s : ByteArray) (m : Nat) : nameB s m = true ↔ (0 < s.size ∧ s.size ≤ m) ∧ ∀ c ∈ s.data.toList, signB c = true := by
  unfold nameB
  rw [Bool.and_eq_true, decide_eq_true_iff, List.all_eq_true]
theorem goodPl_iff (p : Place) : goodPl p = true ↔ nameB p.Good 10 = true ∧ nameB p.Site 4 = true ∧ 0 ≤ p.State ∧ p.State ≤ 2 := by
  unfold goodPl
  rw [Bool.and_eq_true, Bool.and_eq_true, decide_eq_true_iff, and_assoc]
theorem fillB_size {s : ByteArray} {n : Nat} (h : s.size ≤ n) : (fillB s n).size = n := by
  unfold fillB
  rw [ByteArray.size_append, zerosB_size]
  omega
/-- What stands ahead of the noughts. -/
theorem fillB_take {s : ByteArray} {n : Nat} (h : ∀ c ∈ s.data.toList, signB c = true) : (fillB s n).data.toList.takeWhile (· != 0) = s.data.toList := by
  unfold fillB zerosB
  rw [ByteArray.data_append, Array.toList_append, List.takeWhile_append_of_pos (fun c hc => sign_nonzero (h c hc))]
  have : ∀ k : Nat, (List.replicate k (0 : UInt8)).takeWhile (· != 0) = [] := fun k => by cases k <;> rfl
  rw [this, List.append_nil]
theorem bytes_ext {s t : ByteArray} (h : s.data.toList = t.data.toList) : s = t := ByteArray.ext (Array.toList_inj.mp h)
theorem fillB_inj {s t : ByteArray} {n : Nat} (hs : ∀ c ∈ s.data.toList, signB c = true) (ht : ∀ c ∈ t.data.toList, signB c = true) (h : fillB s n = fillB t n) : s = t := by
  apply bytes_ext
  rw [← fillB_take (n := n) hs, ← fillB_take (n := n) ht, h]
theorem plcB_size {p : Place} (h : goodPl p = true) : (plcB p).size = 16 := by
  obtain ⟨h1, h2, -⟩ := (goodPl_iff p).1 h
  unfold plcB
  rw [ByteArray.size_append, ByteArray.size_append, fillB_size ((nameB_iff _ _).1 h1).1.2, fillB_size ((nameB_iff _ _).1 h2).1.2]
  rfl
theorem plcB_parts {p : Place} (h : goodPl p = true) : (plcB p).extract 0 10 = fillB p.Good 10 ∧ (plcB p).extract 10 14 = fillB p.Site 4 ∧ (plcB p).extract 14 16 = tailB p.State := by
  obtain ⟨h1, h2, -⟩ := (goodPl_iff p).1 h
  have z1 := fillB_size ((nameB_iff _ _).1 h1).1.2
  have z2 := fillB_size ((nameB_iff _ _).1 h2).1.2
  have z3 : (tailB p.State).size = 2 := rfl
  unfold plcB
  refine ⟨part_at _ ByteArray.empty _ (fillB p.Site 4 ++ tailB p.State) _ _ ?_ rfl (by rw [z1]), part_at _ (fillB p.Good 10) _ (tailB p.State) _ _ ?_ (by rw [z1]) (by rw [z2]), part_at _ (fillB p.Good 10 ++ fillB p.Site 4) _ ByteArray.empty _ _ ?_ (by rw [ByteArray.size_append, z1, z2]) (by rw [z3])⟩
  · rw [ByteArray.empty_append, ByteArray.append_assoc]
  · rw [ByteArray.append_assoc]
  · rw [ByteArray.append_empty]
theorem tailB_inj {a b : Int} (ha : 0 ≤ a ∧ a ≤ 2) (hb : 0 ≤ b ∧ b ≤ 2) (h : tailB a = tailB b) : a = b := by
  have e := congrArg (fun s : ByteArray => (s.data.toList.map UInt8.toNat).head?) h
  have e2 : (UInt8.ofNat a.toNat).toNat = (UInt8.ofNat b.toNat).toNat := by simpa [tailB] using e
  rw [UInt8.toNat_ofNat_of_lt' (by show a.toNat < 256; omega), UInt8.toNat_ofNat_of_lt' (by show b.toNat < 256; omega)] at e2
  omega
theorem Place.same {p q : Place} (h1 : p.Good = q.Good) (h2 : p.Site = q.Site) (h3 : p.State = q.State) : p = q := by
  cases p; cases q
  dsimp only at *
  subst h1 h2 h3
  rfl
/-- Unlike places have unlike bytes. -/
theorem plcB_inj {p q : Place} (hp : goodPl p = true) (hq : goodPl q = true) (h : plcB p = plcB q) : p = q := by
  obtain ⟨p1, p2, p3⟩ := plcB_parts hp
  obtain ⟨q1, q2, q3⟩ := plcB_parts hq
  obtain ⟨a1, a2, a3⟩ := (goodPl_iff p).1 hp
  obtain ⟨b1, b2, b3⟩ := (goodPl_iff q).1 hq
  rw [h] at p1 p2 p3
  exact Place.same (fillB_inj ((nameB_iff _ _).1 a1).2 ((nameB_iff _ _).1 b1).2 (p1.symm.trans q1)) (fillB_inj ((nameB_iff _ _).1 a2).2 ((nameB_iff _ _).1 b2).2 (p2.symm.trans q2)) (tailB_inj a3 b3 (p3.symm.trans q3))
theorem num16_lt (x : ByteArray) (h : x.size = 16) : valL (bytesN x) < big := by
  have h1 := valL_lt (bytesN x) (bytesN_lt _)
  rw [bytesN_length, h] at h1
  rw [big_eq]
  exact h1
theorem idPl_lt (p : Place) : idPl p < big := by
  unfold idPl
  by_cases h : goodPl p = true
  · rw [if_pos h]; exact num16_lt _ (plcB_size h)
  · rw [if_neg h, big_eq]; omega
theorem idPl_bytes {p : Place} (h : goodPl p = true) : numB (idPl p) = plcB p := by
  unfold idPl
  rw [if_pos h, numB_valL _ (plcB_size h)]
open Classical in
/-- The place whose name a number is. -/
noncomputable def ofPl (n : Nat) : Option Place := if h : ∃ p, goodPl p = true ∧ plcB p = numB n then some h.choose else none
theorem ofPl_some {n : Nat} {p : Place} (h : ofPl n = some p) : goodPl p = true ∧ plcB p = numB n := by
  unfold ofPl at h
  by_cases c : ∃ p, goodPl p = true ∧ plcB p = numB n
  · rw [dif_pos c] at h
    cases h
    exact c.choose_spec
  · rw [dif_neg c] at h
    cases h
theorem ofPl_of {n : Nat} {p : Place} (h : goodPl p = true) (hb : plcB p = numB n) : ofPl n = some p := by
  have c : ∃ p, goodPl p = true ∧ plcB p = numB n := ⟨p, h, hb⟩
  unfold ofPl
  rw [dif_pos c]
  exact congrArg some (plcB_inj c.choose_spec.1 h (c.choose_spec.2.trans hb.symm))
theorem ofPl_id {p : Place} (h : goodPl p = true) : ofPl (idPl p) = some p := ofPl_of h (idPl_bytes h).symm
/-- A place as a value. -/
def placeV (p : Place) : Value := .agg p.cells.toArray
/-- What the walks of stage 26's laws ask of the landed package; what the world must keep for it is Mo. -/
structure LandedSh (Mo : World → Prop) : Prop where
  later : ∀ W W', Mo W → Below W.heap.size W W' → Mo W'
  good : ∀ (p : Place) W, p.Wf → Mo W → Calls Tryd.prog 8 #[placeV p] W fun e W' => e = .returned (.bool (goodPl p)) ∧ Below W.heap.size W W'
  id : ∀ (p : Place) W, p.Wf → Mo W → Calls Tryd.prog 7 #[placeV p] W fun e W' => e = .returned (.tuple #[numV (idPl p), .int .i64 (if goodPl p = true then 0 else 1)]) ∧ Below W.heap.size W W'
  of : ∀ (n : Nat) W, n < big → Mo W → Calls Tryd.prog 10 #[numV n] W fun e W' => e = .returned (.tuple #[placeV ((ofPl n).getD noPl), .bool (ofPl n).isSome]) ∧ Below W.heap.size W W'
  shows : ∀ (p : Place) W, p.Wf → Mo W → Calls Tryd.prog 13 #[placeV p] W fun e W' => e = .returned (.string (showPl p)) ∧ Below W.heap.size W W'
end Go.Proofs.YtdphflbgecnhkaaDoor
