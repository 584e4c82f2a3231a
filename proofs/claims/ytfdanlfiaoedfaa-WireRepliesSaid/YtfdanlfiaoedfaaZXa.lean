/- Stage 10: what is wrong with a transfer, its kinds, its bytes, whether it is there again. Plain: no program, no condition. -/
import Derived.Test.YtfdanlfiaoedfaaZXv
import Derived.Test.YtfdanlfiaoedfaaZAa
namespace Go.Proofs.Ytfdanlfiaoedfaa
open Go Go.RowKit Wm Cr

/-- Has it bytes? -/
def goodT (a : Tran) : Bool := decide ((0 ≤ a.Timeout ∧ a.Timeout < 4294967296) ∧ (0 ≤ a.Ledger ∧ a.Ledger < 4294967296) ∧ (0 ≤ a.Code ∧ a.Code < 65536) ∧ 0 ≤ a.Flags ∧ a.Flags < 65536)
/-- Its bytes. -/
def traB (a : Tran) : ByteArray :=
  numB a.Id ++ numB a.Debit ++ numB a.Credit ++ numB a.Amount ++ numB a.Pending ++ intB 4 a.Timeout ++ intB 4 a.Ledger ++ intB 2 a.Code ++ intB 2 a.Flags ++ intB 8 a.Stamp ++ intB 8 a.Born
/-- An empty one. -/
def zeroT : Tran := ⟨0, 0, 0, 0, 0, 0, 0, 0, 0, 0, 0⟩
/-- The one that is put. -/
def wantT (a : Tran) : Tran := if goodT a = true then a else zeroT
theorem traB_size (a : Tran) : (traB a).size = 108 := by
  unfold traB
  simp only [ByteArray.size_append, numB_size, intB_size]
  decide
/-- The transfer whose bytes come first. -/
def tranOf (s : ByteArray) : Tran :=
  ⟨valL (bytesN (s.extract 0 16)), valL (bytesN (s.extract 16 32)), valL (bytesN (s.extract 32 48)), valL (bytesN (s.extract 48 64)), valL (bytesN (s.extract 64 80)), backZ (s.extract 80 84), backZ (s.extract 84 88), backZ (s.extract 88 90), backZ (s.extract 90 92), backZ (s.extract 92 100), backZ (s.extract 100 108)⟩
/-- What is taken: of a reader that is torn, or has too little, an empty one. -/
def takeT : Option ByteArray → Tran
  | some s => if 108 ≤ s.size then tranOf s else zeroT
  | none => zeroT
def restT : Option ByteArray → Option ByteArray
  | some s => if 108 ≤ s.size then some (s.extract 108 s.size) else none
  | none => none
/-- A transfer as a value. -/
def tranV (a : Tran) : Value := .agg a.cells.toArray
theorem zeroT_wf : zeroT.Wf := by
  have h : (0 : Nat) < big := by rw [big_eq]; omega
  refine ⟨h, h, h, h, h, ?_, ?_, ?_, ?_, ?_, ?_⟩ <;> (unfold zeroT; constructor <;> decide)
theorem wantT_wf {a : Tran} (h : a.Wf) : (wantT a).Wf := by
  unfold wantT
  split
  · exact h
  · exact zeroT_wf
theorem goodT_iff (a : Tran) : goodT a = true ↔ (0 ≤ a.Timeout ∧ a.Timeout < 4294967296) ∧ (0 ≤ a.Ledger ∧ a.Ledger < 4294967296) ∧ (0 ≤ a.Code ∧ a.Code < 65536) ∧ 0 ≤ a.Flags ∧ a.Flags < 65536 := decide_eq_true_iff
theorem wantT_good (a : Tran) : goodT (wantT a) = true := by
  unfold wantT
  split
  · assumption
  · decide
theorem tranOf_cut (s more : ByteArray) (h : 108 ≤ s.size) : tranOf (s ++ more) = tranOf s := by
  unfold tranOf
  rw [cut_left _ _ _ _ (by omega), cut_left _ _ _ _ (by omega), cut_left _ _ _ _ (by omega), cut_left _ _ _ _ (by omega), cut_left _ _ _ _ (by omega), cut_left _ _ _ _ (by omega), cut_left _ _ _ _ (by omega), cut_left _ _ _ _ (by omega), cut_left _ _ _ _ (by omega), cut_left _ _ _ _ (by omega), cut_left _ _ _ _ (by omega)]
/-- What is put is taken. -/
theorem tranOf_traB (a : Tran) (hw : a.Wf) (hg : goodT a = true) : tranOf (traB a) = a := by
  obtain ⟨⟨t0, t1⟩, ⟨l0, l1⟩, ⟨c0, c1⟩, f0, f1⟩ := (goodT_iff a).1 hg
  have n16 : ∀ n, (numB n).size = 16 := numB_size
  have s4 : ∀ n, (intB 4 n).size = 4 := fun n => by rw [intB_size]; rfl
  have s2 : ∀ n, (intB 2 n).size = 2 := fun n => by rw [intB_size]; rfl
  have s8 : ∀ n, (intB 8 n).size = 8 := fun n => by rw [intB_size]; rfl
  have e0 : (traB a).extract 0 16 = numB a.Id := part_at _ ByteArray.empty _ (numB a.Debit ++ (numB a.Credit ++ (numB a.Amount ++ (numB a.Pending ++ (intB 4 a.Timeout ++ (intB 4 a.Ledger ++ (intB 2 a.Code ++ (intB 2 a.Flags ++ (intB 8 a.Stamp ++ intB 8 a.Born))))))))) _ _ (by unfold traB; simp only [ByteArray.append_assoc, ByteArray.empty_append]) rfl (by rw [n16])
  have e1 : (traB a).extract 16 32 = numB a.Debit := part_at _ (numB a.Id) _ (numB a.Credit ++ (numB a.Amount ++ (numB a.Pending ++ (intB 4 a.Timeout ++ (intB 4 a.Ledger ++ (intB 2 a.Code ++ (intB 2 a.Flags ++ (intB 8 a.Stamp ++ intB 8 a.Born)))))))) _ _ (by unfold traB; simp only [ByteArray.append_assoc]) (by simp only [n16]) (by rw [n16])
  have e2 : (traB a).extract 32 48 = numB a.Credit := part_at _ (numB a.Id ++ numB a.Debit) _ (numB a.Amount ++ (numB a.Pending ++ (intB 4 a.Timeout ++ (intB 4 a.Ledger ++ (intB 2 a.Code ++ (intB 2 a.Flags ++ (intB 8 a.Stamp ++ intB 8 a.Born))))))) _ _ (by unfold traB; simp only [ByteArray.append_assoc]) (by simp only [ByteArray.size_append, n16]) (by rw [n16])
  have e3 : (traB a).extract 48 64 = numB a.Amount := part_at _ (numB a.Id ++ numB a.Debit ++ numB a.Credit) _ (numB a.Pending ++ (intB 4 a.Timeout ++ (intB 4 a.Ledger ++ (intB 2 a.Code ++ (intB 2 a.Flags ++ (intB 8 a.Stamp ++ intB 8 a.Born)))))) _ _ (by unfold traB; simp only [ByteArray.append_assoc]) (by simp only [ByteArray.size_append, n16]) (by rw [n16])
  have e4 : (traB a).extract 64 80 = numB a.Pending := part_at _ (numB a.Id ++ numB a.Debit ++ numB a.Credit ++ numB a.Amount) _ (intB 4 a.Timeout ++ (intB 4 a.Ledger ++ (intB 2 a.Code ++ (intB 2 a.Flags ++ (intB 8 a.Stamp ++ intB 8 a.Born))))) _ _ (by unfold traB; simp only [ByteArray.append_assoc]) (by simp only [ByteArray.size_append, n16]) (by rw [n16])
  have e5 : (traB a).extract 80 84 = intB 4 a.Timeout := part_at _ (numB a.Id ++ numB a.Debit ++ numB a.Credit ++ numB a.Amount ++ numB a.Pending) _ (intB 4 a.Ledger ++ (intB 2 a.Code ++ (intB 2 a.Flags ++ (intB 8 a.Stamp ++ intB 8 a.Born)))) _ _ (by unfold traB; simp only [ByteArray.append_assoc]) (by simp only [ByteArray.size_append, n16]) (by rw [s4])
  have e6 : (traB a).extract 84 88 = intB 4 a.Ledger := part_at _ (numB a.Id ++ numB a.Debit ++ numB a.Credit ++ numB a.Amount ++ numB a.Pending ++ intB 4 a.Timeout) _ (intB 2 a.Code ++ (intB 2 a.Flags ++ (intB 8 a.Stamp ++ intB 8 a.Born))) _ _ (by unfold traB; simp only [ByteArray.append_assoc]) (by simp only [ByteArray.size_append, n16, s4]) (by rw [s4])
  have e7 : (traB a).extract 88 90 = intB 2 a.Code := part_at _ (numB a.Id ++ numB a.Debit ++ numB a.Credit ++ numB a.Amount ++ numB a.Pending ++ intB 4 a.Timeout ++ intB 4 a.Ledger) _ (intB 2 a.Flags ++ (intB 8 a.Stamp ++ intB 8 a.Born)) _ _ (by unfold traB; simp only [ByteArray.append_assoc]) (by simp only [ByteArray.size_append, n16, s4]) (by rw [s2])
  have e8 : (traB a).extract 90 92 = intB 2 a.Flags := part_at _ (numB a.Id ++ numB a.Debit ++ numB a.Credit ++ numB a.Amount ++ numB a.Pending ++ intB 4 a.Timeout ++ intB 4 a.Ledger ++ intB 2 a.Code) _ (intB 8 a.Stamp ++ intB 8 a.Born) _ _ (by unfold traB; simp only [ByteArray.append_assoc]) (by simp only [ByteArray.size_append, n16, s4, s2]) (by rw [s2])
  have e9 : (traB a).extract 92 100 = intB 8 a.Stamp := part_at _ (numB a.Id ++ numB a.Debit ++ numB a.Credit ++ numB a.Amount ++ numB a.Pending ++ intB 4 a.Timeout ++ intB 4 a.Ledger ++ intB 2 a.Code ++ intB 2 a.Flags) _ (intB 8 a.Born) _ _ (by unfold traB; simp only [ByteArray.append_assoc]) (by simp only [ByteArray.size_append, n16, s4, s2]) (by rw [s8])
  have e10 : (traB a).extract 100 108 = intB 8 a.Born := part_at _ (numB a.Id ++ numB a.Debit ++ numB a.Credit ++ numB a.Amount ++ numB a.Pending ++ intB 4 a.Timeout ++ intB 4 a.Ledger ++ intB 2 a.Code ++ intB 2 a.Flags ++ intB 8 a.Stamp) _ (ByteArray.empty) _ _ (by unfold traB; simp only [ByteArray.append_assoc, ByteArray.append_empty]) (by simp only [ByteArray.size_append, n16, s4, s2, s8]) (by rw [s8])
  unfold tranOf
  rw [e0, e1, e2, e3, e4, e5, e6, e7, e8, e9, e10, valL_numB hw.Id, valL_numB hw.Debit, valL_numB hw.Credit, valL_numB hw.Amount, valL_numB hw.Pending,
    backZ_intB (k := 4) rfl (by decide) t0 t1, backZ_intB (k := 4) rfl (by decide) l0 l1, backZ_intB (k := 2) rfl (by decide) c0 c1, backZ_intB (k := 2) rfl (by decide) f0 f1, backZ_int8all hw.Stamp, backZ_int8all hw.Born]
theorem takeT_put {a : Tran} (hw : a.Wf) (more : ByteArray) : takeT (some (traB (wantT a) ++ more)) = wantT a := by
  unfold takeT
  dsimp only
  rw [if_pos (by rw [ByteArray.size_append, traB_size]; omega), tranOf_cut _ _ (by rw [traB_size]; omega), tranOf_traB _ (wantT_wf hw) (wantT_good a)]
theorem restT_put (b : Tran) (more : ByteArray) : restT (some (traB b ++ more)) = some more := by
  unfold restT
  dsimp only
  rw [if_pos (by rw [ByteArray.size_append, traB_size]; omega), cut_right _ _ _ _ (by rw [traB_size]; omega), traB_size, ByteArray.size_append, traB_size, show 108 - 108 = 0 from rfl, show 108 + more.size - 108 = more.size by omega, cut_all _ _ rfl]
/-- What is taken has just those bytes. -/
theorem traB_tranOf (s : ByteArray) (h : 108 ≤ s.size) : traB (tranOf s) = s.extract 0 108 := by
  have z : ∀ i j, i ≤ j → j ≤ 108 → (s.extract i j).size = j - i := fun i j _ _ => by rw [ByteArray.size_extract]; omega
  unfold traB tranOf
  dsimp only
  rw [numB_valL _ (z 0 16 (by omega) (by omega)), numB_valL _ (z 16 32 (by omega) (by omega)), numB_valL _ (z 32 48 (by omega) (by omega)), numB_valL _ (z 48 64 (by omega) (by omega)), numB_valL _ (z 64 80 (by omega) (by omega)), intB_back 4 4 rfl (by omega) (z 80 84 (by omega) (by omega)), intB_back 4 4 rfl (by omega) (z 84 88 (by omega) (by omega)), intB_back 2 2 rfl (by omega) (z 88 90 (by omega) (by omega)), intB_back 2 2 rfl (by omega) (z 90 92 (by omega) (by omega)), intB_back 8 8 rfl (by omega) (z 92 100 (by omega) (by omega)), intB_back 8 8 rfl (by omega) (z 100 108 (by omega) (by omega)), cut_join _ _ _ (by omega) (by omega), cut_join _ _ _ (by omega) (by omega), cut_join _ _ _ (by omega) (by omega), cut_join _ _ _ (by omega) (by omega), cut_join _ _ _ (by omega) (by omega), cut_join _ _ _ (by omega) (by omega), cut_join _ _ _ (by omega) (by omega), cut_join _ _ _ (by omega) (by omega), cut_join _ _ _ (by omega) (by omega), cut_join _ _ _ (by omega) (by omega)]
theorem tranOf_wf (s : ByteArray) (h : 108 ≤ s.size) : (tranOf s).Wf := by
  have z : ∀ i j, i ≤ j → j ≤ 108 → (s.extract i j).size = j - i := fun i j _ _ => by rw [ByteArray.size_extract]; omega
  have n0 := num_of16 _ (z 0 16 (by omega) (by omega))
  have n1 := num_of16 _ (z 16 32 (by omega) (by omega))
  have n2 := num_of16 _ (z 32 48 (by omega) (by omega))
  have n3 := num_of16 _ (z 48 64 (by omega) (by omega))
  have n4 := num_of16 _ (z 64 80 (by omega) (by omega))
  have b0 := backZ_range (s.extract 80 84)
  have b1 := backZ_range (s.extract 84 88)
  have b2 := backZ_range (s.extract 88 90)
  have b3 := backZ_range (s.extract 90 92)
  have b4 := backZ_range (s.extract 92 100)
  have b5 := backZ_range (s.extract 100 108)
  unfold tranOf
  generalize s.extract 0 16 = x0 at *
  generalize s.extract 16 32 = x1 at *
  generalize s.extract 32 48 = x2 at *
  generalize s.extract 48 64 = x3 at *
  generalize s.extract 64 80 = x4 at *
  generalize valL (bytesN x0) = y0 at *
  generalize valL (bytesN x1) = y1 at *
  generalize valL (bytesN x2) = y2 at *
  generalize valL (bytesN x3) = y3 at *
  generalize valL (bytesN x4) = y4 at *
  generalize backZ (s.extract 80 84) = z0 at *
  generalize backZ (s.extract 84 88) = z1 at *
  generalize backZ (s.extract 88 90) = z2 at *
  generalize backZ (s.extract 90 92) = z3 at *
  generalize backZ (s.extract 92 100) = z4 at *
  generalize backZ (s.extract 100 108) = z5 at *
  exact ⟨n0, n1, n2, n3, n4, b0, b1, b2, b3, b4, b5⟩
theorem tranOf_good (s : ByteArray) (h : 108 ≤ s.size) : goodT (tranOf s) = true := by
  have z : ∀ i j, i ≤ j → j ≤ 108 → (s.extract i j).size = j - i := fun i j _ _ => by rw [ByteArray.size_extract]; omega
  exact (goodT_iff _).2 ⟨back_small _ 4 (z 80 84 (by omega) (by omega)) (by omega), back_small _ 4 (z 84 88 (by omega) (by omega)) (by omega), back_small _ 2 (z 88 90 (by omega) (by omega)) (by omega), back_small _ 2 (z 90 92 (by omega) (by omega)) (by omega)⟩
end Go.Proofs.Ytfdanlfiaoedfaa
