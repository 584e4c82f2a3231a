/- Stage 10: what is wrong with a transfer, its kinds, its bytes, whether it is there again. Plain: no program, no condition. -/
import Derived.Test.YtlalkfebedjlgaaDoorZXv
import Derived.Test.YtlalkfebedjlgaaDoorZAa
namespace Go.Proofs.YtlalkfebedjlgaaDoor
open Go Go.RowKit Wm Cr

/-- Its kinds. -/
def endsB (f : Int) : Bool := bitZ f 4 || bitZ f 8
def balB (f : Int) : Bool := bitZ f 16 || bitZ f 32
/-- Do its flags go together? -/
def togB (f : Int) : Bool := !(bitZ f 2 && bitZ f 4 || bitZ f 2 && bitZ f 8 || bitZ f 4 && bitZ f 8) && !(endsB f && decide (16 ≤ f)) && (decide (f < 64) || bitZ f 2)
/-- What is wrong with it. -/
def chkT (a : Tran) : Int :=
  if a.Flags < 0 ∨ 255 < a.Flags then 3 else if a.Id = 0 then 4 else if a.Id = mostN then 5
  else if togB a.Flags = false then 6
  else if a.Stamp ≠ 0 ∨ a.Born ≠ 0 then 7
  else if a.Timeout < 0 ∨ 1073741824 < a.Timeout ∨ (0 < a.Timeout ∧ bitZ a.Flags 2 = false) then 17
  else if endsB a.Flags = true then
    (if a.Pending = 0 then 16 else if a.Ledger < 0 ∨ 4294967296 ≤ a.Ledger then 8 else if a.Code < 0 ∨ 65536 ≤ a.Code then 9 else 0)
  else if a.Debit = 0 then 12 else if a.Credit = 0 then 13 else if a.Debit = a.Credit then 14 else if a.Pending ≠ 0 then 15
  else if a.Amount = 0 ∧ bitZ a.Flags 16 = false ∧ bitZ a.Flags 32 = false then 18
  else if a.Ledger < 1 ∨ 4294967296 ≤ a.Ledger then 8 else if a.Code < 1 ∨ 65536 ≤ a.Code then 9 else 0
/-- What is right is of one kind at most. -/
theorem chkT_kinds {a : Tran} (h : chkT a = 0) : (endsB a.Flags = true → bitZ a.Flags 2 = false) ∧ (endsB a.Flags = true → balB a.Flags = false) := by
  unfold chkT at h
  have h0 : ¬ (a.Flags < 0 ∨ 255 < a.Flags) := fun e => by rw [if_pos e] at h; exact absurd h (by decide)
  rw [if_neg h0] at h
  have h1 : ¬ a.Id = 0 := fun e => by rw [if_pos e] at h; exact absurd h (by decide)
  rw [if_neg h1] at h
  have h2 : ¬ a.Id = mostN := fun e => by rw [if_pos e] at h; exact absurd h (by decide)
  rw [if_neg h2] at h
  have h3 : ¬ togB a.Flags = false := fun e => by rw [if_pos e] at h; exact absurd h (by decide)
  have ht : togB a.Flags = true := by simpa using h3
  clear h h1 h2 h3
  have hlo : endsB a.Flags = true → ¬ 16 ≤ a.Flags := fun e g => by
    unfold togB at ht
    rw [e, decide_eq_true g, Bool.and_true, Bool.not_true, Bool.and_false, Bool.false_and] at ht
    cases ht
  have hr : 0 ≤ a.Flags := by omega
  refine ⟨fun e => ?_, fun e => ?_⟩
  · unfold togB endsB at ht
    unfold endsB at e
    generalize decide (16 ≤ a.Flags) = x at ht
    generalize decide (a.Flags < 64) = y at ht
    generalize bitZ a.Flags 2 = b2 at *
    generalize bitZ a.Flags 4 = b4 at *
    generalize bitZ a.Flags 8 = b8 at *
    revert ht e
    revert x y b2 b4 b8
    decide
  · have := hlo e
    unfold balB bitZ
    rw [decide_eq_false (by omega), decide_eq_false (by omega)]
    rfl
/-- Is it there again? -/
def plainT (a : Tran) : Tran := { a with Flags := a.Flags / 2 }
open Classical in
noncomputable def againT (a b : Tran) : Int := if plainT a = plainT b then 10 else 11
/-- Has it bytes? -/
def goodT (a : Tran) : Bool := decide ((0 ≤ a.Timeout ∧ a.Timeout < 4294967296) ∧ (0 ≤ a.Ledger ∧ a.Ledger < 4294967296) ∧ (0 ≤ a.Code ∧ a.Code < 65536) ∧ 0 ≤ a.Flags ∧ a.Flags < 65536)
/-- Its bytes. -/
def traB (a : Tran) : ByteArray :=
  numB a.Id ++ numB a.Debit ++ numB a.Credit ++ numB a.Amount ++ numB a.Pending ++ intB 4 a.Timeout ++ intB 4 a.Ledger ++ intB 2 a.Code ++ intB 2 a.Flags ++ intB 8 a.Stamp ++ intB 8 a.Born
/-- An empty one. -/
def zeroT : Tran := ⟨0, 0, 0, 0, 0, 0, 0, 0, 0, 0, 0⟩
/-- The one that is put. -/
def wantT (a : Tran) : Tran := if goodT a = true then a else zeroT
theorem traB_size (a : Tran) : (traB a).size = 108 := by
  unfold traB
  simp only [ByteArray.size_append, numB_size, intB_size]
  decide
/-- The transfer whose bytes come first. -/
def tranOf (s : ByteArray) : Tran :=
  ⟨valL (bytesN (s.extract 0 16)), valL (bytesN (s.extract 16 32)), valL (bytesN (s.extract 32 48)), valL (bytesN (s.extract 48 64)), valL (bytesN (s.extract 64 80)), backZ (s.extract 80 84), backZ (s.extract 84 88), backZ (s.extract 88 90), backZ (s.extract 90 92), backZ (s.extract 92 100), backZ (s.extract 100 108)⟩
/-- What is taken: of a reader that is torn, or has too little, an empty one. -/
def takeT : Option ByteArray → Tran
  | some s => if 108 ≤ s.size then tranOf s else zeroT
  | none => zeroT
def restT : Option ByteArray → Option ByteArray
  | some s => if 108 ≤ s.size then some (s.extract 108 s.size) else none
  | none => none
/-- A transfer as a value. -/
def tranV (a : Tran) : Value := .agg a.cells.toArray
/-- What the walks of stage 10's laws ask of the landed package; what the world must keep for it is Mo. -/
structure LandedXf (Mo : World → Prop) (Wr : (Nat → Prop) → World → Nat → ByteArray → Prop) (Rd : (Nat → Prop) → World → Nat → Option ByteArray → Prop) : Prop where
  later : ∀ W W', Mo W → Below W.heap.size W W' → Mo W'
  check : ∀ (a : Tran) W, a.Wf → Mo W → Calls Tryd.prog 10 #[tranV a] W fun e W' => e = .returned (.int .i64 (chkT a)) ∧ Below W.heap.size W W'
  ends : ∀ (a : Tran) W, a.Wf → 0 ≤ a.Flags → Calls Tryd.prog 12 #[tranV a] W fun e W' => e = .returned (.bool (endsB a.Flags)) ∧ Below W.heap.size W W'
  pend : ∀ (a : Tran) W, a.Wf → 0 ≤ a.Flags → Calls Tryd.prog 13 #[tranV a] W fun e W' => e = .returned (.bool (bitZ a.Flags 2)) ∧ Below W.heap.size W W'
  bal : ∀ (a : Tran) W, a.Wf → 0 ≤ a.Flags → Calls Tryd.prog 14 #[tranV a] W fun e W' => e = .returned (.bool (balB a.Flags)) ∧ Below W.heap.size W W'
  again : ∀ (a b : Tran) W, a.Wf → b.Wf → 0 ≤ a.Flags → 0 ≤ b.Flags → Calls Tryd.prog 17 #[tranV a, tranV b] W fun e W' => e = .returned (.int .i64 (againT a b)) ∧ Below W.heap.size W W'
  good : ∀ (a : Tran) W, a.Wf → Calls Tryd.prog 24 #[tranV a] W fun e W' => e = .returned (.bool (goodT a)) ∧ Below W.heap.size W W'
  put : ∀ F W p bs (a : Tran), a.Wf → Wr F W p bs → bs.size ≤ 15000 → Calls Tryd.prog 19 #[.pointer (some ⟨p, 0, none⟩), tranV a] W fun e W' => e = .returned (.tuple #[]) ∧ WrPost Wr F p (bs ++ traB (wantT a)) W W'
  get : ∀ F W p st, Rd F W p st → Calls Tryd.prog 23 #[.pointer (some ⟨p, 0, none⟩)] W fun e W' => e = .returned (tranV (takeT st)) ∧ RdPost Rd F p (restT st) W W'
theorem zeroT_wf : zeroT.Wf := by
  have h : (0 : Nat) < big := by rw [big_eq]; omega
  refine ⟨h, h, h, h, h, ?_, ?_, ?_, ?_, ?_, ?_⟩ <;> (unfold zeroT; constructor <;> decide)
theorem wantT_wf {a : Tran} (h : a.Wf) : (wantT a).Wf := by
  unfold wantT
  split
  · exact h
  · exact zeroT_wf
theorem goodT_iff (a : Tran) : goodT a = true ↔ (0 ≤ a.Timeout ∧ a.Timeout < 4294967296) ∧ (0 ≤ a.Ledger ∧ a.Ledger < 4294967296) ∧ (0 ≤ a.Code ∧ a.Code < 65536) ∧ 0 ≤ a.Flags ∧ a.Flags < 65536 := decide_eq_true_iff
theorem wantT_good (a : Tran) : goodT (wantT a) = true := by
  unfold wantT
  split
  · assumption
  · decide
theorem tranOf_cut (s more : ByteArray) (h : 108 ≤ s.size) : tranOf (s ++ more) = tranOf s := by
  unfold tranOf
  rw [cut_left _ _ _ _ (by omega), cut_left _ _ _ _ (by omega), cut_left _ _ _ _ (by omega), cut_left _ _ _ _ (by omega), cut_left _ _ _ _ (by omega), cut_left _ _ _ _ (by omega), cut_left _ _ _ _ (by omega), cut_left _ _ _ _ (by omega), cut_left _ _ _ _ (by omega), cut_left _ _ _ _ (by omega), cut_left _ _ _ _ (by omega)]
/-- What is put is taken. -/
theorem tranOf_traB (a : Tran) (hw : a.Wf) (hg : goodT a = true) : tranOf (traB a) = a := by
  obtain ⟨⟨t0, t1⟩, ⟨l0, l1⟩, ⟨c0, c1⟩, f0, f1⟩ := (goodT_iff a).1 hg
  have n16 : ∀ n, (numB n).size = 16 := numB_size
  have s4 : ∀ n, (intB 4 n).size = 4 := fun n => by rw [intB_size]; rfl
  have s2 : ∀ n, (intB 2 n).size = 2 := fun n => by rw [intB_size]; rfl
  have s8 : ∀ n, (intB 8 n).size = 8 := fun n => by rw [intB_size]; rfl
  have e0 : (traB a).extract 0 16 = numB a.Id := part_at _ ByteArray.empty _ (numB a.Debit ++ (numB a.Credit ++ (numB a.Amount ++ (numB a.Pending ++ (intB 4 a.Timeout ++ (intB 4 a.Ledger ++ (intB 2 a.Code ++ (intB 2 a.Flags ++ (intB 8 a.Stamp ++ intB 8 a.Born))))))))) _ _ (by unfold traB; simp only [ByteArray.append_assoc, ByteArray.empty_append]) rfl (by rw [n16])
  have e1 : (traB a).extract 16 32 = numB a.Debit := part_at _ (numB a.Id) _ (numB a.Credit ++ (numB a.Amount ++ (numB a.Pending ++ (intB 4 a.Timeout ++ (intB 4 a.Ledger ++ (intB 2 a.Code ++ (intB 2 a.Flags ++ (intB 8 a.Stamp ++ intB 8 a.Born)))))))) _ _ (by unfold traB; simp only [ByteArray.append_assoc]) (by simp only [n16]) (by rw [n16])
  have e2 : (traB a).extract 32 48 = numB a.Credit := part_at _ (numB a.Id ++ numB a.Debit) _ (numB a.Amount ++ (numB a.Pending ++ (intB 4 a.Timeout ++ (intB 4 a.Ledger ++ (intB 2 a.Code ++ (intB 2 a.Flags ++ (intB 8 a.Stamp ++ intB 8 a.Born))))))) _ _ (by unfold traB; simp only [ByteArray.append_assoc]) (by simp only [ByteArray.size_append, n16]) (by rw [n16])
  have e3 : (traB a).extract 48 64 = numB a.Amount := part_at _ (numB a.Id ++ numB a.Debit ++ numB a.Credit) _ (numB a.Pending ++ (intB 4 a.Timeout ++ (intB 4 a.Ledger ++ (intB 2 a.Code ++ (intB 2 a.Flags ++ (intB 8 a.Stamp ++ intB 8 a.Born)))))) _ _ (by unfold traB; simp only [ByteArray.append_assoc]) (by simp only [ByteArray.size_append, n16]) (by rw [n16])
  have e4 : (traB a).extract 64 80 = numB a.Pending := part_at _ (numB a.Id ++ numB a.Debit ++ numB a.Credit ++ numB a.Amount) _ (intB 4 a.Timeout ++ (intB 4 a.Ledger ++ (intB 2 a.Code ++ (intB 2 a.Flags ++ (intB 8 a.Stamp ++ intB 8 a.Born))))) _ _ (by unfold traB; simp only [ByteArray.append_assoc]) (by simp only [ByteArray.size_append, n16]) (by rw [n16])
  have e5 : (traB a).extract 80 84 = intB 4 a.Timeout := part_at _ (numB a.Id ++ numB a.Debit ++ numB a.Credit ++ numB a.Amount ++ numB a.Pending) _ (intB 4 a.Ledger ++ (intB 2 a.Code ++ (intB 2 a.Flags ++ (intB 8 a.Stamp ++ intB 8 a.Born)))) _ _ (by unfold traB; simp only [ByteArray.append_assoc]) (by simp only [ByteArray.size_append, n16]) (by rw [s4])
  have e6 : (traB a).extract 84 88 = intB 4 a.Ledger := part_at _ (numB a.Id ++ numB a.Debit ++ numB a.Credit ++ numB a.Amount ++ numB a.Pending ++ intB 4 a.Timeout) _ (intB 2 a.Code ++ (intB 2 a.Flags ++ (intB 8 a.Stamp ++ intB 8 a.Born))) _ _ (by unfold traB; simp only [ByteArray.append_assoc]) (by simp only [ByteArray.size_append, n16, s4]) (by rw [s4])
  have e7 : (traB a).extract 88 90 = intB 2 a.Code := part_at _ (numB a.Id ++ numB a.Debit ++ numB a.Credit ++ numB a.Amount ++ numB a.Pending ++ intB 4 a.Timeout ++ intB 4 a.Ledger) _ (intB 2 a.Flags ++ (intB 8 a.Stamp ++ intB 8 a.Born)) _ _ (by unfold traB; simp only [ByteArray.append_assoc]) (by simp only [ByteArray.size_append, n16, s4]) (by rw [s2])
  have e8 : (traB a).extract 90 92 = intB 2 a.Flags := part_at _ (numB a.Id ++ numB a.Debit ++ numB a.Credit ++ numB a.Amount ++ numB a.Pending ++ intB 4 a.Timeout ++ intB 4 a.Ledger ++ intB 2 a.Code) _ (intB 8 a.Stamp ++ intB 8 a.Born) _ _ (by unfold traB; simp only [ByteArray.append_assoc]) (by simp only [ByteArray.size_append, n16, s4, s2]) (by rw [s2])
  have e9 : (traB a).extract 92 100 = intB 8 a.Stamp := part_at _ (numB a.Id ++ numB a.Debit ++ numB a.Credit ++ numB a.Amount ++ numB a.Pending ++ intB 4 a.Timeout ++ intB 4 a.Ledger ++ intB 2 a.Code ++ intB 2 a.Flags) _ (intB 8 a.Born) _ _ (by unfold traB; simp only [ByteArray.append_assoc]) (by simp only [ByteArray.size_append, n16, s4, s2]) (by rw [s8])
  have e10 : (traB a).extract 100 108 = intB 8 a.Born := part_at _ (numB a.Id ++ numB a.Debit ++ numB a.Credit ++ numB a.Amount ++ numB a.Pending ++ intB 4 a.Timeout ++ intB 4 a.Ledger ++ intB 2 a.Code ++ intB 2 a.Flags ++ intB 8 a.Stamp) _ (ByteArray.empty) _ _ (by unfold traB; simp only [ByteArray.append_assoc, ByteArray.append_empty]) (by simp only [ByteArray.size_append, n16, s4, s2, s8]) (by rw [s8])
  unfold tranOf
  rw [e0, e1, e2, e3, e4, e5, e6, e7, e8, e9, e10, valL_numB hw.Id, valL_numB hw.Debit, valL_numB hw.Credit, valL_numB hw.Amount, valL_numB hw.Pending,
    backZ_intB (k := 4) rfl (by decide) t0 t1, backZ_intB (k := 4) rfl (by decide) l0 l1, backZ_intB (k := 2) rfl (by decide) c0 c1, backZ_intB (k := 2) rfl (by decide) f0 f1, backZ_int8all hw.Stamp, backZ_int8all hw.Born]
theorem takeT_put {a : Tran} (hw : a.Wf) (more : ByteArray) : takeT (some (traB (wantT a) ++ more)) = wantT a := by
  unfold takeT
  dsimp only
  rw [if_pos (by rw [ByteArray.size_append, traB_size]; omega), tranOf_cut _ _ (by rw [traB_size]; omega), tranOf_traB _ (wantT_wf hw) (wantT_good a)]
theorem restT_put (b : Tran) (more : ByteArray) : restT (some (traB b ++ more)) = some more := by
  unfold restT
  dsimp only
  rw [if_pos (by rw [ByteArray.size_append, traB_size]; omega), cut_right _ _ _ _ (by rw [traB_size]; omega), traB_size, ByteArray.size_append, traB_size, show 108 - 108 = 0 from rfl, show 108 + more.size - 108 = more.size by omega, cut_all _ _ rfl]
/-- What is taken has just those bytes. -/
theorem traB_tranOf (s : ByteArray) (h : 108 ≤ s.size) : traB (tranOf s) = s.extract 0 108 := by
  have z : ∀ i j, i ≤ j → j ≤ 108 → (s.extract i j).size = j - i := fun i j _ _ => by rw [ByteArray.size_extract]; omega
  unfold traB tranOf
  dsimp only
  rw [numB_valL _ (z 0 16 (by omega) (by omega)), numB_valL _ (z 16 32 (by omega) (by omega)), numB_valL _ (z 32 48 (by omega) (by omega)), numB_valL _ (z 48 64 (by omega) (by omega)), numB_valL _ (z 64 80 (by omega) (by omega)), intB_back 4 4 rfl (by omega) (z 80 84 (by omega) (by omega)), intB_back 4 4 rfl (by omega) (z 84 88 (by omega) (by omega)), intB_back 2 2 rfl (by omega) (z 88 90 (by omega) (by omega)), intB_back 2 2 rfl (by omega) (z 90 92 (by omega) (by omega)), intB_back 8 8 rfl (by omega) (z 92 100 (by omega) (by omega)), intB_back 8 8 rfl (by omega) (z 100 108 (by omega) (by omega)), cut_join _ _ _ (by omega) (by omega), cut_join _ _ _ (by omega) (by omega), cut_join _ _ _ (by omega) (by omega), cut_join _ _ _ (by omega) (by omega), cut_join _ _ _ (by omega) (by omega), cut_join _ _ _ (by omega) (by omega), cut_join _ _ _ (by omega) (by omega), cut_join _ _ _ (by omega) (by omega), cut_join _ _ _ (by omega) (by omega), cut_join _ _ _ (by omega) (by omega)]
theorem tranOf_good (s : ByteArray) (h : 108 ≤ s.size) : goodT (tranOf s) = true := by
  have z : ∀ i j, i ≤ j → j ≤ 108 → (s.extract i j).size = j - i := fun i j _ _ => by rw [ByteArray.size_extract]; omega
  exact (goodT_iff _).2 ⟨back_small _ 4 (z 80 84 (by omega) (by omega)) (by omega), back_small _ 4 (z 84 88 (by omega) (by omega)) (by omega), back_small _ 2 (z 88 90 (by omega) (by omega)) (by omega), back_small _ 2 (z 90 92 (by omega) (by omega)) (by omega)⟩
end Go.Proofs.YtlalkfebedjlgaaDoor
