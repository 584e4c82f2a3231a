/- Stage 9: what is wrong with an account, its bytes, whether it is there again. Plain: no program, no condition. -/
import Derived.Test.YtfdanlfiaoedfaaZAv
import Derived.Test.YtfdanlfiaoedfaaZTp
import Derived.Test.YtfdanlfiaoedfaaZTt
import Derived.Test.YtfdanlfiaoedfaaZJa
import Derived.Test.YtfdanlfiaoedfaaZHp
import Derived.Test.YtfdanlfiaoedfaaZEq
import Derived.RegionTactic
import Derived.Deep.RegionWith
import Derived.Deep.RegionHeld3
namespace Go.Proofs.Ytfdanlfiaoedfaa
open Go Go.RowKit Wm Cr

/-- Has it bytes? -/
def goodA (a : Acct) : Bool := decide ((0 ≤ a.Ledger ∧ a.Ledger < 4294967296) ∧ (0 ≤ a.Code ∧ a.Code < 65536) ∧ 0 ≤ a.Flags ∧ a.Flags < 65536)
/-- Its bytes. -/
def accB (a : Acct) : ByteArray :=
  numB a.Id ++ numB a.DebitsPending ++ numB a.DebitsPosted ++ numB a.CreditsPending ++ numB a.CreditsPosted ++ intB 4 a.Ledger ++ intB 2 a.Code ++ intB 2 a.Flags ++ intB 8 a.Stamp
/-- An empty one. -/
def zeroA : Acct := ⟨0, 0, 0, 0, 0, 0, 0, 0, 0⟩
/-- The one that is put. -/
def wantA (a : Acct) : Acct := if goodA a = true then a else zeroA
theorem accB_size (a : Acct) : (accB a).size = 96 := by
  unfold accB
  simp only [ByteArray.size_append, numB_size, intB_size]
  decide
/-- The account whose bytes come first. -/
def accOf (s : ByteArray) : Acct :=
  ⟨valL (bytesN (s.extract 0 16)), valL (bytesN (s.extract 16 32)), valL (bytesN (s.extract 32 48)), valL (bytesN (s.extract 48 64)), valL (bytesN (s.extract 64 80)),
    backZ (s.extract 80 84), backZ (s.extract 84 86), backZ (s.extract 86 88), backZ (s.extract 88 96)⟩
/-- What is taken: of a reader that is torn, or has too little, an empty one. -/
def takeA : Option ByteArray → Acct
  | some s => if 96 ≤ s.size then accOf s else zeroA
  | none => zeroA
def restA : Option ByteArray → Option ByteArray
  | some s => if 96 ≤ s.size then some (s.extract 96 s.size) else none
  | none => none
/-- An account as a value. -/
def acctV (a : Acct) : Value := .agg a.cells.toArray
theorem zeroA_wf : zeroA.Wf := by
  have h : (0 : Nat) < big := by rw [big_eq]; omega
  refine ⟨h, h, h, h, h, ?_, ?_, ?_, ?_⟩ <;> (unfold zeroA; constructor <;> decide)
theorem wantA_wf {a : Acct} (h : a.Wf) : (wantA a).Wf := by
  unfold wantA
  split
  · exact h
  · exact zeroA_wf
theorem goodA_iff (a : Acct) : goodA a = true ↔ (0 ≤ a.Ledger ∧ a.Ledger < 4294967296) ∧ (0 ≤ a.Code ∧ a.Code < 65536) ∧ 0 ≤ a.Flags ∧ a.Flags < 65536 := decide_eq_true_iff
theorem wantA_good (a : Acct) : goodA (wantA a) = true := by
  unfold wantA
  split
  · assumption
  · decide
theorem back_small (s : ByteArray) (k : Nat) (h : s.size = k) (hk : k ≤ 7) : 0 ≤ backZ s ∧ backZ s < ((256 ^ k : Nat) : Int) := by
  have h1 := valL_lt (bytesN s) (bytesN_lt s)
  rw [bytesN_length, h] at h1
  have h2 : 256 ^ k ≤ 256 ^ 7 := Nat.pow_le_pow_right (by decide) hk
  unfold backZ
  rw [show (256 : Nat) ^ 7 = 72057594037927936 from rfl] at h2
  generalize 256 ^ k = m at *
  unfold wrap64
  omega
/-- One part of a text put together. -/
theorem part_at (x pre m post : ByteArray) (i j : Nat) (h : x = pre ++ (m ++ post)) (hi : i = pre.size) (hj : j = i + m.size) : x.extract i j = m := by
  subst h
  rw [cut_right _ _ _ _ (by omega), cut_left _ _ _ _ (by omega)]
  rw [show i - pre.size = 0 by omega]
  exact cut_all _ _ (by omega)
theorem backZ_intB {size n : Int} {k : Nat} (hk : sizeK size = k) (h7 : k ≤ 7) (h0 : 0 ≤ n) (h1 : n < ((256 ^ k : Nat) : Int)) : backZ (intB size n) = n := by
  have h2 : 256 ^ k ≤ 256 ^ 7 := Nat.pow_le_pow_right (by decide) h7
  rw [show (256 : Nat) ^ 7 = 72057594037927936 from rfl] at h2
  unfold backZ intB
  rw [valL_textP, hk]
  generalize 256 ^ k = m at *
  unfold u64N
  rw [Int.emod_eq_of_lt h0 (by omega), Nat.mod_eq_of_lt (by omega)]
  unfold wrap64
  omega
theorem backZ_int8all {n : Int} (h : -9223372036854775808 ≤ n ∧ n ≤ 9223372036854775807) : backZ (intB 8 n) = n := by
  unfold backZ intB
  rw [show sizeK 8 = 8 from rfl, valL_textP]
  unfold u64N
  rw [show (256 : Nat) ^ 8 = 18446744073709551616 from rfl]
  unfold wrap64
  omega
theorem accOf_cut (s more : ByteArray) (h : 96 ≤ s.size) : accOf (s ++ more) = accOf s := by
  unfold accOf
  rw [cut_left _ _ _ _ (by omega), cut_left _ _ _ _ (by omega), cut_left _ _ _ _ (by omega), cut_left _ _ _ _ (by omega), cut_left _ _ _ _ (by omega), cut_left _ _ _ _ (by omega), cut_left _ _ _ _ (by omega), cut_left _ _ _ _ (by omega), cut_left _ _ _ _ (by omega)]
/-- What is put is taken. -/
theorem accOf_accB (a : Acct) (hw : a.Wf) (hg : goodA a = true) : accOf (accB a) = a := by
  obtain ⟨⟨l0, l1⟩, ⟨c0, c1⟩, f0, f1⟩ := (goodA_iff a).1 hg
  have n16 : ∀ n, (numB n).size = 16 := numB_size
  have s4 : ∀ n, (intB 4 n).size = 4 := fun n => by rw [intB_size]; rfl
  have s2 : ∀ n, (intB 2 n).size = 2 := fun n => by rw [intB_size]; rfl
  have s8 : ∀ n, (intB 8 n).size = 8 := fun n => by rw [intB_size]; rfl
  have e0 : (accB a).extract 0 16 = numB a.Id := part_at _ ByteArray.empty _ (numB a.DebitsPending ++ (numB a.DebitsPosted ++ (numB a.CreditsPending ++ (numB a.CreditsPosted ++ (intB 4 a.Ledger ++ (intB 2 a.Code ++ (intB 2 a.Flags ++ intB 8 a.Stamp))))))) _ _ (by unfold accB; simp only [ByteArray.append_assoc, ByteArray.empty_append]) rfl (by rw [n16])
  have e1 : (accB a).extract 16 32 = numB a.DebitsPending := part_at _ (numB a.Id) _ (numB a.DebitsPosted ++ (numB a.CreditsPending ++ (numB a.CreditsPosted ++ (intB 4 a.Ledger ++ (intB 2 a.Code ++ (intB 2 a.Flags ++ intB 8 a.Stamp)))))) _ _ (by unfold accB; simp only [ByteArray.append_assoc]) (by rw [n16]) (by rw [n16])
  have e2 : (accB a).extract 32 48 = numB a.DebitsPosted := part_at _ (numB a.Id ++ numB a.DebitsPending) _ (numB a.CreditsPending ++ (numB a.CreditsPosted ++ (intB 4 a.Ledger ++ (intB 2 a.Code ++ (intB 2 a.Flags ++ intB 8 a.Stamp))))) _ _ (by unfold accB; simp only [ByteArray.append_assoc]) (by simp only [ByteArray.size_append, n16]) (by rw [n16])
  have e3 : (accB a).extract 48 64 = numB a.CreditsPending := part_at _ (numB a.Id ++ numB a.DebitsPending ++ numB a.DebitsPosted) _ (numB a.CreditsPosted ++ (intB 4 a.Ledger ++ (intB 2 a.Code ++ (intB 2 a.Flags ++ intB 8 a.Stamp)))) _ _ (by unfold accB; simp only [ByteArray.append_assoc]) (by simp only [ByteArray.size_append, n16]) (by rw [n16])
  have e4 : (accB a).extract 64 80 = numB a.CreditsPosted := part_at _ (numB a.Id ++ numB a.DebitsPending ++ numB a.DebitsPosted ++ numB a.CreditsPending) _ (intB 4 a.Ledger ++ (intB 2 a.Code ++ (intB 2 a.Flags ++ intB 8 a.Stamp))) _ _ (by unfold accB; simp only [ByteArray.append_assoc]) (by simp only [ByteArray.size_append, n16]) (by rw [n16])
  have e5 : (accB a).extract 80 84 = intB 4 a.Ledger := part_at _ (numB a.Id ++ numB a.DebitsPending ++ numB a.DebitsPosted ++ numB a.CreditsPending ++ numB a.CreditsPosted) _ (intB 2 a.Code ++ (intB 2 a.Flags ++ intB 8 a.Stamp)) _ _ (by unfold accB; simp only [ByteArray.append_assoc]) (by simp only [ByteArray.size_append, n16]) (by rw [s4])
  have e6 : (accB a).extract 84 86 = intB 2 a.Code := part_at _ (numB a.Id ++ numB a.DebitsPending ++ numB a.DebitsPosted ++ numB a.CreditsPending ++ numB a.CreditsPosted ++ intB 4 a.Ledger) _ (intB 2 a.Flags ++ intB 8 a.Stamp) _ _ (by unfold accB; simp only [ByteArray.append_assoc]) (by simp only [ByteArray.size_append, n16, s4]) (by rw [s2])
  have e7 : (accB a).extract 86 88 = intB 2 a.Flags := part_at _ (numB a.Id ++ numB a.DebitsPending ++ numB a.DebitsPosted ++ numB a.CreditsPending ++ numB a.CreditsPosted ++ intB 4 a.Ledger ++ intB 2 a.Code) _ (intB 8 a.Stamp) _ _ (by unfold accB; simp only [ByteArray.append_assoc]) (by simp only [ByteArray.size_append, n16, s4, s2]) (by rw [s2])
  have e8 : (accB a).extract 88 96 = intB 8 a.Stamp := part_at _ (numB a.Id ++ numB a.DebitsPending ++ numB a.DebitsPosted ++ numB a.CreditsPending ++ numB a.CreditsPosted ++ intB 4 a.Ledger ++ intB 2 a.Code ++ intB 2 a.Flags) _ ByteArray.empty _ _ (by unfold accB; simp only [ByteArray.append_assoc, ByteArray.append_empty]) (by simp only [ByteArray.size_append, n16, s4, s2]) (by rw [s8])
  unfold accOf
  rw [e0, e1, e2, e3, e4, e5, e6, e7, e8, valL_numB hw.Id, valL_numB hw.DebitsPending, valL_numB hw.DebitsPosted, valL_numB hw.CreditsPending, valL_numB hw.CreditsPosted,
    backZ_intB (k := 4) rfl (by decide) l0 l1, backZ_intB (k := 2) rfl (by decide) c0 c1, backZ_intB (k := 2) rfl (by decide) f0 f1, backZ_int8all hw.Stamp]
theorem takeA_put {a : Acct} (hw : a.Wf) (more : ByteArray) : takeA (some (accB (wantA a) ++ more)) = wantA a := by
  unfold takeA
  dsimp only
  rw [if_pos (by rw [ByteArray.size_append, accB_size]; omega), accOf_cut _ _ (by rw [accB_size]; omega), accOf_accB _ (wantA_wf hw) (wantA_good a)]
theorem restA_put (b : Acct) (more : ByteArray) : restA (some (accB b ++ more)) = some more := by
  unfold restA
  dsimp only
  rw [if_pos (by rw [ByteArray.size_append, accB_size]; omega), cut_right _ _ _ _ (by rw [accB_size]; omega), accB_size, ByteArray.size_append, accB_size, show 96 - 96 = 0 from rfl, show 96 + more.size - 96 = more.size by omega, cut_all _ _ rfl]
/-- What is taken has just those bytes. -/
theorem accB_accOf (s : ByteArray) (h : 96 ≤ s.size) : accB (accOf s) = s.extract 0 96 := by
  have z : ∀ i j, i ≤ j → j ≤ 96 → (s.extract i j).size = j - i := fun i j _ _ => by rw [ByteArray.size_extract]; omega
  unfold accB accOf
  dsimp only
  rw [numB_valL _ (z 0 16 (by omega) (by omega)), numB_valL _ (z 16 32 (by omega) (by omega)), numB_valL _ (z 32 48 (by omega) (by omega)), numB_valL _ (z 48 64 (by omega) (by omega)), numB_valL _ (z 64 80 (by omega) (by omega)),
    intB_back 4 4 rfl (by omega) (z 80 84 (by omega) (by omega)), intB_back 2 2 rfl (by omega) (z 84 86 (by omega) (by omega)), intB_back 2 2 rfl (by omega) (z 86 88 (by omega) (by omega)), intB_back 8 8 rfl (by omega) (z 88 96 (by omega) (by omega)),
    cut_join _ _ _ (by omega) (by omega), cut_join _ _ _ (by omega) (by omega), cut_join _ _ _ (by omega) (by omega), cut_join _ _ _ (by omega) (by omega), cut_join _ _ _ (by omega) (by omega), cut_join _ _ _ (by omega) (by omega), cut_join _ _ _ (by omega) (by omega), cut_join _ _ _ (by omega) (by omega)]
theorem num_of16 (x : ByteArray) (h : x.size = 16) : valL (bytesN x) < big := by
  have h1 := valL_lt (bytesN x) (bytesN_lt _)
  rw [bytesN_length, h] at h1
  rw [big_eq]
  exact h1
theorem accOf_wf (s : ByteArray) (h : 96 ≤ s.size) : (accOf s).Wf := by
  have z : ∀ i j, i ≤ j → j ≤ 96 → (s.extract i j).size = j - i := fun i j _ _ => by rw [ByteArray.size_extract]; omega
  have n0 := num_of16 _ (z 0 16 (by omega) (by omega))
  have n1 := num_of16 _ (z 16 32 (by omega) (by omega))
  have n2 := num_of16 _ (z 32 48 (by omega) (by omega))
  have n3 := num_of16 _ (z 48 64 (by omega) (by omega))
  have n4 := num_of16 _ (z 64 80 (by omega) (by omega))
  have b0 := backZ_range (s.extract 80 84)
  have b1 := backZ_range (s.extract 84 86)
  have b2 := backZ_range (s.extract 86 88)
  have b3 := backZ_range (s.extract 88 96)
  unfold accOf
  generalize s.extract 0 16 = x0 at *
  generalize s.extract 16 32 = x1 at *
  generalize s.extract 32 48 = x2 at *
  generalize s.extract 48 64 = x3 at *
  generalize s.extract 64 80 = x4 at *
  generalize valL (bytesN x0) = y0 at *
  generalize valL (bytesN x1) = y1 at *
  generalize valL (bytesN x2) = y2 at *
  generalize valL (bytesN x3) = y3 at *
  generalize valL (bytesN x4) = y4 at *
  generalize backZ (s.extract 80 84) = z0 at *
  generalize backZ (s.extract 84 86) = z1 at *
  generalize backZ (s.extract 86 88) = z2 at *
  generalize backZ (s.extract 88 96) = z3 at *
  exact ⟨n0, n1, n2, n3, n4, b0, b1, b2, b3⟩
theorem accOf_good (s : ByteArray) (h : 96 ≤ s.size) : goodA (accOf s) = true := by
  have z : ∀ i j, i ≤ j → j ≤ 96 → (s.extract i j).size = j - i := fun i j _ _ => by rw [ByteArray.size_extract]; omega
  exact (goodA_iff _).2 ⟨back_small _ 4 (z 80 84 (by omega) (by omega)) (by omega), back_small _ 2 (z 84 86 (by omega) (by omega)) (by omega), back_small _ 2 (z 86 88 (by omega) (by omega)) (by omega)⟩
end Go.Proofs.Ytfdanlfiaoedfaa
