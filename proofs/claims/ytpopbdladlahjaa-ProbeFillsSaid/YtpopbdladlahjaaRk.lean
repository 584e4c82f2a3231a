/- Stage 11: numbers of two words as a Go map's keys; a map that tells what a table tells. No condition. -/
import Derived.Test.YtpopbdladlahjaaRh
import Derived.Maps.RangeWalk
import Derived.Maps.OwnSet
import Derived.DeepKeys4
namespace Go.Proofs.Ytpopbdladlahjaa
open Go.RowKit Go.Maps Wm

theorem probeLaidOut : laidOutB Try.prog = true := by kernel_rfl
theorem numRow : (33 : TypeId) < Try.prog.types.size := of_decide_eq_true (by kernel_rfl)
theorem numWide : (match Try.prog.underlying 33 with | some (.array _ _) | some (.struct _) => true | _ => false) = true := by rw [Try.underlying33]
theorem numLaw : Keyed Try.prog 33 := Keyed.of_law (deep_law_laid probeLaidOut (m := 2) (by omega) numRow (by kernel_rfl) numWide)
theorem numKeyType : Try.prog.keyType 33 = true := by kernel_rfl
theorem numCells2 : Try.prog.cellsOf 33 = 2 := by kernel_rfl
theorem wordCells : Try.prog.cellsOf 31 = 1 := by kernel_rfl
/-- What a number reads as, as a key. -/
def keyN (n : Nat) : Lit := .string (keyBytes [.int .u64 ((hiN n : Nat) : Int), .int .u64 ((loN n : Nat) : Int)])
theorem word_wf {x : Nat} (h : x < 18446744073709551616) : (Lit.int .u64 (x : Int)).wf = true := by
  simp [Lit.wf, IntKind.min, IntKind.max, IntKind.bits, IntKind.signed]
  omega
theorem wf_word {x : Int} (h : (Lit.int .u64 x).wf = true) : 0 ≤ x ∧ x < 18446744073709551616 := by
  simp [Lit.wf, IntKind.min, IntKind.max, IntKind.bits, IntKind.signed] at h
  omega
theorem numFormed (a b : Value) : (Value.agg #[a, b]).formed Try.prog 33 = true := by simp [Value.formed, Try.underlying33, numCells2]
theorem typesDeep : ∃ d, Try.prog.types.size = d + 1 := by
  have h : 0 < Try.prog.types.size := Nat.lt_of_le_of_lt (Nat.zero_le _) numRow
  exact ⟨Try.prog.types.size - 1, by omega⟩
theorem keyOf_words {x y : Int} (hx : (Lit.int .u64 x).wf = true) (hy : (Lit.int .u64 y).wf = true) : keyOf Try.prog 33 (.agg #[.int .u64 x, .int .u64 y]) = some (.string (keyBytes [.int .u64 x, .int .u64 y])) := by
  obtain ⟨d, hd⟩ := typesDeep
  unfold keyOf
  rw [Try.underlying33]
  dsimp only
  rw [numKeyType, numFormed, hd]
  simp [Program.keyLits, Try.underlying33, Try.underlying31, numCells2, wordCells, Value.cells, hx, hy]
theorem keyOf_num {n : Nat} (hn : n < big) : keyOf Try.prog 33 (numV n) = some (keyN n) := keyOf_words (word_wf (hiN_lt hn)) (word_wf (loN_lt n))
theorem keyOf_inv {v : Value} {kl : Lit} (h : keyOf Try.prog 33 v = some kl) : ∃ n : {n : Nat // n < big}, v = numV n.1 := by
  obtain ⟨d, hd⟩ := typesDeep
  unfold keyOf at h
  rw [Try.underlying33] at h
  dsimp only at h
  rw [numKeyType] at h
  by_cases hf : v.formed Try.prog 33 = true
  · rw [hf, hd] at h
    cases v <;> simp [Value.formed, Try.underlying33, numCells2] at hf
    rename_i cs
    obtain ⟨l⟩ := cs
    match l, hf with
    | [a, b], _ =>
      simp [Program.keyLits, Try.underlying33, Try.underlying31, numCells2, wordCells, Value.cells] at h
      cases a with
      | int q x =>
        by_cases c1 : q = .u64 ∧ (Lit.int .u64 x).wf = true
        · obtain ⟨rfl, hx⟩ := c1
          cases b with
          | int q2 y =>
            by_cases c2 : q2 = .u64 ∧ (Lit.int .u64 y).wf = true
            · obtain ⟨rfl, hy⟩ := c2
              have bx := wf_word hx
              have bb := wf_word hy
              obtain ⟨x, rfl⟩ := Int.eq_ofNat_of_zero_le bx.1
              obtain ⟨y, rfl⟩ := Int.eq_ofNat_of_zero_le bb.1
              have hx' : x < 18446744073709551616 := by omega
              have hy' : y < 18446744073709551616 := by omega
              exact ⟨⟨num x y, num_lt hx' hy'⟩, by show _ = numV (num x y); rw [numV, hiN_num hy', loN_num hy']⟩
            · dsimp only at h
              rw [if_pos ⟨rfl, hx⟩, if_neg c2] at h
              simp at h
          | _ => simp [hx] at h
        · dsimp only at h
          rw [if_neg c1] at h
          simp at h
      | _ => simp at h
  · have hf2 : v.formed Try.prog 33 = false := by simpa using hf
    rw [hf2] at h
    cases h
theorem keyN_inj {a b : Nat} (ha : a < big) (hb : b < big) (h : keyN a = keyN b) : a = b := by
  have e := numLaw.inj (keyOf_num ha) (by rw [h]; exact keyOf_num hb)
  unfold numV at e
  injection e with e
  injection e with e
  injection e with e1 e2
  injection e2 with e2 _
  injection e1 with _ e1
  injection e2 with _ e2
  exact num_inj (Int.natCast_inj.1 e1) (Int.natCast_inj.1 e2)
theorem keyN_same {a b : Nat} (ha : a < big) (hb : b < big) : (keyN a).sameKey (keyN b) = decide (a = b) := by
  by_cases h : a = b
  · subst h
    rw [decide_eq_true rfl]
    exact WideAt.sameKey_self (numLaw.key (keyOf_num ha))
  · rw [decide_eq_false h]
    exact sameKey_ne (fun e => h (keyN_inj ha hb e))
/-- A map that tells what a table tells. -/
structure Tied (D : DataW Unit) (m : Tbl) : Prop where
  has_ : ∀ k, k < big → Maps.has D (keyN k) = (getT m k).isSome
  at_ : ∀ k, k < big → ∀ v, getT m k = some v → ∀ z, D.atKey (keyN k) z = .lit (.int .i64 v)
  size : Maps.size D = m.length
theorem Tied.start : Tied (.map []) [] := ⟨fun _ _ => rfl, (fun _ _ _ h => by cases h), rfl⟩
theorem Tied.put {D : DataW Unit} {m : Tbl} (h : Tied D m) (hD : Tidy D) {k : Nat} (hk : k < big) (v : Int) : Tied (D.put (keyN k) (.lit (.int .i64 v))) (putT m k v) := by
  have hkl := numLaw.key (keyOf_num hk)
  refine ⟨fun j hj => ?_, fun j hj u hu z => ?_, ?_⟩
  · rw [getT_put]
    by_cases e : k = j
    · subst e
      rw [if_pos rfl, has_put_same hD.isMap hkl]; rfl
    · rw [if_neg e, has_put_other (fun x => e (keyN_inj hj hk x).symm)]
      exact h.has_ j hj
  · rw [getT_put] at hu
    by_cases e : k = j
    · subst e
      rw [if_pos rfl] at hu
      cases hu
      exact atKey_put_same hD.isMap hkl _ _
    · rw [if_neg e] at hu
      rw [atKey_put_other (fun x => e (keyN_inj hj hk x).symm)]
      exact h.at_ j hj u hu z
  · rw [size_put hD, putT_length, h.has_ k hk, h.size]
end Go.Proofs.Ytpopbdladlahjaa
