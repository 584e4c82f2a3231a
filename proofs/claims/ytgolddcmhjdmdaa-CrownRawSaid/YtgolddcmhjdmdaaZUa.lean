/- Stage 8: heads as bytes, where they stand, and which is the newest. Plain: no program, no condition. -/
import Derived.Test.YtgolddcmhjdmdaaZIb
namespace Go.Proofs.Ytgolddcmhjdmdaa
open Go Go.RowKit Cr

/-- Turn, number, size, seq. -/
structure Hd where
  t : Int
  n : Int
  z : Int
  q : Int
def Hd.B (h : Hd) : ByteArray := intB 8 h.t ++ (intB 8 h.n ++ (intB 8 h.z ++ intB 8 h.q))
structure Hd.Ok (h : Hd) : Prop where
  t : 1 ≤ h.t ∧ h.t ≤ 1152921504606846976
  n : 1 ≤ h.n ∧ h.n ≤ 1152921504606846976
  z : 0 ≤ h.z ∧ h.z ≤ 425984
  q : 0 ≤ h.q ∧ h.q ≤ 1152921504606846976
def Hd.good (h : Hd) : Bool := decide (1 ≤ h.t) && decide (h.t ≤ 1152921504606846976) && decide (1 ≤ h.n) && decide (h.n ≤ 1152921504606846976) && decide (0 ≤ h.z) && decide (h.z ≤ 425984) && decide (0 ≤ h.q) && decide (h.q ≤ 1152921504606846976)
theorem Hd.good_iff (h : Hd) : h.good = true ↔ h.Ok := by
  unfold Hd.good
  simp only [Bool.and_eq_true, decide_eq_true_eq]
  exact ⟨fun ⟨⟨⟨⟨⟨⟨⟨a, b⟩, c⟩, d⟩, e⟩, f⟩, g⟩, i⟩ => ⟨⟨a, b⟩, ⟨c, d⟩, ⟨e, f⟩, ⟨g, i⟩⟩, fun ⟨⟨a, b⟩, ⟨c, d⟩, ⟨e, f⟩, ⟨g, i⟩⟩ => ⟨⟨⟨⟨⟨⟨⟨a, b⟩, c⟩, d⟩, e⟩, f⟩, g⟩, i⟩⟩
theorem Hd.B_size (h : Hd) : h.B.size = 32 := by
  unfold Hd.B
  rw [ByteArray.size_append, ByteArray.size_append, ByteArray.size_append, int8_size, int8_size, int8_size, int8_size]
theorem Hd.B_cut (h : Hd) : h.B.extract 0 8 = intB 8 h.t ∧ h.B.extract 8 16 = intB 8 h.n ∧ h.B.extract 16 24 = intB 8 h.z ∧ h.B.extract 24 32 = intB 8 h.q := by
  have e8 : ∀ n : Int, (intB 8 n).size = 8 := int8_size
  unfold Hd.B
  refine ⟨?_, ?_, ?_, ?_⟩
  · rw [cut_left _ _ _ _ (by rw [e8]; omega)]
    exact cut_all _ _ (by rw [e8])
  · rw [cut_right _ _ _ _ (by rw [e8]; omega), e8, cut_left _ _ _ _ (by rw [e8]; omega)]
    exact cut_all _ _ (by rw [e8])
  · rw [cut_right _ _ _ _ (by rw [e8]; omega), e8, cut_right _ _ _ _ (by rw [e8]; omega), e8, cut_left _ _ _ _ (by rw [e8]; omega)]
    exact cut_all _ _ (by rw [e8])
  · rw [cut_right _ _ _ _ (by rw [e8]; omega), e8, cut_right _ _ _ _ (by rw [e8]; omega), e8, cut_right _ _ _ _ (by rw [e8]; omega), e8]
    exact cut_all _ _ (by rw [e8])
theorem Hd.ext {h k : Hd} (h1 : h.t = k.t) (h2 : h.n = k.n) (h3 : h.z = k.z) (h4 : h.q = k.q) : h = k := by
  cases h; cases k
  dsimp only at h1 h2 h3 h4
  subst h1 h2 h3 h4
  rfl
theorem Hd.B_inj {h k : Hd} (ho : h.Ok) (ko : k.Ok) (e : h.B = k.B) : h = k := by
  obtain ⟨a1, a2, a3, a4⟩ := h.B_cut
  obtain ⟨b1, b2, b3, b4⟩ := k.B_cut
  rw [e] at a1 a2 a3 a4
  have h1 := ho.t
  have h2 := ho.n
  have h3 := ho.z
  have h4 := ho.q
  have k1 := ko.t
  have k2 := ko.n
  have k3 := ko.z
  have k4 := ko.q
  have i1 := a1.symm.trans b1
  have i2 := a2.symm.trans b2
  have i3 := a3.symm.trans b3
  have i4 := a4.symm.trans b4
  clear a1 a2 a3 a4 b1 b2 b3 b4
  exact Hd.ext (intB_inj8 (by omega) (by omega) i1) (intB_inj8 (by omega) (by omega) i2) (intB_inj8 (by omega) (by omega) i3) (intB_inj8 (by omega) (by omega) i4)
/-- The head that bytes are. -/
noncomputable def headOf (s : ByteArray) : Option Hd := open Classical in if h : ∃ x : Hd, x.Ok ∧ x.B = s then some h.choose else none
theorem headOf_B {h : Hd} (ho : h.Ok) : headOf h.B = some h := by
  have hx : ∃ x : Hd, x.Ok ∧ x.B = h.B := ⟨h, ho, rfl⟩
  unfold headOf
  rw [dif_pos hx]
  obtain ⟨a, b⟩ := hx.choose_spec
  exact congrArg some (Hd.B_inj a ho b)
theorem headOf_some {s : ByteArray} {h : Hd} (e : headOf s = some h) : h.Ok ∧ h.B = s := by
  unfold headOf at e
  split at e
  · rename_i hx
    have e2 := Option.some.inj e
    have := hx.choose_spec
    rw [e2] at this
    exact this
  · cases e
theorem headOf_none {s : ByteArray} (h : ∀ x : Hd, x.Ok → x.B ≠ s) : headOf s = none := by
  unfold headOf
  rw [dif_neg (fun ⟨x, hx, e⟩ => h x hx e)]
/-- The head that stands in a sector, as it should. -/
noncomputable def standOf (s : ByteArray) (i : Nat) : Option Hd :=
  match leafOf s with
  | some x => if x.2.1 = 0 then (match headOf x.2.2 with | some h => if h.t % 2 = (i : Int) then some h else none | none => none) else none
  | none => none
theorem stand_none {s : ByteArray} {i : Nat} (h : leafOf s = none) : standOf s i = none := by unfold standOf; rw [h]
theorem stand_sec {N : Int} {h : Hd} (hN : 1 ≤ N ∧ N ≤ 1152921504606846976) (ho : h.Ok) {i : Nat} (hi : h.t % 2 = (i : Int)) : standOf (secB N 0 h.B) i = some h := by
  have hl : LeafOk N 0 h.B := ⟨hN, by omega, by rw [Hd.B_size]; omega⟩
  unfold standOf
  rw [leafOf_sec hl]
  dsimp only
  rw [if_pos rfl, headOf_B ho]
  exact if_pos hi
theorem stand_some {s : ByteArray} {i : Nat} {h : Hd} (e : standOf s i = some h) : h.Ok ∧ h.t % 2 = (i : Int) ∧ ∃ N, leafOf s = some (N, 0, h.B) := by
  unfold standOf at e
  split at e
  · rename_i x hx
    obtain ⟨N, I, D⟩ := x
    dsimp only at e
    split at e
    · rename_i hI
      subst hI
      split at e
      · rename_i k hk
        obtain ⟨k1, k2⟩ := headOf_some hk
        split at e
        · rename_i hp
          obtain rfl := Option.some.inj e
          exact ⟨k1, hp, N, by rw [hx, k2]⟩
        · cases e
      · cases e
    · cases e
  · cases e
/-- Of two heads the one of the greater turn. -/
def newer : Option Hd → Option Hd → Option Hd
  | none, y => y
  | x, none => x
  | some x, some y => if x.t < y.t then some y else some x
noncomputable def St.newest (st : St) : Option Hd := newer (standOf (st.now 0) 0) (standOf (st.now 1) 1)
theorem newest_some {st : St} {h : Hd} (e : st.newest = some h) : h.Ok ∧ ∃ N, leafOf (st.now (h.t % 2).toNat) = some (N, 0, h.B) := by
  have key : ∀ i : Nat, standOf (st.now i) i = some h → h.Ok ∧ ∃ N, leafOf (st.now (h.t % 2).toNat) = some (N, 0, h.B) := fun i hi => by
    obtain ⟨a, b, c⟩ := stand_some hi
    rw [b, Int.toNat_natCast]
    exact ⟨a, c⟩
  unfold St.newest at e
  cases e0 : standOf (st.now 0) 0 with
  | none =>
    rw [e0] at e
    exact key 1 e
  | some x =>
    rw [e0] at e
    cases e1 : standOf (st.now 1) 1 with
    | none =>
      rw [e1] at e
      exact key 0 (e0.trans e)
    | some y =>
      rw [e1] at e
      change (if x.t < y.t then some y else some x) = some h at e
      split at e
      · exact key 1 (e1.trans e)
      · exact key 0 (e0.trans e)
def Hd.spot (h : Hd) : Nat := (h.t % 2).toNat
theorem Hd.spot_le (h : Hd) : h.spot ≤ 1 ∧ h.t % 2 = (h.spot : Int) := by unfold Hd.spot; omega
/-- What putting a head answers, and makes of the disk. -/
def St.putH (st : St) (N : Int) (h : Hd) : Int × St := if h.good = true then st.put h.spot 1 N h.B else (1, st)
theorem putH_bad {st : St} {N : Int} {h : Hd} (hb : h.good = false) : st.putH N h = (1, st) := by unfold St.putH; rw [hb]; rfl
theorem count_B (h : Hd) : countN h.B.size = 1 := by rw [Hd.B_size]; rfl
theorem part_B (h : Hd) : partS h.B 0 = h.B := by
  unfold partS
  rw [Hd.B_size]
  exact cut_all _ _ (by rw [Hd.B_size]; rfl)
/-- Putting, where nothing is armed. -/
theorem St.Calm.putH {st : St} {n k : Nat} (h : st.Calm n k) (hn : 2 ≤ n) {N : Int} (hN : 1 ≤ N ∧ N ≤ 1152921504606846976) {hd : Hd} (ho : hd.Ok) :
    ∃ st', st.putH N hd = (0, st') ∧ st'.Calm n (k + 2) ∧ st'.later = [] ∧ ∀ j, j < n → st'.now j = if j = hd.spot then secB N 0 hd.B else st.now j := by
  have hs := hd.spot_le.1
  unfold St.putH
  rw [if_pos ((Hd.good_iff hd).2 ho)]
  rcases h.put hd.spot 1 (by omega) hN hd.B with ⟨-, st', e, C, L, n1⟩ | ⟨f, -⟩
  · rw [count_B] at C n1
    refine ⟨st', e, C, L, fun j hj => ?_⟩
    rw [n1 j hj]
    by_cases ej : j = hd.spot
    · subst ej
      rw [if_pos (by omega), if_pos rfl, Nat.sub_self, part_B]; rfl
    · rw [if_neg (by omega), if_neg ej]
  · rw [count_B] at f
    omega
end Go.Proofs.Ytgolddcmhjdmdaa
