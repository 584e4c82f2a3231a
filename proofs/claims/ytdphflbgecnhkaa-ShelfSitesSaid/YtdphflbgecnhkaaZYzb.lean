/- Stage 26: strings.Cut at one byte, by the shelf's own contract of what it calls; the landed shelf's Parse. No condition but sizes. -/
import Derived.Test.YtdphflbgecnhkaaZYf
import Derived.Test.YtdphflbgecnhkaaZYw
import Derived.Shelf.Strings.Search2
namespace Go.Proofs.Ytdphflbgecnhkaa
open Go.Shelf Go.RowKit Go.Sort Wm
def lays219_ren : Go.Shelf.Ren := ⟨fun | 219 => 18 | 217 => 20 | 225 => 21 | 224 => 22 | 267 => 23 | 266 => 24 | 314 => 25 | n => n, fun | 9 => 9 | 3 => 3 | 4 => 4 | 5 => 5 | 46 => 46 | 146 => 52 | 51 => 51 | n => n, fun | 1 => 0 | n => n⟩
theorem lays219 : Go.Proofs.Lays.n219 Try.prog lays219_ren := {
  mixed := by kernel_rfl
  f217 := Try.func20.trans (congrArg some (by kernel_rfl))
  f219 := Try.func18.trans (congrArg some (by kernel_rfl))
  f224 := Try.func22.trans (congrArg some (by kernel_rfl))
  f225 := Try.func21.trans (congrArg some (by kernel_rfl))
  f266 := Try.func24.trans (congrArg some (by kernel_rfl))
  f267 := Try.func23.trans (congrArg some (by kernel_rfl))
  f314 := Try.func25.trans (congrArg some (by kernel_rfl))
  t3 := Try.underlying3
  a3 := Try.isAgg3
  z3 := Try.sizeOf3
  v3 := Try.zeroValue3
  t4 := Try.underlying4
  a4 := Try.isAgg4
  z4 := Try.sizeOf4
  v4 := Try.zeroValue4
  t5 := Try.underlying5
  a5 := Try.isAgg5
  z5 := Try.sizeOf5
  v5 := Try.zeroValue5
  t9 := Try.underlying9
  a9 := Try.isAgg9
  z9 := Try.sizeOf9
  v9 := Try.zeroValue9
  t46 := Try.underlying46
  a46 := Try.isAgg46
  z46 := Try.sizeOf46
  v46 := Try.zeroValue46
  t51 := Try.underlying51
  a51 := Try.isAgg51
  z51 := Try.sizeOf51
  v51 := Try.zeroValue51
  t146 := Try.underlying52
  a146 := Try.isAgg52
  z146 := Try.sizeOf52
  v146 := Try.zeroValue52
  g1 := by kernel_rfl }
theorem indexByte_spec (c : UInt8) : ∀ (l : List UInt8), (Lib.indexByte l c = -1 ∧ ∀ (j : Nat) b, l[j]? = some b → b ≠ c) ∨ ∃ k : Nat, Lib.indexByte l c = (k : Int) ∧ l[k]? = some c ∧ ∀ (j : Nat) b, j < k → l[j]? = some b → b ≠ c
  | [] => .inl ⟨rfl, fun j b h => by simp at h⟩
  | x :: l => by
    by_cases hx : x = c
    · subst hx
      exact .inr ⟨0, by simp [Lib.indexByte], rfl, fun j b h => absurd h (Nat.not_lt_zero _)⟩
    · have hx2 : (x == c) = false := beq_eq_false_iff_ne.2 hx
      rcases indexByte_spec c l with ⟨h1, h2⟩ | ⟨k, h1, h2, h3⟩
      · refine .inl ⟨by simp [Lib.indexByte, hx2, h1], fun j b h => ?_⟩
        cases j with
        | zero => simp at h; rw [← h]; exact hx
        | succ j => exact h2 j b (by simpa using h)
      · have hk : (Lib.indexByte l c == -1) = false := by rw [h1, beq_eq_false_iff_ne]; omega
        refine .inr ⟨k + 1, ?_, by simpa using h2, fun j b hj h => ?_⟩
        · rw [Lib.indexByte, hx2, hk, h1]; simp
        · cases j with
          | zero => simp at h; rw [← h]; exact hx
          | succ j => exact h3 j b (by omega) (by simpa using h)
theorem at_index (s : ByteArray) : AtIs s 0 (Lib.indexByte s.data.toList 64) := by
  have hg : ∀ j (h : j < s.size), s.data.toList[j]? = some s[j] := fun j h => by
    rw [List.getElem?_eq_getElem (by simpa using h)]; rfl
  rcases indexByte_spec 64 s.data.toList with ⟨h1, h2⟩ | ⟨k, h1, h2, h3⟩
  · rw [h1]
    exact .inl ⟨rfl, fun j h _ e => h2 j _ (hg j h) (UInt8.toNat_inj.1 e)⟩
  · rw [h1]
    have hk : k < s.size := by
      have := (List.getElem?_eq_some_iff.1 h2).1
      simpa using this
    rw [hg k hk] at h2
    exact .inr ⟨k, hk, rfl, Nat.zero_le _, by rw [Option.some.inj h2]; rfl, fun j hj _ hjk e => h3 j _ hjk (hg j hj) (UInt8.toNat_inj.1 e)⟩
theorem at_is {s : ByteArray} {a : Int} (h : AtIs s 0 a) : Lib.indexByte s.data.toList 64 = a := AtIs.uniq (at_index s) h
set_option maxRecDepth 100000 in
theorem shIndex_q (s : ByteArray) {a : Int} (h : AtIs s 0 a) (w : World) : Calls Try.prog 18 #[.string s, .string ⟨#[64]⟩] w fun e w' => e = .returned (.int .i64 a) ∧ w = w' := by
  rw [← at_is h]
  exact (Any.stringslite_Index_one lays219 s 64 w).mono fun _ _ h => ⟨h.1, h.2.symm⟩
set_option maxRecDepth 100000 in
set_option maxHeartbeats 1000000 in
theorem shCutlite_miss (s : ByteArray) (h : AtIs s 0 (-1)) (w : World) : Calls Try.prog 16 #[.string s, .string ⟨#[64]⟩] w fun e w' => e = .returned (.tuple #[.string s, .string ⟨#[]⟩, .bool false]) ∧ Below w.heap.size w w' := by
  have c := Lib.hid (fun W => shIndex_q s h W)
  go_enter Try.func16, Try.ntmps16
  go_wp2_with (go_at_call 18; with_reducible refine (c.out _).mono ?_; rintro e W1 ⟨rfl, rfl⟩)
  go_ret3
  exact ⟨rfl, Below.refl _ _⟩
set_option maxRecDepth 100000 in
set_option maxHeartbeats 1000000 in
theorem shCutlite_hit (s : ByteArray) (k : Nat) (h : AtIs s 0 (k : Int)) (hs : s.size ≤ 140737488351232) (w : World) : Calls Try.prog 16 #[.string s, .string ⟨#[64]⟩] w fun e w' => e = .returned (.tuple #[.string (s.extract 0 k), .string (s.extract (k + 1) s.size), .bool true]) ∧ Below w.heap.size w w' := by
  have c := Lib.hid (fun W => shIndex_q s h W)
  have hk := (at_split h).1
  have h0 : (0 : Int) ≤ (k : Int) := by omega
  have h1 : (k : Int) ≤ (s.size : Int) := by omega
  have h2 : (0 : Int) ≤ (k : Int) + 1 := by omega
  have h3 : (k : Int) + 1 ≤ (s.size : Int) := by omega
  go_enter Try.func16, Try.ntmps16
  go_wp2_with (go_at_call 18; with_reducible refine (c.out _).mono ?_; rintro e W1 ⟨rfl, rfl⟩)
  go_region
  go_wp2
  go_ret3
  exact ⟨rfl, (Below.refl _ _).drew⟩
end Go.Proofs.Ytdphflbgecnhkaa
