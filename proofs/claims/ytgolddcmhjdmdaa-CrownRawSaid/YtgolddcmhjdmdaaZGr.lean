/- The machine of stage 4: a disk of sectors as plain lists. No program. -/
/- strings.Repeat of one nought, by the shelf's own contract. No condition but the number. -/
import Derived.Test.YtgolddcmhjdmdaaRows
import Derived.RowKit
import Derived.Shelf.Strings.Repeat
namespace Go.Proofs.Ytgolddcmhjdmdaa
open Go

/-- What lasts; the writes behind that, where and what; how many operations were tried; when one fails. -/
structure St where
  safe : List ByteArray
  later : List (Nat × ByteArray)
  ops : Int
  arm : Int
def zerosB (n : Nat) : ByteArray := ⟨(List.replicate n (0 : UInt8)).toArray⟩
theorem zerosB_size (n : Nat) : (zerosB n).size = n := by
  show (List.replicate n (0 : UInt8)).toArray.size = n
  simp
/-- A sector's bytes, noughts behind them. -/
def padB (s : ByteArray) : ByteArray := s ++ (zerosB 128).extract s.size 128
theorem padB_size (s : ByteArray) (h : s.size ≤ 128) : (padB s).size = 128 := by
  unfold padB
  rw [ByteArray.size_append, ByteArray.size_extract, zerosB_size]
  omega
def St.new (n : Int) : St := ⟨List.replicate (min (max n 0) 4096).toNat (zerosB 128), [], 0, 0⟩
/-- What a sector holds. -/
def nowAt (later : List (Nat × ByteArray)) (i : Nat) (s : ByteArray) : ByteArray := later.foldl (fun s w => if w.1 = i then w.2 else s) s
def St.now (st : St) (i : Nat) : ByteArray := nowAt st.later i (st.safe.getD i ByteArray.empty)
/-- An operation is tried. -/
def St.tried (st : St) : St := { st with ops := st.ops + 1, arm := st.arm - 1 }
def St.fails (st : St) : Bool := decide (st.arm - 1 = 0)
def St.goodW (st : St) (i : Int) (s : ByteArray) : Bool := decide (0 ≤ i) && decide (i < (st.safe.length : Int)) && decide (s.size ≤ 128)
def St.write (st : St) (i : Int) (s : ByteArray) : Int × St :=
  if st.goodW i s = true then (if st.fails = true then (8, st.tried) else (0, { st.tried with later := st.later ++ [(i.toNat, padB s)] })) else (1, st)
/-- The writes from a number on, of which some last. -/
def lasting (mask : Nat) (torn : Int) (c : Nat) : Nat → List (Nat × ByteArray) → List ByteArray → List ByteArray
  | _, [], safe => safe
  | k, w :: r, safe => lasting mask torn c (k + 1) r
      (if (k : Int) = torn then safe.set w.1 (w.2.extract 0 c ++ (safe.getD w.1 ByteArray.empty).extract c 128)
       else if mask / 2 ^ (min k 63) % 2 = 1 then safe.set w.1 w.2 else safe)
def cutC (cut : Int) : Nat := (min (max cut 0) 128).toNat
def St.crash (st : St) (mask : Nat) (torn cut : Int) : St := { st with safe := lasting mask torn (cutC cut) 0 st.later st.safe, later := [] }
def allOnes : Nat := 18446744073709551615
def St.sync (st : St) : Int × St :=
  if st.fails = true then (8, st.tried) else (0, st.tried.crash allOnes (-1) 0)
/-- What can be: sectors of 128 bytes, writes of sectors that are there. -/
structure St.Fit (st : St) : Prop where
  safe : ∀ s ∈ st.safe, s.size = 128
  data : ∀ w ∈ st.later, w.2.size = 128 ∧ w.1 < st.safe.length
  many : st.safe.length ≤ 4096
  few : st.later.length ≤ 1000
structure St.Ok (st : St) : Prop extends St.Fit st where
  ops : 0 ≤ st.ops ∧ st.ops ≤ 1000000
  arm : -1000000 ≤ st.arm ∧ st.arm ≤ 9223372036854775807
theorem lasting_length (mask : Nat) (torn : Int) (c : Nat) : ∀ (r : List (Nat × ByteArray)) (k : Nat) (safe : List ByteArray), (lasting mask torn c k r safe).length = safe.length
  | [], _, _ => rfl
  | w :: r, k, safe => by
    rw [lasting, lasting_length mask torn c r]
    split
    · exact List.length_set
    · split
      · exact List.length_set
      · rfl
theorem step_sizes {safe : List ByteArray} (hs : ∀ s ∈ safe, s.size = 128) {w : Nat × ByteArray} (hw : w.2.size = 128) (hl : w.1 < safe.length) {c : Nat} (hc : c ≤ 128) :
    (w.2.extract 0 c ++ (safe.getD w.1 ByteArray.empty).extract c 128).size = 128 := by
  have h1 : (safe.getD w.1 ByteArray.empty).size = 128 := by
    rw [List.getD_eq_getElem?_getD, List.getElem?_eq_getElem hl]
    exact hs _ (List.getElem_mem hl)
  rw [ByteArray.size_append, ByteArray.size_extract, ByteArray.size_extract]
  omega
theorem mem_set_sizes {safe : List ByteArray} (hs : ∀ s ∈ safe, s.size = 128) (i : Nat) {x : ByteArray} (hx : x.size = 128) : ∀ s ∈ safe.set i x, s.size = 128 := by
  intro s h
  rcases List.mem_or_eq_of_mem_set h with h | h
  · exact hs s h
  · rw [h]; exact hx
theorem lasting_sizes (mask : Nat) (torn : Int) (c : Nat) (hc : c ≤ 128) : ∀ (r : List (Nat × ByteArray)) (k : Nat) (safe : List ByteArray), (∀ w ∈ r, w.2.size = 128 ∧ w.1 < safe.length) → (∀ s ∈ safe, s.size = 128) → ∀ s ∈ lasting mask torn c k r safe, s.size = 128
  | [], _, _, _, hs => hs
  | w :: r, k, safe, hw, hs => by
    rw [lasting]
    have h0 := hw w (List.mem_cons_self ..)
    refine lasting_sizes mask torn c hc r _ _ ?_ ?_
    · intro v hv
      have := hw v (List.mem_cons_of_mem _ hv)
      refine ⟨this.1, ?_⟩
      split
      · rw [List.length_set]; exact this.2
      · split
        · rw [List.length_set]; exact this.2
        · exact this.2
    · split
      · exact mem_set_sizes hs _ (step_sizes hs h0.1 h0.2 hc)
      · split
        · exact mem_set_sizes hs _ h0.1
        · exact hs
theorem cutC_le (cut : Int) : cutC cut ≤ 128 := by unfold cutC; omega
theorem crash_length (st : St) (mask : Nat) (torn cut : Int) : (st.crash mask torn cut).safe.length = st.safe.length := lasting_length _ _ _ _ _ _
theorem St.Fit.crash {st : St} (h : st.Fit) (mask : Nat) (torn cut : Int) : (st.crash mask torn cut).Fit where
  safe := lasting_sizes mask torn _ (cutC_le cut) st.later 0 st.safe h.data h.safe
  data := fun w hw => by simp [St.crash] at hw
  many := by rw [crash_length]; exact h.many
  few := by simp [St.crash]
theorem St.Ok.crash {st : St} (h : st.Ok) (mask : Nat) (torn cut : Int) : (st.crash mask torn cut).Ok where
  toFit := h.toFit.crash mask torn cut
  ops := h.ops
  arm := h.arm
theorem St.Fit.tried {st : St} (h : st.Fit) : st.tried.Fit := ⟨h.safe, h.data, h.many, h.few⟩
theorem St.Ok.new (n : Int) : (St.new n).Ok where
  safe := fun s hs => by rw [List.eq_of_mem_replicate hs]; exact zerosB_size 128
  data := fun w hw => by simp [St.new] at hw
  many := by simp [St.new]; omega
  few := by simp [St.new]
  ops := by simp [St.new]
  arm := by simp [St.new]
end Go.Proofs.Ytgolddcmhjdmdaa
namespace Go.Proofs.Ytgolddcmhjdmdaa
open Go.Shelf
def lays105_ren : Go.Shelf.Ren := ⟨fun | 105 => 53 | 212 => 56 | 99 => 57 | 165 => 58 | 166 => 59 | 170 => 60 | 169 => 61 | 263 => 63 | 264 => 64 | 206 => 65 | 240 => 66 | 241 => 67 | 276 => 68 | 277 => 69 | n => n, fun | 9 => 9 | 3 => 3 | 4 => 4 | 20 => 20 | 0 => 0 | 46 => 94 | 109 => 97 | 5 => 5 | 72 => 101 | 76 => 104 | 51 => 82 | 146 => 108 | 53 => 40 | 148 => 110 | 70 => 99 | 37 => 53 | 75 => 103 | 127 => 112 | 164 => 113 | 80 => 58 | n => n, fun | n => n⟩
theorem lays105 : Go.Proofs.Lays.n105 Try.prog lays105_ren := {
  mixed := by kernel_rfl
  f99 := Try.func57.trans (congrArg some (by kernel_rfl))
  f105 := Try.func53.trans (congrArg some (by kernel_rfl))
  f165 := Try.func58.trans (congrArg some (by kernel_rfl))
  f166 := Try.func59.trans (congrArg some (by kernel_rfl))
  f169 := Try.func61.trans (congrArg some (by kernel_rfl))
  f170 := Try.func60.trans (congrArg some (by kernel_rfl))
  f206 := Try.func65.trans (congrArg some (by kernel_rfl))
  f212 := Try.func56.trans (congrArg some (by kernel_rfl))
  f240 := Try.func66.trans (congrArg some (by kernel_rfl))
  f241 := Try.func67.trans (congrArg some (by kernel_rfl))
  f263 := Try.func63.trans (congrArg some (by kernel_rfl))
  f264 := Try.func64.trans (congrArg some (by kernel_rfl))
  f276 := Try.func68.trans (congrArg some (by kernel_rfl))
  f277 := Try.func69.trans (congrArg some (by kernel_rfl))
  t0 := Try.underlying0
  a0 := Try.isAgg0
  z0 := Try.sizeOf0
  v0 := Try.zeroValue0
  t3 := Try.underlying3
  a3 := Try.isAgg3
  z3 := Try.sizeOf3
  v3 := Try.zeroValue3
  t4 := Try.underlying4
  a4 := Try.isAgg4
  z4 := Try.sizeOf4
  v4 := Try.zeroValue4
  t5 := Try.underlying5
  a5 := Try.isAgg5
  z5 := Try.sizeOf5
  v5 := Try.zeroValue5
  t9 := Try.underlying9
  a9 := Try.isAgg9
  z9 := Try.sizeOf9
  v9 := Try.zeroValue9
  t20 := Try.underlying20
  a20 := Try.isAgg20
  z20 := Try.sizeOf20
  v20 := Try.zeroValue20
  t37 := Try.underlying53
  a37 := Try.isAgg53
  z37 := Try.sizeOf53
  v37 := Try.zeroValue53
  t46 := Try.underlying94
  a46 := Try.isAgg94
  z46 := Try.sizeOf94
  v46 := Try.zeroValue94
  t51 := Try.underlying82
  a51 := Try.isAgg82
  z51 := Try.sizeOf82
  v51 := Try.zeroValue82
  t53 := Try.underlying40
  a53 := Try.isAgg40
  z53 := Try.sizeOf40
  v53 := Try.zeroValue40
  t70 := Try.underlying99
  a70 := Try.isAgg99
  z70 := Try.sizeOf99
  v70 := Try.zeroValue99
  t72 := Try.underlying101
  a72 := Try.isAgg101
  z72 := Try.sizeOf101
  v72 := Try.zeroValue101
  t75 := Try.underlying103
  a75 := Try.isAgg103
  z75 := Try.sizeOf103
  v75 := Try.zeroValue103
  t76 := Try.underlying104
  a76 := Try.isAgg104
  z76 := Try.sizeOf104
  v76 := Try.zeroValue104
  t109 := Try.underlying97
  a109 := Try.isAgg97
  z109 := Try.sizeOf97
  v109 := Try.zeroValue97
  t127 := Try.underlying112
  a127 := Try.isAgg112
  z127 := Try.sizeOf112
  v127 := Try.zeroValue112
  t146 := Try.underlying108
  a146 := Try.isAgg108
  z146 := Try.sizeOf108
  v146 := Try.zeroValue108
  t148 := Try.underlying110
  a148 := Try.isAgg110
  z148 := Try.sizeOf110
  v148 := Try.zeroValue110
  t164 := Try.underlying113
  a164 := Try.isAgg113
  z164 := Try.sizeOf113
  v164 := Try.zeroValue113 }
theorem extra105 : Go.Proofs.Builder.Extra Try.prog lays105_ren := {
  sizeBuilder := by kernel_rfl
  liesBuilder := by kernel_rfl
  t5 := Try.underlying5
  a5 := Try.isAgg5
  z5 := Try.sizeOf5
  v5 := Try.zeroValue5
  infoByte := by kernel_rfl
  cellsByte := by kernel_rfl
  sizeByte := by kernel_rfl
  neB5 := by decide }
open Go.RowKit
/-- So many noughts. -/
theorem noughts_any (k : Nat) (hk : k ≤ 104) (w : World) : Calls Try.prog 53 #[.string ⟨#[0]⟩, .int .i64 ((k : Nat) : Int)] w fun e w' => e = .returned (.string (zerosB k)) ∧ Below w.heap.size w w' := by
  have h := Go.Proofs.Any.strings_Repeat lays105 extra105 ⟨#[0]⟩ k w (by omega) (by show 1 * k ≤ _; omega)
  have e : (⟨(Lib.repeatL (⟨#[0]⟩ : ByteArray).data.toList k).toArray⟩ : ByteArray) = zerosB k := by
    have := Lib.repeatL_replicate 0 1 k
    show (⟨(Lib.repeatL (List.replicate 1 0) k).toArray⟩ : ByteArray) = _
    rw [this, Nat.mul_one]; rfl
  rw [e] at h
  exact h
end Go.Proofs.Ytgolddcmhjdmdaa
