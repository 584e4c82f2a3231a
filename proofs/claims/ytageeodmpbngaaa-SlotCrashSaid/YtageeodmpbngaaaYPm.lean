/- The machine of stage 4: a disk of sectors as plain lists. No program. -/
import Derived.RowKit
namespace Go.Proofs.Ytageeodmpbngaaa
open Go

/-- What lasts; the writes behind that, where and what; how many operations were tried; when one fails. -/
structure St where
  safe : List ByteArray
  later : List (Nat × ByteArray)
  ops : Int
  arm : Int
def zerosB (n : Nat) : ByteArray := ⟨(List.replicate n (0 : UInt8)).toArray⟩
theorem zerosB_size (n : Nat) : (zerosB n).size = n := by
  show (List.replicate n (0 : UInt8)).toArray.size = n
  simp
/-- A sector's bytes, noughts behind them. -/
def padB (s : ByteArray) : ByteArray := s ++ (zerosB 128).extract s.size 128
theorem padB_size (s : ByteArray) (h : s.size ≤ 128) : (padB s).size = 128 := by
  unfold padB
  rw [ByteArray.size_append, ByteArray.size_extract, zerosB_size]
  omega
def St.new (n : Int) : St := ⟨List.replicate (min (max n 0) 4096).toNat (zerosB 128), [], 0, 0⟩
/-- What a sector holds. -/
def nowAt (later : List (Nat × ByteArray)) (i : Nat) (s : ByteArray) : ByteArray := later.foldl (fun s w => if w.1 = i then w.2 else s) s
def St.now (st : St) (i : Nat) : ByteArray := nowAt st.later i (st.safe.getD i ByteArray.empty)
/-- An operation is tried. -/
def St.tried (st : St) : St := { st with ops := st.ops + 1, arm := st.arm - 1 }
def St.fails (st : St) : Bool := decide (st.arm - 1 = 0)
def St.goodW (st : St) (i : Int) (s : ByteArray) : Bool := decide (0 ≤ i) && decide (i < (st.safe.length : Int)) && decide (s.size ≤ 128)
def St.write (st : St) (i : Int) (s : ByteArray) : Int × St :=
  if st.goodW i s = true then (if st.fails = true then (8, st.tried) else (0, { st.tried with later := st.later ++ [(i.toNat, padB s)] })) else (1, st)
/-- The writes from a number on, of which some last. -/
def lasting (mask : Nat) (torn : Int) (c : Nat) : Nat → List (Nat × ByteArray) → List ByteArray → List ByteArray
  | _, [], safe => safe
  | k, w :: r, safe => lasting mask torn c (k + 1) r
      (if (k : Int) = torn then safe.set w.1 (w.2.extract 0 c ++ (safe.getD w.1 ByteArray.empty).extract c 128)
       else if mask / 2 ^ (min k 63) % 2 = 1 then safe.set w.1 w.2 else safe)
def cutC (cut : Int) : Nat := (min (max cut 0) 128).toNat
def St.crash (st : St) (mask : Nat) (torn cut : Int) : St := { st with safe := lasting mask torn (cutC cut) 0 st.later st.safe, later := [] }
def allOnes : Nat := 18446744073709551615
def St.sync (st : St) : Int × St :=
  if st.fails = true then (8, st.tried) else (0, st.tried.crash allOnes (-1) 0)
/-- What can be: sectors of 128 bytes, writes of sectors that are there. -/
structure St.Fit (st : St) : Prop where
  safe : ∀ s ∈ st.safe, s.size = 128
  data : ∀ w ∈ st.later, w.2.size = 128 ∧ w.1 < st.safe.length
  many : st.safe.length ≤ 4096
  few : st.later.length ≤ 1000
structure St.Ok (st : St) : Prop extends St.Fit st where
  ops : 0 ≤ st.ops ∧ st.ops ≤ 1000000
  arm : -1000000 ≤ st.arm ∧ st.arm ≤ 9223372036854775807
theorem lasting_length (mask : Nat) (torn : Int) (c : Nat) : ∀ (r : List (Nat × ByteArray)) (k : Nat) (safe : List ByteArray), (lasting mask torn c k r safe).length = safe.length
  | [], _, _ => rfl
  | w :: r, k, safe => by
    rw [lasting, lasting_length mask torn c r]
    split
    · exact List.length_set
    · split
      · exact List.length_set
      · rfl
theorem step_sizes {safe : List ByteArray} (hs : ∀ s ∈ safe, s.size = 128) {w : Nat × ByteArray} (hw : w.2.size = 128) (hl : w.1 < safe.length) {c : Nat} (hc : c ≤ 128) :
    (w.2.extract 0 c ++ (safe.getD w.1 ByteArray.empty).extract c 128).size = 128 := by
  have h1 : (safe.getD w.1 ByteArray.empty).size = 128 := by
    rw [List.getD_eq_getElem?_getD, List.getElem?_eq_getElem hl]
    exact hs _ (List.getElem_mem hl)
  rw [ByteArray.size_append, ByteArray.size_extract, ByteArray.size_extract]
  omega
theorem mem_set_sizes {safe : List ByteArray} (hs : ∀ s ∈ safe, s.size = 128) (i : Nat) {x : ByteArray} (hx : x.size = 128) : ∀ s ∈ safe.set i x, s.size = 128 := by
  intro s h
  rcases List.mem_or_eq_of_mem_set h with h | h
  · exact hs s h
  · rw [h]; exact hx
theorem lasting_sizes (mask : Nat) (torn : Int) (c : Nat) (hc : c ≤ 128) : ∀ (r : List (Nat × ByteArray)) (k : Nat) (safe : List ByteArray), (∀ w ∈ r, w.2.size = 128 ∧ w.1 < safe.length) → (∀ s ∈ safe, s.size = 128) → ∀ s ∈ lasting mask torn c k r safe, s.size = 128
  | [], _, _, _, hs => hs
  | w :: r, k, safe, hw, hs => by
    rw [lasting]
    have h0 := hw w (List.mem_cons_self ..)
    refine lasting_sizes mask torn c hc r _ _ ?_ ?_
    · intro v hv
      have := hw v (List.mem_cons_of_mem _ hv)
      refine ⟨this.1, ?_⟩
      split
      · rw [List.length_set]; exact this.2
      · split
        · rw [List.length_set]; exact this.2
        · exact this.2
    · split
      · exact mem_set_sizes hs _ (step_sizes hs h0.1 h0.2 hc)
      · split
        · exact mem_set_sizes hs _ h0.1
        · exact hs
theorem cutC_le (cut : Int) : cutC cut ≤ 128 := by unfold cutC; omega
theorem crash_length (st : St) (mask : Nat) (torn cut : Int) : (st.crash mask torn cut).safe.length = st.safe.length := lasting_length _ _ _ _ _ _
theorem St.Fit.crash {st : St} (h : st.Fit) (mask : Nat) (torn cut : Int) : (st.crash mask torn cut).Fit where
  safe := lasting_sizes mask torn _ (cutC_le cut) st.later 0 st.safe h.data h.safe
  data := fun w hw => by simp [St.crash] at hw
  many := by rw [crash_length]; exact h.many
  few := by simp [St.crash]
theorem St.Ok.crash {st : St} (h : st.Ok) (mask : Nat) (torn cut : Int) : (st.crash mask torn cut).Ok where
  toFit := h.toFit.crash mask torn cut
  ops := h.ops
  arm := h.arm
theorem St.Fit.tried {st : St} (h : st.Fit) : st.tried.Fit := ⟨h.safe, h.data, h.many, h.few⟩
theorem St.Ok.new (n : Int) : (St.new n).Ok where
  safe := fun s hs => by rw [List.eq_of_mem_replicate hs]; exact zerosB_size 128
  data := fun w hw => by simp [St.new] at hw
  many := by simp [St.new]; omega
  few := by simp [St.new]
  ops := by simp [St.new]
  arm := by simp [St.new]
end Go.Proofs.Ytageeodmpbngaaa
