/- Which scripts are played: the law's own bound, walked. No condition but that each text is of a length that can be. -/
import Derived.Test.YthmcdldmmhnleaaPi
import Derived.WalkSpells
import Derived.WalkLawsBesides
import Derived.Lib.Hide
import Derived.LoopTactic
namespace Go.Proofs.Ythmcdldmmhnleaa
open Go.RowKit

/-- How many bytes the texts have, together. -/
def dataSum (l : List Call) : Nat := (l.map fun x => x.data.size).sum
theorem dataSum_take (l : List Call) (k : Nat) (h : k < l.length) : dataSum (l.take (k + 1)) = dataSum (l.take k) + l[k].data.size := by
  unfold dataSum
  rw [List.take_succ_eq_append_getElem h, List.map_append, List.sum_append]
  simp
theorem dataSum_le (l : List Call) (k : Nat) : dataSum (l.take k) ≤ dataSum l := by
  have h : dataSum l = dataSum (l.take k) + dataSum (l.drop k) := by
    conv => lhs; rw [← List.take_append_drop k l]
    unfold dataSum
    rw [List.map_append, List.sum_append]
  omega
def greatP (l : List Call) : Bool := decide (8192 < dataSum l) || decide (80 < l.length)

set_option maxRecDepth 100000 in
set_option maxHeartbeats 1000000 in
theorem greatp_any (ao : Option Addr) (cap : Nat) (l : List Call) (hw : ∀ x ∈ l, x.Wf) (hlen : l.length ≤ 140737488351232) (w : World) (hS : CallsAt w ao l) :
    Calls Try.prog 9 #[.slice ao l.length cap] w fun e w' => e = .returned (.bool (greatP l)) ∧ Below w.heap.size w w' := by
  go_enter Try.func9, Try.ntmps9
  go_wp2
  go_loopw [3, 8] (fun n i wr => ∃ k : Nat, k ≤ l.length ∧ i = .int .i64 k ∧ n = .int .i64 ((dataSum (l.take k) : Nat) : Int) ∧ dataSum (l.take k) ≤ 8192 ∧ Below w.heap.size w wr) (fun _ i _ => (l.length - intOf i).toNat)
  case atStart => exact ⟨0, by omega, rfl, rfl, by simp [dataSum], Below.refl _ _⟩
  case round =>
    obtain ⟨k, hk, rfl, rfl, hn, hb⟩ := hrel
    by_cases hlt : k < l.length
    · obtain ⟨b, off, rfl, hbl, hc⟩ := (hS.below hb (Nat.le_refl _)).spot k hlt
      have hx := (hw _ (List.getElem_mem hlt)).data
      have hs := dataSum_take l k hlt
      have hle := dataSum_le l (k + 1)
      generalize l[k] = x at *
      have c0 := hc 0 _ rfl
      have c1 := hc 1 _ rfl
      have c2 := hc 2 _ rfl
      have c3 := hc 3 _ rfl
      have c4 := hc 4 _ rfl
      dsimp only [Nat.add_zero] at c0
      clear hc
      generalize hm1 : dataSum (l.take (k + 1)) = m1 at *
      have hm1' := Lib.hid hm1
      clear hm1
      generalize hm0 : dataSum (l.take k) = m0 at *
      have hm0' := Lib.hid hm0
      clear hm0
      by_cases hg : 8192 < m1
      · have hG := Lib.hid (show greatP l = true by unfold greatP; rw [decide_eq_true (by omega : 8192 < dataSum l)]; rfl)
        have hg2 : (8192 : Int) < ((m0 : Nat) : Int) + ((x.data.size : Nat) : Int) := by omega
        clear hs hle
        go_wp2
        go_ret
        exact ⟨by rw [hG.out]; rfl, hb.alloc hb.size _⟩
      · have hg2 : ¬ (8192 : Int) < ((m0 : Nat) : Int) + ((x.data.size : Nat) : Int) := by omega
        replace hs := Lib.hid hs
        go_wp2
        exact ⟨⟨k + 1, by omega, by go_num, by rw [hm1'.out, hs.out]; go_num, by rw [hm1'.out]; omega, hb.alloc hb.size _⟩, by simp [intOf]; omega⟩
    · obtain rfl : k = l.length := by omega
      have hG := Lib.hid (show greatP l = decide ((80 : Int) < ((l.length : Nat) : Int)) by
        rw [List.take_length] at hn
        unfold greatP
        rw [decide_eq_false (by omega : ¬ 8192 < dataSum l), Bool.false_or, decide_eq_decide]; omega)
      go_wp2
      go_ret
      exact ⟨by rw [hG.out]; rfl, hb⟩
end Go.Proofs.Ythmcdldmmhnleaa
