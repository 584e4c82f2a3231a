/- Which lists of items are played: the law's own bound, walked. No condition but that each text is of a length that can be. -/
import Derived.Test.YtpccoachpilfkaaTi
import Derived.WalkSpells
import Derived.WalkLawsBesides
import Derived.Lib.Hide
import Derived.LoopTactic
namespace Go.Proofs.Ytpccoachpilfkaa
open Go.RowKit Wm

/-- How many bytes the texts have, together. -/
def textSum (l : List Item) : Nat := (l.map fun x => x.text.size).sum
theorem textSum_take (l : List Item) (k : Nat) (h : k < l.length) : textSum (l.take (k + 1)) = textSum (l.take k) + l[k].text.size := by
  unfold textSum
  rw [List.take_succ_eq_append_getElem h, List.map_append, List.sum_append]
  simp
theorem textSum_le (l : List Item) (k : Nat) : textSum (l.take k) ≤ textSum l := by
  have h : textSum l = textSum (l.take k) + textSum (l.drop k) := by
    conv => lhs; rw [← List.take_append_drop k l]
    unfold textSum
    rw [List.map_append, List.sum_append]
  omega
def greatB (l : List Item) : Bool := decide (4096 < textSum l) || decide (60 < l.length)

set_option maxRecDepth 100000 in
set_option maxHeartbeats 1000000 in
theorem great_any (ao : Option Addr) (cap : Nat) (l : List Item) (hw : ∀ x ∈ l, x.Wf) (hlen : l.length ≤ 140737488351232) (w : World) (hS : ItemsAt w ao l) :
    Calls Try.prog 8 #[.slice ao l.length cap] w fun e w' => e = .returned (.bool (greatB l)) ∧ Below w.heap.size w w' := by
  go_enter Try.func8, Try.ntmps8
  go_wp2
  go_loopw [3, 8] (fun n i wr => ∃ k : Nat, k ≤ l.length ∧ i = .int .i64 k ∧ n = .int .i64 ((textSum (l.take k) : Nat) : Int) ∧ textSum (l.take k) ≤ 4096 ∧ Below w.heap.size w wr) (fun _ i _ => (l.length - intOf i).toNat)
  case atStart => exact ⟨0, by omega, rfl, rfl, by simp [textSum], Below.refl _ _⟩
  case round =>
    obtain ⟨k, hk, rfl, rfl, hn, hb⟩ := hrel
    by_cases hlt : k < l.length
    · obtain ⟨b, off, rfl, hbl, hc⟩ := (hS.below hb (Nat.le_refl _)).spot k hlt
      have hx := (hw _ (List.getElem_mem hlt)).text
      have hs := textSum_take l k hlt
      have hle := textSum_le l (k + 1)
      generalize l[k] = x at *
      have c0 := hc 0 _ rfl
      have c1 := hc 1 _ rfl
      have c2 := hc 2 _ rfl
      have c3 := hc 3 _ rfl
      have c4 := hc 4 _ rfl
      have c5 := hc 5 _ rfl
      have c6 := hc 6 _ rfl
      dsimp only [Nat.add_zero] at c0
      clear hc
      generalize hm1 : textSum (l.take (k + 1)) = m1 at *
      have hm1' := Lib.hid hm1
      clear hm1
      generalize hm0 : textSum (l.take k) = m0 at *
      have hm0' := Lib.hid hm0
      clear hm0
      by_cases hg : 4096 < m1
      · have hG := Lib.hid (show greatB l = true by unfold greatB; rw [decide_eq_true (by omega : 4096 < textSum l)]; rfl)
        have hg2 : (4096 : Int) < ((m0 : Nat) : Int) + ((x.text.size : Nat) : Int) := by omega
        clear hs hle
        go_wp2
        go_ret
        exact ⟨by rw [hG.out]; rfl, hb.alloc hb.size _⟩
      · have hg2 : ¬ (4096 : Int) < ((m0 : Nat) : Int) + ((x.text.size : Nat) : Int) := by omega
        replace hs := Lib.hid hs
        go_wp2
        exact ⟨⟨k + 1, by omega, by go_num, by rw [hm1'.out, hs.out]; go_num, by rw [hm1'.out]; omega, hb.alloc hb.size _⟩, by simp [intOf]; omega⟩
    · obtain rfl : k = l.length := by omega
      have hG := Lib.hid (show greatB l = decide ((60 : Int) < ((l.length : Nat) : Int)) by
        rw [List.take_length] at hn
        unfold greatB
        rw [decide_eq_false (by omega : ¬ 4096 < textSum l), Bool.false_or, decide_eq_decide]; omega)
      go_wp2
      go_ret
      exact ⟨by rw [hG.out]; rfl, hb⟩
end Go.Proofs.Ytpccoachpilfkaa
