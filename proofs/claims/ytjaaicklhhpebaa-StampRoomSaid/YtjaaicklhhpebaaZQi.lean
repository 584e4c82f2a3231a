/- StampGreatest's walk, out of the landed contracts. -/
import Derived.Test.YtjaaicklhhpebaaZQe
import Derived.StillTailTactics
namespace Go.Proofs.Ytjaaicklhhpebaa
open Go.RowKit Go.Sort Cr

/-- A disk of the law's own. -/
structure Have (Dk : (Nat → Prop) → World → Nat → St → Prop) (w wr : World) (p : Nat) (st : St) : Prop where
  ex : ∃ F, Dk F wr p st ∧ ∀ k, F k → w.heap.size ≤ k
  below : Below w.heap.size w wr
section
variable {Dk : (Nat → Prop) → World → Nat → St → Prop} {w wr w2 : World} {p : Nat} {st st2 : St}
theorem Have.later (K : LandedDk Dk) (h : Have Dk w wr p st) (hb : Below wr.heap.size wr w2) : Have Dk w w2 p st := by
  obtain ⟨⟨F, h1, h2⟩, h3⟩ := h
  exact ⟨⟨F, K.later h1 hb, h2⟩, h3.trans (hb.mono h3.size)⟩
theorem Have.post {F : Nat → Prop} (hF : ∀ k, F k → w.heap.size ≤ k) (hb : Below w.heap.size w wr) (h : DkPost Dk F p st2 wr w2) : Have Dk w w2 p st2 := by
  obtain ⟨F', h1, h2, h3⟩ := h
  refine ⟨⟨F', h1, fun j hj => ?_⟩, hb.trans (h2.to_below hb.size hF)⟩
  by_cases e : j < wr.heap.size
  · exact hF j (h3 j e hj)
  · have := hb.size; omega
theorem Have.of_wet {w1 : World} {F : Nat → Prop} (hb : Below w.heap.size w w1) (h1 : Dk F w2 p st) (h2 : ∀ k, F k → w1.heap.size ≤ k) (h3 : Below w1.heap.size w1 w2) : Have Dk w w2 p st :=
  ⟨⟨F, h1, fun k hk => by have := h2 k hk; have := hb.size; omega⟩, hb.trans (h3.mono hb.size)⟩
/-- A sector read. -/
theorem Have.read (K : LandedDk Dk) (h : Have Dk w wr p st) (hok : st.Ok) (i : Nat) (hi : i < st.safe.length) :
    Calls Try.prog 21 #[.pointer (some ⟨p, 0, none⟩), .int .i64 (i : Int)] wr fun e w2 => e = .returned (.tuple #[.string (st.now i), .int .i64 0]) ∧ Have Dk w w2 p st := by
  obtain ⟨⟨F, h1, h2⟩, h3⟩ := h
  refine (K.read F wr p st (i : Int) h1 hok).mono ?_
  rintro e w2 ⟨rfl, hb⟩
  refine ⟨?_, ⟨⟨F, K.later h1 hb, h2⟩, h3.trans (hb.mono h3.size)⟩⟩
  have e1 : rdS st (i : Int) = st.now i := by unfold rdS; rw [if_pos ⟨by omega, by omega⟩, Int.toNat_natCast]
  have e2 : rdE st (i : Int) = 0 := by unfold rdE; rw [if_pos ⟨by omega, by omega⟩]
  rw [e1, e2]
theorem now_size {st : St} (hok : st.Ok) (i : Nat) (hi : i < st.safe.length) : (st.now i).size = 128 := by
  have h0 : (st.safe.getD i ByteArray.empty).size = 128 := by
    rw [List.getD_eq_getElem?_getD, List.getElem?_eq_getElem hi]
    exact hok.safe _ (List.getElem_mem hi)
  have hd := hok.data
  unfold St.now
  generalize st.safe.getD i ByteArray.empty = x at *
  generalize st.later = L at *
  unfold nowAt
  induction L generalizing x with
  | nil => exact h0
  | cons v r ih =>
    rw [List.foldl_cons]
    refine ih _ ?_ (fun w hw => hd w (List.mem_cons_of_mem _ hw))
    split
    · exact (hd v (List.mem_cons_self ..)).1
    · exact h0
end
theorem max3 (a b c : Int) : (if (if a < b then b else a) < c then c else if a < b then b else a) = max a (max b c) := by
  by_cases h : a < b
  · rw [if_pos h]
    split <;> omega
  · rw [if_neg h]
    split <;> omega
theorem great_new0 : (St.new 0).great = 0 := rfl
set_option maxRecDepth 100000 in
set_option maxHeartbeats 4000000 in
theorem stampGreatest_any {Dk : (Nat → Prop) → World → Nat → St → Prop} (K : LandedDk Dk) (S : LandedSt Dk) (ao : Option Addr) (cap : Nat) (l : List ByteArray) (hlen : l.length ≤ 140737488351232) (w : World) (hS : StrsAt w ao l) :
    Calls Try.prog 7 #[.slice ao l.length cap] w fun e w' => e = .returned (.bool true) ∧ Below w.heap.size w w' := by
  have hal := Lib.hid (stampAlive_any S)
  have hdk := Lib.hid (fun W h => disk_any K ao cap l hlen W h)
  have hnew := Lib.hid (fun W => K.new 0 W (by decide) (by decide))
  have hg0 := fun F W p h => S.great F W p (St.new 0) h (St.Ok.new 0)
  rw [great_new0] at hg0
  generalize St.new 0 = stz at *
  replace hg0 := Lib.hid hg0
  go_enter Try.func7, Try.ntmps7
  go_wp2_with fail
  refine (hal.out _).mono ?_
  rintro e w1 ⟨rfl, hb1⟩
  replace hS := hS.later hb1
  go_wp2_with fail
  refine (hdk.out _ hS).mono ?_
  rintro e w2 ⟨p, F, st, rfl, hD, hW, hL0, hF, hb2⟩
  have hH0 : Have Dk w w2 p st := Have.of_wet hb1 hD hF hb2
  have hok := hW.ok (by omega)
  have hlen12 := hW.len
  clear hD hF hb1 hb2 hS hdk hal hL0 hW
  go_wp2
  go_loopw [4, 5] (fun mo i wr => ∃ k : Nat, k ≤ 12 ∧ i = .int .i64 k ∧ mo = .int .i64 (greatN st.now k) ∧ Have Dk w wr p st) (fun _ i _ => (12 - intOf i).toNat)
  case atStart => exact ⟨0, by omega, rfl, rfl, hH0⟩
  case round =>
    clear hH0
    obtain ⟨k, hk, rfl, rfl, hH⟩ := hrel
    by_cases hlt : k < 12
    · have hrd := Lib.hid (hH.read K hok k (by omega))
      have hz := now_size hok k (by omega)
      have hgn := Lib.hid (show greatN st.now (k + 1) = max (greatN st.now k) (max (numE ((st.now k).extract 0 8)) (numE ((st.now k).extract 120 128))) from rfl)
      generalize st.now k = x at *
      have c1 := Lib.hid (refnumber_any (x.extract 0 8) (by rw [ByteArray.size_extract]; omega))
      have c2 := Lib.hid (refnumber_any (x.extract 120 128) (by rw [ByteArray.size_extract]; omega))
      generalize numE (x.extract 0 8) = n1 at *
      generalize numE (x.extract 120 128) = n2 at *
      have hk12 : (k : Int) < 12 := by omega
      clear hH
      go_wp2_with fail
      refine hrd.out.mono ?_
      rintro e w3 ⟨rfl, hH3⟩
      go_wp2_with fail
      refine wp_region_still_tail 7 (by kernel_rfl) (by kernel_rfl) ?_
      simp only [List.take_succ_cons, List.take_zero, List.drop_succ_cons, List.drop_zero]
      change wpStill _ _ w3.drew _ _ _
      iterate 3 still_step
      still_call ((c1.out _).mono fun _ _ h => ⟨h.1, h.2.symm⟩)
      iterate 2 still_step
      still_call ((c2.out _).mono fun _ _ h => ⟨h.1, h.2.symm⟩)
      refine wpStill_nil ?_
      change wpList _ _ _ _ _ w3.drew
      have hH4 := Lib.hid (hH3.later K ((Below.refl _ _).drew))
      generalize w3.drew = w4 at *
      clear hH3 hrd c1 c2
      go_wp2
      refine ⟨⟨k + 1, by omega, by go_num, ?_, hH4.out⟩, by simp [intOf]; omega⟩
      rw [hgn.out]
      exact congrArg (Value.int .i64) (max3 _ _ _)
    · obtain rfl : k = 12 := by omega
      obtain ⟨⟨F, hD, hF⟩, hb⟩ := hH
      have hgr := fun W h => S.great F W p st h hok
      rw [show st.great = greatN st.now 12 from by unfold St.great; rw [hlen12]] at hgr
      generalize greatN st.now 12 = g at *
      replace hgr := Lib.hid hgr
      go_wp2_with fail
      refine (hgr.out _ hD).mono ?_
      rintro e w3 ⟨rfl, hb2⟩
      replace hb := hb.trans (hb2.mono hb.size)
      clear hb2 hD hF
      go_wp2_with fail
      refine (hnew.out _).mono ?_
      rintro e w4 ⟨pz, Fz, rfl, hDz, hFz, hb2⟩
      replace hb := hb.trans (hb2.mono hb.size)
      clear hb2 hFz
      go_wp2_with fail
      refine (hg0.out _ _ _ hDz).mono ?_
      rintro e w5 ⟨rfl, hb2⟩
      replace hb := hb.trans (hb2.mono hb.size)
      clear hb2 hDz
      go_wp2
      go_ret
      exact ⟨by first | rfl | simp, hb⟩
end Go.Proofs.Ytjaaicklhhpebaa
