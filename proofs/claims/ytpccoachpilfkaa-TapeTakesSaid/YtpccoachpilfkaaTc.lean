/- TapeCuts' walk, out of the landed contracts. -/
import Derived.Test.YtpccoachpilfkaaTb
namespace Go.Proofs.Ytpccoachpilfkaa
open Go.RowKit Wm

/-- What is left of a text that is cut short, behind n bytes; none: torn. -/
def restC (t : ByteArray) (c n : Nat) : Option ByteArray := if n ≤ c then some (t.extract n c) else none
theorem restC_next (t : ByteArray) (c n m : Nat) (hc : c ≤ t.size) : rdNext (restC t c n) ((m : Nat) : Int) = restC t c (n + m) := by
  unfold restC rdNext
  by_cases h : n ≤ c
  · rw [if_pos h]
    dsimp only
    rw [ByteArray.size_extract]
    by_cases h2 : n + m ≤ c
    · rw [if_pos h2, if_pos (by omega), Int.toNat_natCast, ByteArray.extract_extract]
      rw [show min (n + (min c t.size - n)) c = c by omega]
    · rw [if_neg h2, if_neg (by omega)]
  · rw [if_neg h, if_neg (by omega)]
theorem restC_none (t : ByteArray) (c n : Nat) : (restC t c n).isNone = decide (((c : Nat) : Int) < ((n : Nat) : Int)) := by
  unfold restC
  by_cases h : n ≤ c
  · rw [if_pos h, decide_eq_false (by omega)]; rfl
  · rw [if_neg h, decide_eq_true (by omega)]; rfl
theorem restC_flag (a b : ByteArray) (y : Bool) (c : Nat) (hc : c ≤ (a ++ (yesB y ++ b)).size) : flagNext (restC (a ++ (yesB y ++ b)) c a.size) = restC (a ++ (yesB y ++ b)) c (a.size + 1) := by
  unfold flagNext
  rw [show (1 : Int) = ((1 : Nat) : Int) from rfl, restC_next _ _ _ _ hc, if_pos]
  unfold restC rdPart
  by_cases h : a.size ≤ c
  · rw [if_pos h]
    dsimp only
    split
    · rename_i h2
      rw [ByteArray.size_extract] at h2
      have e : ((a ++ (yesB y ++ b)).extract a.size c).extract 0 1 = yesB y := by
        rw [ByteArray.extract_extract, show min (a.size + 1) c = a.size + 1 by omega, show a.size + 0 = a.size from rfl]
        rw [ByteArray.extract_append, ByteArray.extract_append]
        have e1 : a.extract a.size (a.size + 1) = ByteArray.empty := by
          apply ByteArray.ext; rw [ByteArray.data_extract]; simp
        rw [e1, ByteArray.empty_append, Nat.sub_self, show a.size + 1 - a.size = 1 by omega]
        have e2 : (yesB y).extract 0 1 = yesB y := by cases y <;> rfl
        have e3 : b.extract (0 - (yesB y).size) (1 - (yesB y).size) = ByteArray.empty := by
          rw [yesB_size]
          apply ByteArray.ext; rw [ByteArray.data_extract]; simp
        rw [e2, e3, ByteArray.append_empty]
      rw [show (((1 : Nat) : Int)).toNat = 1 from rfl, e]
      cases y <;> decide +kernel
    · decide +kernel
  · rw [if_neg h]
    decide +kernel
theorem itemsB_parts (l : List Item) (k : Nat) (h : k < l.length) : itemsB l = itemsB (l.take k) ++ (itemB l[k] ++ itemsB (l.drop (k + 1))) := by
  rw [← itemsB_drop l k h]
  unfold itemsB
  conv => lhs; rw [← List.take_append_drop k l, List.foldl_append, foldl_app]

theorem Reading.step {Rd : (Nat → Prop) → World → Nat → Option ByteArray → Prop} (R : LandedRd Rd) {w wx w2 w3 : World} {p : Nat} {F : Nat → Prop} {st : Option ByteArray} (hF : ∀ j, F j → w.heap.size ≤ j)
    (hb : Below w.heap.size w wx) (h : RdPost Rd F p st wx w2) (h3 : Below w2.heap.size w2 w3) : Reading Rd w w3 p st := Reading.next hF hb (h.later R h3)
theorem torn_at {Rd : (Nat → Prop) → World → Nat → Option ByteArray → Prop} (R : LandedRd Rd) (p : Nat) (t : ByteArray) (c n m : Nat) (F : Nat → Prop) (W W2 : World) (h : RdPost Rd F p (restC t c (n + m)) W W2) :
    Calls Try.prog 20 #[.pointer (some ⟨p, 0, none⟩)] W2 fun e W' => e = .returned (.bool (decide (((c : Nat) : Int) < ((n : Nat) : Int) + ((m : Nat) : Int)))) ∧ Below W2.heap.size W2 W' := by
  obtain ⟨F', h1, _, _⟩ := h
  have := R.torn F' W2 p _ h1
  rw [restC_none, Int.natCast_add] at this
  exact this
theorem sizeK_int2 (size : Int) : min (max size 1) 8 = ((sizeK size : Nat) : Int) := sizeK_int size

set_option maxRecDepth 100000 in
set_option maxHeartbeats 4000000 in
theorem tapeCuts_any {Wr : (Nat → Prop) → World → Nat → ByteArray → Prop} (K : LandedWr Wr) {Rd : (Nat → Prop) → World → Nat → Option ByteArray → Prop} (R : LandedRd Rd)
    (ao : Option Addr) (cap : Nat) (l : List Item) (hw : ∀ x ∈ l, x.Wf) (hlen : l.length ≤ 140737488351232) (cut : Int) (w : World) (hS : ItemsAt w ao l) :
    Calls Try.prog 5 #[.slice ao l.length cap, .int .i64 cut] w fun e w' => e = .returned (.bool true) ∧ Below w.heap.size w w' := by
  have hS0 := hS
  have hal := Lib.hid (tapeAlive_any K R)
  have hgr := Lib.hid (great_any ao cap l hw hlen)
  by_cases hg : greatB l = true
  · rw [hg] at hgr
    go_enter Try.func5, Try.ntmps5
    go_wp2_with fail
    refine (hal.out _).mono ?_
    rintro e w1 ⟨rfl, hb1⟩
    replace hS := hS.later hb1
    go_wp2_with fail
    refine (hgr.out _ hS).mono ?_
    rintro e w2 ⟨rfl, hb2⟩
    go_wp2
    go_ret
    exact ⟨rfl, hb1.trans (hb2.mono hb1.size)⟩
  · have hg2 : greatB l = false := Bool.eq_false_iff.mpr hg
    have hlen2 : l.length ≤ 60 := by
      unfold greatB at hg2
      simp at hg2
      omega
    have hsum : textSum l ≤ 4096 := by
      unfold greatB at hg2
      simp at hg2
      omega
    rw [hg2] at hgr
    clear hg
    replace hg2 := 0
    have hsz := itemsB_size l l.length (Nat.le_refl _)
    rw [List.take_length] at hsz
    have hput := Lib.hid (put_any K ao cap l hw hlen2 (by omega))
    by_cases hq : 0 ≤ cut ∧ cut < (((itemsB l).size : Nat) : Int)
    · obtain ⟨q1, q2⟩ := hq
      obtain ⟨c, rfl⟩ := Int.eq_ofNat_of_zero_le q1
      have hcs : c ≤ (itemsB l).size := by omega
      have hrd := Lib.hid (fun W => R.read ((itemsB l).extract 0 c) W (by rw [ByteArray.size_extract]; omega))
      have hd0 := Lib.hid (show restC (itemsB l) c (itemsB (l.take 0)).size = some ((itemsB l).extract 0 c) from if_pos (Nat.zero_le _))
      have q1' := Lib.hid q1
      have q3 : decide (((c : Nat) : Int) < 0) = false := decide_eq_false (by omega)
      have q4 : ¬ (((itemsB l).size : Nat) : Int) ≤ ((c : Nat) : Int) := by omega
      clear q1
      go_enter Try.func5, Try.ntmps5
      go_wp2_with fail
      refine (hal.out _).mono ?_
      rintro e w1 ⟨rfl, hb1⟩
      replace hS := hS.later hb1
      go_wp2_with fail
      refine (hgr.out _ hS).mono ?_
      rintro e w2 ⟨rfl, hb2⟩
      replace hb1 := hb1.trans (hb2.mono hb1.size)
      replace hS := hS.later hb2
      clear hb2
      go_wp2_with fail
      refine (hput.out _ hS).mono ?_
      rintro e w3 ⟨rfl, hP⟩
      obtain ⟨-, hb2⟩ := hP
      replace hb1 := hb1.trans (hb2.mono hb1.size)
      clear hb2 hgr hal hput hS
      go_wp2_with fail
      refine (hrd.out _).mono ?_
      rintro e w6 ⟨p, F, rfl, hR, hFb, hb2⟩
      have hsz1 := hb1.size
      have hsz2 := hb2.size
      replace hb1 := hb1.trans (hb2.mono hb1.size)
      clear hb2 hrd
      have hg0 : Reading Rd w w6 p (restC (itemsB l) c (itemsB (l.take 0)).size) := ⟨⟨F, by rw [hd0.out]; exact hR, fun j hj => by have := hFb j hj; omega⟩, hb1⟩
      clear hR hFb hb1 hsz1 hsz2 hd0 q3
      go_wp2_with fail
      go_loopw [8, 34] (fun n i wr => ∃ k : Nat, k ≤ l.length ∧ i = .int .i64 k ∧ n = .int .i64 (((itemsB (l.take k)).size : Nat) : Int) ∧ Reading Rd w wr p (restC (itemsB l) c (itemsB (l.take k)).size)) (fun _ i _ => (l.length - intOf i).toNat)
      case atStart => exact ⟨0, by omega, rfl, rfl, hg0⟩
      case round =>
        clear hg0
        obtain ⟨k, hk, rfl, rfl, hP⟩ := hrel
        by_cases hlt : k < l.length
        · obtain ⟨b, off, rfl, hbl, hc⟩ := (hS0.below hP.below (Nat.le_refl _)).spot k hlt
          have hx := hw _ (List.getElem_mem hlt)
          obtain ⟨⟨F, hF, hFb⟩, hb⟩ := hP
          have hsn : (itemsB (l.take (k + 1))).size = (itemsB (l.take k)).size + (itemB l[k]).size := by rw [itemsB_take l k hlt, ByteArray.size_append]
          have hpt := Lib.hid (itemsB_parts l k hlt)
          have hnz := itemsB_size l k (by omega)
          have hts := textSum_le l k
          have hts2 := textSum_le l (k + 1)
          rw [textSum_take l k hlt] at hts2
          have hstep := Lib.hid (fun st wx w2 w3 a b c => Reading.step (w := w) (wx := wx) (w2 := w2) (w3 := w3) (p := p) (F := F) (st := st) R hFb a b c)
          generalize itemsB (l.drop (k + 1)) = rest at *
          generalize l[k] = x at *
          obtain ⟨kind, size, n, wide, yes, text⟩ := x
          have c0 := hc 0 _ rfl
          have c1 := hc 1 _ rfl
          have c2 := hc 2 _ rfl
          have c3 := hc 3 _ rfl
          have c4 := hc 4 _ rfl
          have c5 := hc 5 _ rfl
          have c6 := hc 6 _ rfl
          dsimp only [Nat.add_zero] at c0 c1 c2 c3 c4 c5 c6
          dsimp only at hts2
          clear hc hx
          have hX := BoxAt.new wr [.int .i64 kind, .int .i64 size, .int .i64 n, .int .u64 ((hiN wide : Nat) : Int), .int .u64 ((loN wide : Nat) : Int), .bool yes, .string text] 36
          have hbx := hb.alloc hb.size (.cells #[.int .i64 kind, .int .i64 size, .int .i64 n, .int .u64 ((hiN wide : Nat) : Int), .int .u64 ((loN wide : Nat) : Int), .bool yes, .string text] 36)
          have hFx := R.later hF ((Below.refl _ _).alloc (Nat.le_refl _) (.cells #[.int .i64 kind, .int .i64 size, .int .i64 n, .int .u64 ((hiN wide : Nat) : Int), .int .u64 ((loN wide : Nat) : Int), .bool yes, .string text] 36))
          have hFn : ¬ F wr.heap.size := fun e => by have := R.near _ _ _ _ hF _ e; omega
          clear hF
          generalize hW : itemsB l = want at *
          generalize hN : itemsB (l.take k) = tk at *
          replace hsn := Lib.hid hsn
          clear hW hN
          by_cases h0 : kind = 0
          · subst h0
            have hib := Lib.hid (show (itemB ⟨0, size, n, wide, yes, text⟩).size = sizeK size from intB_size size n)
            have hI := Lib.hid (fun W h => R.int F W p (restC want c tk.size) size h)
            rw [restC_next want c tk.size (sizeK size) hcs] at hI
            have hki := sizeK_int2 size
            have hT := Lib.hid (fun W W2 h => torn_at R p want c tk.size (sizeK size) F W W2 h)
            have hsk := sizeK_le size
            go_wp2_with fail
            refine (hI.out _ hFx).mono ?_
            rintro e wR ⟨rfl, hpR⟩
            have hX2 := hX.only hpR.only hFn
            have d1 := hX2.spot 1 _ rfl
            have hll := hX2.lt
            go_wp2_with fail
            refine (hT.out _ _ hpR).mono ?_
            rintro e wT ⟨rfl, hbT⟩
            go_wp2
            exact ⟨⟨k + 1, by omega, by go_num, by rw [hsn.out, hib.out]; go_num, by rw [hsn.out, hib.out]; exact hstep.out _ _ _ _ hbx hpR hbT⟩, by simp [intOf]; omega⟩
          · by_cases h1 : kind = 1
            · subst h1
              have hib := Lib.hid (show (itemB ⟨1, size, n, wide, yes, text⟩).size = 16 from numB_size wide)
              have hI := Lib.hid (fun W h => R.num F W p (restC want c tk.size) h)
              rw [show (16 : Int) = ((16 : Nat) : Int) from rfl, restC_next want c tk.size 16 hcs] at hI
              have hT := Lib.hid (fun W W2 h => torn_at R p want c tk.size 16 F W W2 h)
              rw [show ((16 : Nat) : Int) = 16 from rfl] at hT
              go_wp2_with fail
              refine (hI.out _ hFx).mono ?_
              rintro e wR ⟨rfl, hpR⟩
              go_wp2_with fail
              refine (hT.out _ _ hpR).mono ?_
              rintro e wT ⟨rfl, hbT⟩
              go_wp2
              exact ⟨⟨k + 1, by omega, by go_num, by rw [hsn.out, hib.out]; go_num, by rw [hsn.out, hib.out]; exact hstep.out _ _ _ _ hbx hpR hbT⟩, by simp [intOf]; omega⟩
            · by_cases h2 : kind = 2
              · subst h2
                have hib := Lib.hid (show (itemB ⟨2, size, n, wide, yes, text⟩).size = 1 from yesB_size yes)
                have hI := Lib.hid (fun W h => R.flag F W p (restC want c tk.size) h)
                rw [show want = tk ++ (yesB yes ++ rest) from hpt.out, restC_flag tk rest yes c (by rw [← show want = tk ++ (yesB yes ++ rest) from hpt.out]; exact hcs), ← show want = tk ++ (yesB yes ++ rest) from hpt.out] at hI
                have hT := Lib.hid (fun W W2 h => torn_at R p want c tk.size 1 F W W2 h)
                rw [show ((1 : Nat) : Int) = 1 from rfl] at hT
                go_wp2_with fail
                refine (hI.out _ hFx).mono ?_
                rintro e wR ⟨rfl, hpR⟩
                go_wp2_with fail
                refine (hT.out _ _ hpR).mono ?_
                rintro e wT ⟨rfl, hbT⟩
                go_wp2
                exact ⟨⟨k + 1, by omega, by go_num, by rw [hsn.out, hib.out]; go_num, by rw [hsn.out, hib.out]; exact hstep.out _ _ _ _ hbx hpR hbT⟩, by simp [intOf]; omega⟩
              · by_cases h3 : kind = 3
                · subst h3
                  have hib := Lib.hid (show (itemB ⟨3, size, n, wide, yes, text⟩).size = text.size from rfl)
                  have hI := Lib.hid (fun W h => R.raw F W p (restC want c tk.size) ((text.size : Nat) : Int) h (by omega) (by omega))
                  rw [restC_next want c tk.size text.size hcs] at hI
                  have hT := Lib.hid (fun W W2 h => torn_at R p want c tk.size text.size F W W2 h)
                  go_wp2_with fail
                  refine (hI.out _ hFx).mono ?_
                  rintro e wR ⟨rfl, hpR⟩
                  have hX2 := hX.only hpR.only hFn
                  have d1 := hX2.spot 6 _ rfl
                  have hll := hX2.lt
                  go_wp2_with fail
                  refine (hT.out _ _ hpR).mono ?_
                  rintro e wT ⟨rfl, hbT⟩
                  go_wp2
                  exact ⟨⟨k + 1, by omega, by go_num, by rw [hsn.out, hib.out]; go_num, by rw [hsn.out, hib.out]; exact hstep.out _ _ _ _ hbx hpR hbT⟩, by simp [intOf]; omega⟩
                · have hib := Lib.hid (show (itemB ⟨kind, size, n, wide, yes, text⟩).size = 0 by unfold itemB; rw [if_neg h0, if_neg h1, if_neg h2, if_neg h3]; rfl)
                  have e0 : (kind == 0) = false := by rw [beq_eq_false_iff_ne]; exact h0
                  have e1 : (kind == 1) = false := by rw [beq_eq_false_iff_ne]; exact h1
                  have e2 : (kind == 2) = false := by rw [beq_eq_false_iff_ne]; exact h2
                  have e3 : (kind == 3) = false := by rw [beq_eq_false_iff_ne]; exact h3
                  have hpR : RdPost Rd F p (restC want c (tk.size + 0)) _ _ := ⟨F, hFx, Only.refl _ _, fun _ _ e => e⟩
                  have hT := Lib.hid (fun W W2 h => torn_at R p want c tk.size 0 F W W2 h)
                  rw [show ((tk.size : Nat) : Int) + ((0 : Nat) : Int) = ((tk.size : Nat) : Int) by omega] at hT
                  go_wp2_with fail
                  refine (hT.out _ _ hpR).mono ?_
                  rintro e wT ⟨rfl, hbT⟩
                  go_wp2
                  exact ⟨⟨k + 1, by omega, by go_num, by rw [hsn.out, hib.out]; go_num, by rw [hsn.out, hib.out]; exact hstep.out _ _ _ _ hbx hpR hbT⟩, by simp [intOf]; omega⟩
        · obtain rfl : k = l.length := by omega
          rw [List.take_length] at hP
          rw [show restC (itemsB l) c (itemsB l).size = none from if_neg (by omega)] at hP
          obtain ⟨⟨F, hF, hFb⟩, hb⟩ := hP
          have hE := Lib.hid (fun W h => R.fin F W p none h)
          have hT := Lib.hid (fun W h => R.torn F W p none h)
          go_wp2_with fail
          refine (hT.out _ hF).mono ?_
          rintro e w7 ⟨rfl, hb2⟩
          replace hb := hb.trans (hb2.mono hb.size)
          replace hF := R.later hF hb2
          clear hb2
          go_wp2_with fail
          refine (hE.out _ hF).mono ?_
          rintro e w8 ⟨rfl, hb2⟩
          replace hb := hb.trans (hb2.mono hb.size)
          go_wp2
          go_ret
          exact ⟨rfl, hb⟩
    · have hq2 : cut < 0 ∨ (¬ cut < 0 ∧ (((itemsB l).size : Nat) : Int) ≤ cut) := by omega
      clear hq
      rcases hq2 with h | ⟨h, h'⟩
      all_goals
        go_enter Try.func5, Try.ntmps5
        go_wp2_with fail
        refine (hal.out _).mono ?_
        rintro e w1 ⟨rfl, hb1⟩
        replace hS := hS.later hb1
        go_wp2_with fail
        refine (hgr.out _ hS).mono ?_
        rintro e w2 ⟨rfl, hb2⟩
        replace hb1 := hb1.trans (hb2.mono hb1.size)
        replace hS := hS.later hb2
        clear hb2
        go_wp2_with fail
        refine (hput.out _ hS).mono ?_
        rintro e w3 ⟨rfl, hP⟩
        obtain ⟨-, hb2⟩ := hP
        replace hb1 := hb1.trans (hb2.mono hb1.size)
        clear hb2
        go_wp2
        go_ret
        exact ⟨rfl, hb1⟩
end Go.Proofs.Ytpccoachpilfkaa
