/- The landed Lay. No condition but the disk's, and sizes. -/
import Derived.Test.YtgolddcmhjdmdaaZGd
namespace Go.Proofs.Ytgolddcmhjdmdaa
open Go.RowKit Go.Sort Cr Wm

theorem partS_cut (s : ByteArray) (k : Nat) (h : 104 * k ≤ s.size) : partS s k = s.extract (104 * k) (min (104 * k + 104) s.size) := by
  unfold partS
  rw [Nat.min_eq_left h]
theorem layPlace_iff (st : St) (fr upto N : Int) : layPlace st fr upto N = (numOk N && placeB st fr upto) := by
  unfold layPlace numOk placeB
  simp only [Bool.and_assoc]
/-- What is left of a laying. -/
structure Laying (Dk : (Nat → Prop) → World → Nat → St → Prop) (F : Nat → Prop) (W : World) (p : Nat) (N : Int) (s : ByteArray) (f c : Nat) (r : Int × St) (k : Nat) (wr : World) : Prop where
  ex : ∃ sk : St, DkPost Dk F p sk W wr ∧ sk.Room (c - k) ∧ layAll N s f k (c - k) sk = r
set_option maxRecDepth 100000 in
set_option maxHeartbeats 1000000 in
theorem stLay_any {Dk : (Nat → Prop) → World → Nat → St → Prop} (K : LandedDk Dk) (F : Nat → Prop) (W : World) (p : Nat) (st : St) (fr upto N : Int) (s : ByteArray) (h : Dk F W p st) (hroom : st.Room (countN s.size)) (hs : s.size ≤ 140737488351232) :
    Calls Try.prog 35 #[.pointer (some ⟨p, 0, none⟩), .int .i64 fr, .int .i64 upto, .int .i64 N, .string s] W fun e W' => e = .returned (.int .i64 (st.lay fr upto N s).1) ∧ DkPost Dk F p (st.lay fr upto N s).2 W W' := by
  have hok := hroom.ok
  have hN := Lib.hid (fun W => isNumber_any N W)
  have hP := Lib.hid (arePlaces_any K h hok fr upto)
  have hL := Lib.hid (layPlace_iff st fr upto N)
  have same : ∀ W', Below W.heap.size W W' → DkPost Dk F p st W W' := fun W' hb => ⟨F, K.later h hb, Only.of_below hb, fun _ _ e => e⟩
  cases hb1 : numOk N with
  | false =>
    have hq := Lib.hid (show st.lay fr upto N s = (1, st) by unfold St.lay; rw [hL.out, hb1]; rfl)
    rw [hb1] at hN
    rw [hq.out]
    clear hb1 hP hL hq
    go_enter Try.func35, Try.ntmps35
    go_wp2_with (go_at_call 44; refine (hN.out _).mono ?_; rintro e W7 ⟨rfl, rfl⟩)
    go_ret
    exact ⟨rfl, same _ (Below.refl _ _)⟩
  | true =>
    rw [hb1] at hN
    cases hb2 : placeB st fr upto with
    | false =>
      have hq := Lib.hid (show st.lay fr upto N s = (1, st) by unfold St.lay; rw [hL.out, hb1, hb2]; rfl)
      rw [hb2] at hP
      rw [hq.out]
      clear hb1 hb2 hL hq
      go_enter Try.func35, Try.ntmps35
      go_wp2_with (first | (go_at_call 44; refine (hN.out _).mono ?_; rintro e W7 ⟨rfl, rfl⟩) | (go_at_call 49; refine hP.out.mono ?_; rintro e W7 ⟨rfl, hb⟩))
      go_ret
      exact ⟨rfl, same _ hb⟩
    | true =>
      have hpl : 0 ≤ fr ∧ fr ≤ upto ∧ upto ≤ ((st.safe.length : Nat) : Int) := by
        unfold placeB at hb2
        simp only [Bool.and_eq_true, decide_eq_true_eq] at hb2
        exact hb2
      have hmany := hroom.many
      obtain ⟨q1, q2, q3⟩ := hpl
      have q4 : upto ≤ 4096 := by omega
      have hnum := (numOk_iff N).1 hb1
      have hok2 : layPlace st fr upto N = true := by rw [hL.out, hb1, hb2]; rfl
      rw [hb2] at hP
      have hC := Lib.hid (fun W => count_any ((s.size : Nat) : Int) W (by omega))
      rw [Int.toNat_natCast] at hC
      clear hb1 hb2 hL q3 hmany
      obtain ⟨f, rfl⟩ := Int.eq_ofNat_of_zero_le q1
      by_cases hlong : upto - ((f : Nat) : Int) < ((countN s.size : Nat) : Int)
      · have hq := Lib.hid (show st.lay ((f : Nat) : Int) upto N s = (3, st) by unfold St.lay; rw [hok2, if_pos rfl, if_pos hlong])
        rw [hq.out]
        clear hq hok2 hnum
        generalize countN s.size = c at *
        go_enter Try.func35, Try.ntmps35
        go_wp2_with (first | (go_at_call 44; refine (hN.out _).mono ?_; rintro e W7 ⟨rfl, rfl⟩) | (go_at_call 49; refine hP.out.mono ?_; rintro e W7 ⟨rfl, hb⟩) | (go_at_call 50; refine (hC.out _).mono ?_; rintro e W8 ⟨rfl, hb8⟩))
        go_ret
        exact ⟨rfl, same _ (hb.trans (hb8.mono hb.size))⟩
      · have hq := Lib.hid (show st.lay ((f : Nat) : Int) upto N s = layAll N s f 0 (countN s.size) st by unfold St.lay; rw [hok2, if_pos rfl, if_neg hlong, Int.toNat_natCast])
        rw [hq.out]
        have hcl := countN_least s.size
        have hlo : ∀ k, k < countN s.size → 104 * k ≤ s.size := fun k hk => by have := hcl k hk; omega
        clear hq hok2 hcl
        generalize hr : layAll N s f 0 (countN s.size) st = r at *
        generalize hcc : countN s.size = c at *
        have hsm : c ≤ 4096 := by omega
        replace hcc := Lib.hid hcc
        go_enter Try.func35, Try.ntmps35
        go_wp2_with (first | (go_at_call 44; refine (hN.out _).mono ?_; rintro e W7 ⟨rfl, rfl⟩) | (go_at_call 49; refine hP.out.mono ?_; rintro e W7 ⟨rfl, hb⟩) | (go_at_call 50; refine (hC.out _).mono ?_; rintro e W8 ⟨rfl, hb8⟩))
        have hbw : Below W.heap.size W W8 := hb.trans (hb8.mono hb.size)
        clear hb hb8 hN hP hC
        go_loopw [35] (fun i wr => ∃ k : Nat, k ≤ c ∧ i = .int .i64 k ∧ Laying Dk F W p N s f c r k wr) (fun i _ => (c - RowKit.intOf i).toNat)
        case atStart => exact ⟨0, by omega, rfl, ⟨⟨st, same _ hbw, hroom, hr⟩⟩⟩
        case round =>
          obtain ⟨k, hk, rfl, ⟨sk, hpost, hrm, hall⟩⟩ := hrel
          by_cases hlt : k < c
          · obtain ⟨m, hm⟩ : ∃ m, c - k = m + 1 := ⟨c - k - 1, by omega⟩
            rw [hm] at hrm hall
            rw [layAll] at hall
            obtain ⟨F', d1, d2, d3⟩ := hpost
            have hlow := hlo k hlt
            have hpc := partS_cut s k hlow
            have hps := partS_le s k
            have hleaf : okLeaf N ((k : Nat) : Int) (partS s k) = true := (okLeaf_iff _ _ _).2 ⟨hnum, by omega, hps⟩
            have hby := Lib.hid (fun w => stBytes_any N ((k : Nat) : Int) (partS s k) w (by omega))
            rw [show bytesS N ((k : Nat) : Int) (partS s k) = secB N ((k : Nat) : Int) (partS s k) by unfold bytesS; rw [if_pos hleaf], show bytesE N ((k : Nat) : Int) (partS s k) = 0 by unfold bytesE; rw [if_pos hleaf]] at hby
            have hsz := secB_size (N := N) (I := ((k : Nat) : Int)) hps
            have hwr := Lib.hid (fun W1 d => K.write F' W1 p sk ((f + k : Nat) : Int) (secB N ((k : Nat) : Int) (partS s k)) d hrm.ok (by omega))
            have hcut := Lib.hid (show s.extract (k * 104) (min (((k : Nat) : Int) * 104 + 104) ((s.size : Nat) : Int)).toNat = partS s k by rw [hpc]; congr 1 <;> omega)
            unfold leafA at hby
            generalize secB N ((k : Nat) : Int) (partS s k) = sec at *
            generalize partS s k = part at *
            clear hleaf hpc
            go_wp2_with fail
            rw [hcut.out]
            refine (hby.out _).mono ?_
            rintro e w1 ⟨rfl, hb1⟩
            go_wp2_with fail
            refine (hwr.out _ (K.later d1 hb1)).mono ?_
            rintro e w2 ⟨rfl, F2, e1, e2, e3⟩
            have hP2 : DkPost Dk F p (sk.write ((f + k : Nat) : Int) sec).2 W w2 :=
              ⟨F2, e1, (d2.trans (Only.of_below (F := fun _ => False) hb1) (fun _ _ e => e.elim)).trans e2 (fun j hj e => d3 j hj e), fun j hj e => d3 j hj (e3 j (by have := d2.size; have := hb1.size; omega) e)⟩
            have hR2 := hrm.write ((f + k : Nat) : Int) sec
            clear e1 e2 e3 d1 d2 d3 hb1 hwr hby hcut
            cases hw : sk.write ((f + k : Nat) : Int) sec with
            | mk err sk2 =>
              rw [hw] at hP2 hR2 hall
              dsimp only at hP2 hR2 hall
              by_cases he : err = 0
              · subst he
                rw [if_pos rfl] at hall
                have hm2 : c - (k + 1) = m := by omega
                go_wp2_with fail
                exact ⟨⟨k + 1, by omega, by go_num, ⟨⟨sk2, hP2, by rw [hm2]; exact hR2, by rw [hm2]; exact hall⟩⟩⟩, by simp [RowKit.intOf]; omega⟩
              · rw [if_neg he] at hall
                subst hall
                go_wp2_with fail
                go_ret
                exact ⟨rfl, hP2⟩
          · obtain rfl : k = c := by omega
            rw [Nat.sub_self] at hall
            have hr2 : r = (0, sk) := hall.symm
            subst hr2
            go_wp2_with fail
            go_ret
            exact ⟨rfl, hpost⟩
end Go.Proofs.Ytgolddcmhjdmdaa
