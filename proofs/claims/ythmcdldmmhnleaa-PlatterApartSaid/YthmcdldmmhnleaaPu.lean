/- PlatterApart's walk, out of the landed contracts. -/
import Derived.Test.YthmcdldmmhnleaaPt
namespace Go.Proofs.Ythmcdldmmhnleaa
open Go.RowKit Go.Sort

theorem new_same (n : Int) (i : Nat) (h0 : ((i : Nat) : Int) < n) (h1 : n ≤ 40) : SameAt i (St.new n) (St.new n) :=
  ⟨rfl, by simp [St.new]; omega, rfl, rfl, by simp [St.new], by simp [St.new]⟩

set_option maxRecDepth 100000 in
set_option maxHeartbeats 4000000 in
theorem platterApart_any {Dk : (Nat → Prop) → World → Nat → St → Prop} (K : LandedDk Dk) (sectors : Int) (hse : -9223372036854775808 ≤ sectors ∧ sectors ≤ 9223372036854775807)
    (ao : Option Addr) (cap : Nat) (l : List Call) (hw : ∀ x ∈ l, x.Wf) (hlen : l.length ≤ 140737488351232) (at_ : Int) (w : World) (hS : CallsAt w ao l) :
    Calls Try.prog 7 #[.int .i64 sectors, .slice ao l.length cap, .int .i64 at_] w fun e w' => e = .returned (.bool true) ∧ Below w.heap.size w w' := by
  have hS0 := hS
  have hal := Lib.hid (platterAlive_any K)
  have hgr := Lib.hid (greatp_any ao cap l hw hlen)
  by_cases hq : greatP l = false ∧ 0 ≤ at_ ∧ at_ < sectors ∧ sectors ≤ 40
  · obtain ⟨g, q1, q2, hs40⟩ := hq
    have hl80 : l.length ≤ 80 := by unfold greatP at g; simp at g; omega
    rw [g] at hgr
    clear g
    obtain ⟨i, rfl⟩ := Int.eq_ofNat_of_zero_le q1
    have n1 : ¬ (40 : Int) < sectors := by omega
    have n2 : decide (((i : Nat) : Int) < 0) = false := decide_eq_false (by omega)
    have n3 : ¬ sectors ≤ ((i : Nat) : Int) := by omega
    replace q1 := Lib.hid q1
    have hnew := Lib.hid (fun W => K.new sectors W hse.1 hse.2)
    have ho0 := Lib.hid (St.OkN.new sectors)
    have hs0 := Lib.hid (new_same sectors i q2 hs40)
    generalize St.new sectors = st0 at *
    go_enter Try.func7, Try.ntmps7
    go_wp2_with fail
    refine (hal.out _).mono ?_
    rintro e w1 ⟨rfl, hb1⟩
    replace hS := hS.later hb1
    go_wp2_with fail
    refine (hgr.out _ hS).mono ?_
    rintro e w2 ⟨rfl, hb2⟩
    replace hb1 := hb1.trans (hb2.mono hb1.size)
    clear hb2 hS hgr hal
    go_wp2_with fail
    refine (hnew.out _).mono ?_
    rintro e w3 ⟨p, F, rfl, hD, hF, hb2⟩
    have z1 := hb1.size
    have z2 := hb2.size
    replace hb1 := hb1.trans (hb2.mono hb1.size)
    clear hb2
    go_wp2_with fail
    refine (hnew.out _).mono ?_
    rintro e w4 ⟨q, G, rfl, hU, hG, hb2⟩
    have z3 := hb2.size
    have hT0 : Twin Dk w w4 p q st0 st0 := ⟨⟨F, G, K.later hD hb2, hU, fun k hk hg => by have := K.near _ _ _ _ hD k hk; have := hG k hg; omega,
      fun j hj => by have := hF j hj; omega, fun j hj => by have := hG j hj; omega⟩, hb1.trans (hb2.mono hb1.size)⟩
    clear hb2 hnew hD hF hU hG hb1 z1 z2 z3
    go_wp2_with fail
    go_loopw [38] (fun ix wr => ∃ (k : Nat) (sd su : St), k ≤ l.length ∧ ix = .int .i64 k ∧ sd.OkN k ∧ su.OkN k ∧ SameAt i sd su ∧ Twin Dk w wr p q sd su) (fun ix _ => (l.length - intOf ix).toNat)
    case atStart => exact ⟨0, st0, st0, by omega, rfl, ho0.out, ho0.out, hs0.out, hT0⟩
    case round =>
      clear hT0
      obtain ⟨k, sd, su, hk, rfl, hod, hou, hsa, hT⟩ := hrel
      by_cases hlt : k < l.length
      · obtain ⟨b, off, rfl, hbl, hc⟩ := (hS0.below hT.below (Nat.le_refl _)).spot k hlt
        have hx := hw _ (List.getElem_mem hlt)
        generalize l[k] = x at *
        obtain ⟨kind, n, data, mask, cut⟩ := x
        have hdt := hx.data
        dsimp only at hdt
        have c0 := hc 0 _ rfl
        have c1 := hc 1 _ rfl
        have c2 := hc 2 _ rfl
        have c3 := hc 3 _ rfl
        have c4 := hc 4 _ rfl
        dsimp only [Nat.add_zero] at c0 c1 c2 c3 c4
        clear hc hx
        have hTB := hT.boxed K [.int .i64 kind, .int .i64 n, .string data, .int .u64 ((mask : Nat) : Int), .int .i64 cut] 31
        have okd := hod.ok (by omega)
        have oku := hou.ok (by omega)
        have hrest := Lib.hid (show ∀ (sd' su' : St), sd'.OkN (k + 1) → su'.OkN (k + 1) → SameAt i sd' su' → ∀ W' b' cs', TwinB Dk w W' p q sd' su' b' cs' → _ from
          fun sd' su' h1 h2 h3 W' b' cs' h4 => (⟨tb_lq K h4 (fun F hf => read_in K F W' p sd' i hf (h1.ok (by omega)) h3.here), h1, h2, h3⟩ : (Calls _ _ _ _ _) ∧ sd'.OkN (k + 1) ∧ su'.OkN (k + 1) ∧ SameAt i sd' su'))
        have hrest2 := Lib.hid (show ∀ (sd' su' : St), su'.OkN (k + 1) → SameAt i sd' su' → ∀ W' b' cs', TwinB Dk w W' p q sd' su' b' cs' → _ from
          fun sd' su' h2 h3 W' b' cs' h4 => tb_rq K h4 (fun F hf => read_in K F W' q su' i hf (h2.ok (by omega)) (by rw [← h3.len]; exact h3.here)))
        have hend := Lib.hid (show ∀ (sd' su' : St), sd'.OkN (k + 1) → su'.OkN (k + 1) → SameAt i sd' su' → ∀ W' b' cs', TwinB Dk w W' p q sd' su' b' cs' → _ from
          fun sd' su' h1 h2 h3 W' b' cs' h4 => (⟨k + 1, sd', su', by omega, by go_num, h1, h2, h3, h4.free⟩ : ∃ (k2 : Nat) (sd2 su2 : St), k2 ≤ l.length ∧ Value.int .i64 (((k : Nat) : Int) + 1) = .int .i64 ((k2 : Nat) : Int) ∧ sd2.OkN k2 ∧ su2.OkN k2 ∧ SameAt i sd2 su2 ∧ Twin Dk w W' p q sd2 su2))
        by_cases h0 : kind = 0
        · subst h0
          have hwd := Lib.hid (fun W b cs h => tb_l (b := b) (cs := cs) (su := su) (w := w) (q := q) (W := W) K h (fun F hf => K.write F W p sd n data hf okd hdt))
          have hwu := Lib.hid (fun W sd b cs h => tb_r (b := b) (cs := cs) (sd := sd) (w := w) (p := p) (W := W) K h (fun F hf => K.write F W q su n data hf oku hdt))
          by_cases hni : n = ((i : Nat) : Int)
          · subst hni
            have hs1 := hsa.write_both ((i : Nat) : Int) data
            have od1 := hod.write ((i : Nat) : Int) data
            have ou1 := hou.write ((i : Nat) : Int) data
            have hnow := Lib.hid hs1.now
            clear hT
            go_wp2_with fail
            refine (hwd.out _ _ _ hTB).mono ?_
            rintro e w5 ⟨rfl, hT5⟩
            have d1 := hT5.box.spot 1 _ rfl
            have d2 := hT5.box.spot 2 _ rfl
            have hll := hT5.box.lt
            go_wp2_with fail
            refine (hwu.out _ _ _ _ hT5).mono ?_
            rintro e w6 ⟨rfl, hT6⟩
            go_wp2_with fail
            refine ((hrest.out _ _ od1 ou1 hs1 _ _ _ hT6).1).mono ?_
            rintro e w7 ⟨rfl, hT7⟩
            go_wp2_with fail
            refine (hrest2.out _ _ ou1 hs1 _ _ _ hT7).mono ?_
            rintro e w8 ⟨rfl, hT8⟩
            rw [hnow.out]
            go_wp2
            exact ⟨hend.out _ _ od1 ou1 hs1 _ _ _ hT8, by simp [intOf]; omega⟩
          · have e3 : (n == ((i : Nat) : Int)) = false := by rw [beq_eq_false_iff_ne]; exact hni
            have hs1 := hsa.write_one n data hni
            have od1 := hod.write n data
            have ou1 := hou.mono (j := k + 1) (by omega)
            have hnow := Lib.hid hs1.now
            clear hT
            go_wp2_with fail
            refine (hwd.out _ _ _ hTB).mono ?_
            rintro e w5 ⟨rfl, hT5⟩
            have d1 := hT5.box.spot 1 _ rfl
            have hll := hT5.box.lt
            go_wp2_with fail
            refine ((hrest.out _ _ od1 ou1 hs1 _ _ _ hT5).1).mono ?_
            rintro e w7 ⟨rfl, hT7⟩
            go_wp2_with fail
            refine (hrest2.out _ _ ou1 hs1 _ _ _ hT7).mono ?_
            rintro e w8 ⟨rfl, hT8⟩
            rw [hnow.out]
            go_wp2
            exact ⟨hend.out _ _ od1 ou1 hs1 _ _ _ hT8, by simp [intOf]; omega⟩
        · by_cases h1 : kind = 1
          · subst h1
            have hwd := Lib.hid (fun W b cs h => tb_l (b := b) (cs := cs) (su := su) (w := w) (q := q) (W := W) K h (fun F hf => K.sync F W p sd hf okd))
            have hwu := Lib.hid (fun W sd b cs h => tb_r (b := b) (cs := cs) (sd := sd) (w := w) (p := p) (W := W) K h (fun F hf => K.sync F W q su hf oku))
            have hs1 := hsa.sync hod hou
            have od1 := hod.sync
            have ou1 := hou.sync
            have hnow := Lib.hid hs1.now
            clear hT
            go_wp2_with fail
            refine (hwd.out _ _ _ hTB).mono ?_
            rintro e w5 ⟨rfl, hT5⟩
            go_wp2_with fail
            refine (hwu.out _ _ _ _ hT5).mono ?_
            rintro e w6 ⟨rfl, hT6⟩
            go_wp2_with fail
            refine ((hrest.out _ _ od1 ou1 hs1 _ _ _ hT6).1).mono ?_
            rintro e w7 ⟨rfl, hT7⟩
            go_wp2_with fail
            refine (hrest2.out _ _ ou1 hs1 _ _ _ hT7).mono ?_
            rintro e w8 ⟨rfl, hT8⟩
            rw [hnow.out]
            go_wp2
            exact ⟨hend.out _ _ od1 ou1 hs1 _ _ _ hT8, by simp [intOf]; omega⟩
          · have e0 : (kind == 0) = false := by rw [beq_eq_false_iff_ne]; exact h0
            have e1 : (kind == 1) = false := by rw [beq_eq_false_iff_ne]; exact h1
            have od1 := hod.mono (j := k + 1) (by omega)
            have ou1 := hou.mono (j := k + 1) (by omega)
            have hnow := Lib.hid hsa.now
            clear hT
            go_wp2_with fail
            refine ((hrest.out _ _ od1 ou1 hsa _ _ _ hTB).1).mono ?_
            rintro e w7 ⟨rfl, hT7⟩
            go_wp2_with fail
            refine (hrest2.out _ _ ou1 hsa _ _ _ hT7).mono ?_
            rintro e w8 ⟨rfl, hT8⟩
            rw [hnow.out]
            go_wp2
            exact ⟨hend.out _ _ od1 ou1 hsa _ _ _ hT8, by simp [intOf]; omega⟩
      · obtain rfl : k = l.length := by omega
        have hb := hT.below
        go_wp2
        go_ret
        exact ⟨rfl, hb⟩
  · have hq2 : greatP l = true ∨ (greatP l = false ∧ at_ < 0) ∨ (greatP l = false ∧ ¬ at_ < 0 ∧ sectors ≤ at_) ∨ (greatP l = false ∧ ¬ at_ < 0 ∧ ¬ sectors ≤ at_ ∧ 40 < sectors) := by
      by_cases x1 : greatP l = true
      · exact .inl x1
      · have y1 := Bool.eq_false_iff.mpr x1
        have : ¬ (0 ≤ at_ ∧ at_ < sectors ∧ sectors ≤ 40) := fun e => hq ⟨y1, e⟩
        by_cases z1 : at_ < 0
        · exact .inr (.inl ⟨y1, z1⟩)
        · by_cases z2 : sectors ≤ at_
          · exact .inr (.inr (.inl ⟨y1, z1, z2⟩))
          · exact .inr (.inr (.inr ⟨y1, z1, z2, by omega⟩))
    clear hq
    rcases hq2 with g | ⟨g, hz⟩ | ⟨g, hz, hz2⟩ | ⟨g, hz, hz2, hz3⟩
    all_goals
      rw [g] at hgr
      clear g
      go_enter Try.func7, Try.ntmps7
      go_wp2_with fail
      refine (hal.out _).mono ?_
      rintro e w1 ⟨rfl, hb1⟩
      replace hS := hS.later hb1
      go_wp2_with fail
      refine (hgr.out _ hS).mono ?_
      rintro e w2 ⟨rfl, hb2⟩
      replace hb1 := hb1.trans (hb2.mono hb1.size)
      go_wp2
      go_ret
      exact ⟨rfl, hb1⟩
end Go.Proofs.Ythmcdldmmhnleaa
