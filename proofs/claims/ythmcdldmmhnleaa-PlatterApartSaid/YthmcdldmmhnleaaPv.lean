/- PlatterFails' walk, out of the landed contracts. -/
import Derived.Test.YthmcdldmmhnleaaPu
namespace Go.Proofs.Ythmcdldmmhnleaa
open Go.RowKit Go.Sort

/-- Behind k operations: both hold the same, and the n-th of the one is to fail. -/
structure Armed (n : Int) (k : Nat) (sd su : St) : Prop where
  safe : sd.safe = su.safe
  later : sd.later = su.later
  arm : sd.arm = n - k
  calm : su.arm ≤ 0
theorem Armed.now {n : Int} {k : Nat} {sd su : St} (h : Armed n k sd su) (i : Nat) : sd.now i = su.now i := by unfold St.now; rw [h.safe, h.later]
theorem Armed.good {n : Int} {k : Nat} {sd su : St} (h : Armed n k sd su) (i : Int) (s : ByteArray) : sd.goodW i s = su.goodW i s := goodW_same (by rw [h.safe]) i s
/-- The operation that fails, and one that doesn't. -/
theorem Armed.write_bad {n : Int} {k : Nat} {sd su : St} (h : Armed n k sd su) (i : Int) (s : ByteArray) (hg : sd.goodW i s = true) (hn : ((k : Nat) : Int) + 1 = n) :
    (sd.write i s).1 = 8 ∧ Armed n (k + 1) (sd.write i s).2 su := by
  unfold St.write
  rw [if_pos hg, if_pos (by unfold St.fails; rw [decide_eq_true]; rw [h.arm]; omega)]
  exact ⟨rfl, h.safe, h.later, by show sd.arm - 1 = _; rw [h.arm]; omega, h.calm⟩
theorem Armed.write_ok {n : Int} {k : Nat} {sd su : St} (h : Armed n k sd su) (i : Int) (s : ByteArray) (hg : sd.goodW i s = true) (hn : ((k : Nat) : Int) + 1 ≠ n) :
    (sd.write i s).1 = 0 ∧ Armed n (k + 1) (sd.write i s).2 (su.write i s).2 := by
  have hg2 : su.goodW i s = true := by rw [← h.good]; exact hg
  have e2 := write_calm h.calm i s
  rw [if_pos hg2] at e2
  rw [e2]
  unfold St.write
  rw [if_pos hg, if_neg (by unfold St.fails; rw [decide_eq_false]; decide; rw [h.arm]; omega)]
  exact ⟨rfl, h.safe, by show sd.later ++ _ = su.later ++ _; rw [h.later], by show sd.arm - 1 = _; rw [h.arm]; omega, by have := h.calm; show su.arm - 1 ≤ 0; omega⟩
theorem Armed.sync_bad {n : Int} {k : Nat} {sd su : St} (h : Armed n k sd su) (hn : ((k : Nat) : Int) + 1 = n) :
    sd.sync.1 = 8 ∧ Armed n (k + 1) sd.sync.2 su := by
  unfold St.sync
  rw [if_pos (by unfold St.fails; rw [decide_eq_true]; rw [h.arm]; omega)]
  exact ⟨rfl, h.safe, h.later, by show sd.arm - 1 = _; rw [h.arm]; omega, h.calm⟩
theorem Armed.sync_ok {n : Int} {k : Nat} {sd su : St} (h : Armed n k sd su) (hn : ((k : Nat) : Int) + 1 ≠ n) :
    sd.sync.1 = 0 ∧ Armed n (k + 1) sd.sync.2 su.sync.2 := by
  have eu : su.sync.2 = su.tried.crash allOnes (-1) 0 := by unfold St.sync; rw [if_neg (by rw [fails_no h.calm]; decide)]
  rw [eu]
  unfold St.sync
  rw [if_neg (by unfold St.fails; rw [decide_eq_false]; decide; rw [h.arm]; omega)]
  exact ⟨rfl, by show lasting _ _ _ _ sd.later sd.safe = lasting _ _ _ _ su.later su.safe; rw [h.safe, h.later], rfl, by show sd.arm - 1 = _; rw [h.arm]; omega, by have := h.calm; show su.arm - 1 ≤ 0; omega⟩
theorem write_length (st : St) (i : Int) (s : ByteArray) : (st.write i s).2.safe.length = st.safe.length := by
  unfold St.write
  split
  · split <;> rfl
  · rfl
theorem sync_length (st : St) : st.sync.2.safe.length = st.safe.length := by
  unfold St.sync
  split
  · rfl
  · exact crash_length _ _ _ _
theorem good_lit {st : St} {i : Int} {s : ByteArray} {n : Int} (hl : ((st.safe.length : Nat) : Int) = n) (h0 : 0 ≤ i) (h1 : i < n) (h2 : s.size ≤ 128) : st.goodW i s = true := by
  unfold St.goodW
  rw [decide_eq_true h0, decide_eq_true (by omega), decide_eq_true h2]; rfl
theorem new_length (n : Int) (h0 : 0 ≤ n) (h1 : n ≤ 40) : (((St.new n).safe.length : Nat) : Int) = n := by simp [St.new]; omega

set_option maxRecDepth 100000 in
set_option maxHeartbeats 8000000 in
theorem platterFails_any {Dk : (Nat → Prop) → World → Nat → St → Prop} (K : LandedDk Dk) (sectors : Int) (hse : -9223372036854775808 ≤ sectors ∧ sectors ≤ 9223372036854775807)
    (ao : Option Addr) (cap : Nat) (l : List Call) (hw : ∀ x ∈ l, x.Wf) (hlen : l.length ≤ 140737488351232) (n : Int) (hnb : -9223372036854775808 ≤ n ∧ n ≤ 9223372036854775807) (w : World) (hS : CallsAt w ao l) :
    Calls Try.prog 6 #[.int .i64 sectors, .slice ao l.length cap, .int .i64 n] w fun e w' => e = .returned (.bool true) ∧ Below w.heap.size w w' := by
  have hS0 := hS
  have hal := Lib.hid (platterAlive_any K)
  have hgr := Lib.hid (greatp_any ao cap l hw hlen)
  by_cases hq : greatP l = false ∧ 0 ≤ sectors ∧ sectors ≤ 40 ∧ 1 ≤ n
  · obtain ⟨g, q1, q2, q3⟩ := hq
    have hl80 : l.length ≤ 80 := by unfold greatP at g; simp at g; omega
    rw [g] at hgr
    clear g
    have n1 : decide (sectors < 0) = false := decide_eq_false (by omega)
    have n2 : decide (40 < sectors) = false := decide_eq_false (by omega)
    have n3 : ¬ n < 1 := by omega
    have hnew := Lib.hid (fun W => K.new sectors W hse.1 hse.2)
    have hon := St.OkN.new sectors
    have ho0 := Lib.hid hon
    have ho1 := Lib.hid (hon.armed n hnb.2)
    have hln := Lib.hid (new_length sectors q1 q2)
    have hr0 := Lib.hid (show Armed n 0 ((St.new sectors).armed n) (St.new sectors) from ⟨rfl, rfl, by show max n 0 = n - 0; omega, by simp [St.new]⟩)
    have harm := Lib.hid (fun F W p h => K.arm F W p (St.new sectors) n h (hon.ok (by omega)))
    have hlen2 := Lib.hid (show ((((St.new sectors).armed n).safe.length : Nat) : Int) = sectors from new_length sectors q1 q2)
    generalize (St.new sectors).armed n = sd0 at *
    generalize St.new sectors = st0 at *
    clear hon
    go_enter Try.func6, Try.ntmps6
    go_wp2_with fail
    refine (hal.out _).mono ?_
    rintro e w1 ⟨rfl, hb1⟩
    replace hS := hS.later hb1
    go_wp2_with fail
    refine (hgr.out _ hS).mono ?_
    rintro e w2 ⟨rfl, hb2⟩
    replace hb1 := hb1.trans (hb2.mono hb1.size)
    clear hb2 hS hgr hal
    go_wp2_with fail
    refine (hnew.out _).mono ?_
    rintro e w3 ⟨p, F, rfl, hD, hF, hb2⟩
    have z1 := hb1.size
    have z2 := hb2.size
    replace hb1 := hb1.trans (hb2.mono hb1.size)
    clear hb2
    go_wp2_with fail
    refine (hnew.out _).mono ?_
    rintro e w4 ⟨q, G, rfl, hU, hG, hb2⟩
    have z3 := hb2.size
    have hT0 : Twin Dk w w4 p q st0 st0 := ⟨⟨F, G, K.later hD hb2, hU, fun k hk hg => by have := K.near _ _ _ _ hD k hk; have := hG k hg; omega,
      fun j hj => by have := hF j hj; omega, fun j hj => by have := hG j hj; omega⟩, hb1.trans (hb2.mono hb1.size)⟩
    clear hb2 hnew hD hF hU hG hb1 z1 z2 z3
    have hTA : ∀ (b : Nat) (cs : List Value), BoxAt w4 b cs → True := fun _ _ _ => trivial
    clear hTA
    go_wp2_with fail
    have hA0 : Calls Try.prog 16 #[.pointer (some ⟨p, 0, none⟩), .int .i64 n] w4 fun e W' => e = .returned (.tuple #[]) ∧ Twin Dk w W' p q sd0 st0 := by
      obtain ⟨⟨F, G, h1, h2, h3, h4, h5⟩, hb⟩ := hT0
      refine (harm.out F _ p h1).mono ?_
      rintro e W' ⟨he, F', k1, k2, k3⟩
      have hs := hb.size
      refine ⟨he, ⟨F', G, k1, K.keep _ _ _ _ _ _ h2 k2 (fun k hg hf => h3 k hf hg), fun k hf hg => h3 k (k3 k (K.near _ _ _ _ h2 k hg) hf) hg, fun k hf => ?_, h5⟩, hb.trans (k2.to_below hs h4)⟩
      by_cases e : k < w4.heap.size
      · exact h4 k (k3 k e hf)
      · omega
    refine hA0.mono ?_
    rintro e w5 ⟨rfl, hT1⟩
    clear hA0 hT0 harm
    go_wp2_with fail
    go_loopw [9, 43] (fun kv ix wr => ∃ (j k : Nat) (sd su : St), j ≤ l.length ∧ ix = .int .i64 j ∧ k ≤ j ∧ kv = .int .i64 k ∧ sd.OkN j ∧ su.OkN j ∧ ((sd.safe.length : Nat) : Int) = sectors ∧ Armed n k sd su ∧ Twin Dk w wr p q sd su) (fun _ ix _ => (l.length - intOf ix).toNat)
    case atStart => exact ⟨0, 0, sd0, st0, by omega, rfl, by omega, rfl, ho1.out, ho0.out, hlen2.out, hr0.out, hT1⟩
    case round =>
      clear hT1
      obtain ⟨j, k, sd, su, hj, rfl, hkj, rfl, hod, hou, hsl, har, hT⟩ := hrel
      replace hsl := Lib.hid hsl
      by_cases hlt : j < l.length
      · obtain ⟨b, off, rfl, hbl, hc⟩ := (hS0.below hT.below (Nat.le_refl _)).spot j hlt
        have hx := hw _ (List.getElem_mem hlt)
        generalize l[j] = x at *
        obtain ⟨kind, cn, data, mask, cut⟩ := x
        have hdt := hx.data
        dsimp only at hdt
        have c0 := hc 0 _ rfl
        have c1 := hc 1 _ rfl
        have c2 := hc 2 _ rfl
        have c3 := hc 3 _ rfl
        have c4 := hc 4 _ rfl
        dsimp only [Nat.add_zero] at c0 c1 c2 c3 c4
        clear hc hx
        have hTB := hT.boxed K [.int .i64 kind, .int .i64 cn, .string data, .int .u64 ((mask : Nat) : Int), .int .i64 cut] 31
        have okd := hod.ok (by omega)
        have oku := hou.ok (by omega)
        have hskip := Lib.hid (⟨j + 1, k, sd, su, by omega, by go_num, by omega, rfl, hod.mono (by omega), hou.mono (by omega), hsl.out, har, hTB.free⟩ : ∃ (j2 k2 : Nat) (sd2 su2 : St), j2 ≤ l.length ∧ Value.int .i64 (((j : Nat) : Int) + 1) = .int .i64 ((j2 : Nat) : Int) ∧ k2 ≤ j2 ∧ Value.int .i64 ((k : Nat) : Int) = .int .i64 ((k2 : Nat) : Int) ∧ sd2.OkN j2 ∧ su2.OkN j2 ∧ ((sd2.safe.length : Nat) : Int) = sectors ∧ Armed n k2 sd2 su2 ∧ Twin Dk w _ p q sd2 su2)
        have hend := Lib.hid (show ∀ (sd' su' : St), sd'.OkN (j + 1) → su'.OkN (j + 1) → sd'.safe.length = sd.safe.length → Armed n (k + 1) sd' su' → ∀ W' b' cs', TwinB Dk w W' p q sd' su' b' cs' → _ from
          fun sd' su' h1 h2 h5 h3 W' b' cs' h4 => (⟨j + 1, k + 1, sd', su', by omega, by go_num, by omega, by go_num, h1, h2, by rw [h5]; exact hsl.out, h3, h4.free⟩ : ∃ (j2 k2 : Nat) (sd2 su2 : St), j2 ≤ l.length ∧ Value.int .i64 (((j : Nat) : Int) + 1) = .int .i64 ((j2 : Nat) : Int) ∧ k2 ≤ j2 ∧ Value.int .i64 (((k : Nat) : Int) + 1) = .int .i64 ((k2 : Nat) : Int) ∧ sd2.OkN j2 ∧ su2.OkN j2 ∧ ((sd2.safe.length : Nat) : Int) = sectors ∧ Armed n k2 sd2 su2 ∧ Twin Dk w W' p q sd2 su2))
        have hask := Lib.hid (show ∀ (sd' su' : St), sd'.OkN (j + 1) → ∀ W' b' cs', TwinB Dk w W' p q sd' su' b' cs' → _ from
          fun sd' su' h1 W' b' cs' h4 => tb_lq K h4 (fun F hf => K.later' F W' p sd' hf (h1.ok (by omega))))
        have hask2 := Lib.hid (show ∀ (sd' su' : St), su'.OkN (j + 1) → ∀ W' b' cs', TwinB Dk w W' p q sd' su' b' cs' → _ from
          fun sd' su' h1 W' b' cs' h4 => tb_rq K h4 (fun F hf => K.later' F W' q su' hf (h1.ok (by omega))))
        by_cases h0 : kind = 0
        · subst h0
          by_cases hgood : 0 ≤ cn ∧ cn < sectors ∧ data.size ≤ 128
          · obtain ⟨g1, g2, g3⟩ := hgood
            have t1 : decide (cn < 0) = false := decide_eq_false (by omega)
            have t2 : decide (sectors ≤ cn) = false := decide_eq_false (by omega)
            have t3 : decide ((128 : Int) < ((data.size : Nat) : Int)) = false := decide_eq_false (by omega)
            have hgw := good_lit hsl.out g1 g2 g3
            have hwd := Lib.hid (fun W b cs h => tb_l (b := b) (cs := cs) (su := su) (w := w) (q := q) (W := W) K h (fun F hf => K.write F W p sd cn data hf okd hdt))
            have od1 := hod.write cn data
            have wl := write_length sd cn data
            by_cases hkn : ((k : Nat) : Int) + 1 = n
            · have e1 : (((k : Nat) : Int) + 1 == n) = true := beq_iff_eq.2 hkn
              have e2 : (((k : Nat) : Int) + 1 != n) = false := by rw [bne_eq_false_iff_eq]; exact hkn
              obtain ⟨r1, r2⟩ := har.write_bad cn data hgw hkn
              rw [r1] at hwd
              have hll := Lib.hid (congrArg List.length r2.later)
              have ou1 := hou.mono (j := j + 1) (by omega)
              replace hkn := Lib.hid hkn
              replace r1 := 0
              replace wl := Lib.hid wl
              clear hT hgw
              go_wp2_with fail
              refine (hwd.out _ _ _ hTB).mono ?_
              rintro e w6 ⟨rfl, hT6⟩
              go_wp2_with fail
              refine (hask.out _ _ od1 _ _ _ hT6).mono ?_
              rintro e w7 ⟨rfl, hT7⟩
              go_wp2_with fail
              refine (hask2.out _ _ ou1 _ _ _ hT7).mono ?_
              rintro e w8 ⟨rfl, hT8⟩
              rw [hll.out]
              go_wp2
              exact ⟨hend.out _ _ od1 ou1 wl.out r2 _ _ _ hT8, by simp [intOf]; omega⟩
            · have e1 : (((k : Nat) : Int) + 1 == n) = false := beq_eq_false_iff_ne.2 hkn
              have e2 : (((k : Nat) : Int) + 1 != n) = true := by rw [bne_iff_ne]; exact hkn
              obtain ⟨r1, r2⟩ := har.write_ok cn data hgw hkn
              rw [r1] at hwd
              have hwu := Lib.hid (fun W sd b cs h => tb_r (b := b) (cs := cs) (sd := sd) (w := w) (p := p) (W := W) K h (fun F hf => K.write F W q su cn data hf oku hdt))
              have hll := Lib.hid (congrArg List.length r2.later)
              have ou1 := hou.write cn data
              replace hkn := Lib.hid hkn
              replace r1 := 0
              replace wl := Lib.hid wl
              clear hT hgw
              go_wp2_with fail
              refine (hwd.out _ _ _ hTB).mono ?_
              rintro e w6 ⟨rfl, hT6⟩
              have d1 := hT6.box.spot 1 _ rfl
              have d2 := hT6.box.spot 2 _ rfl
              have hlx := hT6.box.lt
              go_wp2_with fail
              refine (hwu.out _ _ _ _ hT6).mono ?_
              rintro e w9 ⟨rfl, hT9⟩
              go_wp2_with fail
              refine (hask.out _ _ od1 _ _ _ hT9).mono ?_
              rintro e w7 ⟨rfl, hT7⟩
              go_wp2_with fail
              refine (hask2.out _ _ ou1 _ _ _ hT7).mono ?_
              rintro e w8 ⟨rfl, hT8⟩
              rw [hll.out]
              go_wp2
              exact ⟨hend.out _ _ od1 ou1 wl.out r2 _ _ _ hT8, by simp [intOf]; omega⟩
          · have hb3 : cn < 0 ∨ (¬ cn < 0 ∧ sectors ≤ cn) ∨ (¬ cn < 0 ∧ ¬ sectors ≤ cn ∧ (128 : Int) < ((data.size : Nat) : Int)) := by omega
            clear hgood hT hend hask hask2
            rcases hb3 with t | ⟨t, t'⟩ | ⟨t, t', t''⟩
            · have t1 : decide (cn < 0) = true := decide_eq_true t
              go_wp2
              exact ⟨hskip.out, by simp [intOf]; omega⟩
            · have t1 : decide (cn < 0) = false := decide_eq_false t
              have t2 : decide (sectors ≤ cn) = true := decide_eq_true t'
              go_wp2
              exact ⟨hskip.out, by simp [intOf]; omega⟩
            · have t1 : decide (cn < 0) = false := decide_eq_false t
              have t2 : decide (sectors ≤ cn) = false := decide_eq_false t'
              have t3 : decide ((128 : Int) < ((data.size : Nat) : Int)) = true := decide_eq_true t''
              go_wp2
              exact ⟨hskip.out, by simp [intOf]; omega⟩
        · have e0 : (kind == 0) = false := by rw [beq_eq_false_iff_ne]; exact h0
          by_cases h1 : 1 < kind
          · have t1 : decide (1 < kind) = true := decide_eq_true h1
            clear hT hend hask hask2
            go_wp2
            exact ⟨hskip.out, by simp [intOf]; omega⟩
          · have t1 : decide (1 < kind) = false := decide_eq_false h1
            have hwd := Lib.hid (fun W b cs h => tb_l (b := b) (cs := cs) (su := su) (w := w) (q := q) (W := W) K h (fun F hf => K.sync F W p sd hf okd))
            have od1 := hod.sync
            have wl := sync_length sd
            by_cases hkn : ((k : Nat) : Int) + 1 = n
            · have e1 : (((k : Nat) : Int) + 1 == n) = true := beq_iff_eq.2 hkn
              have e2 : (((k : Nat) : Int) + 1 != n) = false := by rw [bne_eq_false_iff_eq]; exact hkn
              obtain ⟨r1, r2⟩ := har.sync_bad hkn
              rw [r1] at hwd
              have hll := Lib.hid (congrArg List.length r2.later)
              have ou1 := hou.mono (j := j + 1) (by omega)
              replace hkn := Lib.hid hkn
              replace r1 := 0
              replace wl := Lib.hid wl
              clear hT
              go_wp2_with fail
              refine (hwd.out _ _ _ hTB).mono ?_
              rintro e w6 ⟨rfl, hT6⟩
              go_wp2_with fail
              refine (hask.out _ _ od1 _ _ _ hT6).mono ?_
              rintro e w7 ⟨rfl, hT7⟩
              go_wp2_with fail
              refine (hask2.out _ _ ou1 _ _ _ hT7).mono ?_
              rintro e w8 ⟨rfl, hT8⟩
              rw [hll.out]
              go_wp2
              exact ⟨hend.out _ _ od1 ou1 wl.out r2 _ _ _ hT8, by simp [intOf]; omega⟩
            · have e1 : (((k : Nat) : Int) + 1 == n) = false := beq_eq_false_iff_ne.2 hkn
              have e2 : (((k : Nat) : Int) + 1 != n) = true := by rw [bne_iff_ne]; exact hkn
              obtain ⟨r1, r2⟩ := har.sync_ok hkn
              rw [r1] at hwd
              have hwu := Lib.hid (fun W sd b cs h => tb_r (b := b) (cs := cs) (sd := sd) (w := w) (p := p) (W := W) K h (fun F hf => K.sync F W q su hf oku))
              have hll := Lib.hid (congrArg List.length r2.later)
              have ou1 := hou.sync
              replace hkn := Lib.hid hkn
              replace r1 := 0
              replace wl := Lib.hid wl
              clear hT
              go_wp2_with fail
              refine (hwd.out _ _ _ hTB).mono ?_
              rintro e w6 ⟨rfl, hT6⟩
              go_wp2_with fail
              refine (hwu.out _ _ _ _ hT6).mono ?_
              rintro e w9 ⟨rfl, hT9⟩
              go_wp2_with fail
              refine (hask.out _ _ od1 _ _ _ hT9).mono ?_
              rintro e w7 ⟨rfl, hT7⟩
              go_wp2_with fail
              refine (hask2.out _ _ ou1 _ _ _ hT7).mono ?_
              rintro e w8 ⟨rfl, hT8⟩
              rw [hll.out]
              go_wp2
              exact ⟨hend.out _ _ od1 ou1 wl.out r2 _ _ _ hT8, by simp [intOf]; omega⟩
      · obtain rfl : j = l.length := by omega
        have okd := hod.ok (by omega)
        have oku := hou.ok (by omega)
        have hnow := Lib.hid har.now
        have hrd := Lib.hid (fun W i (hi : i < sd.safe.length) h => tw_lq (w := w) (q := q) (su := su) (W := W) K h (fun F hf => read_in K F W p sd i hf okd hi))
        have hru := Lib.hid (fun W i (hi : i < su.safe.length) h => tw_rq (w := w) (p := p) (sd := sd) (W := W) K h (fun F hf => read_in K F W q su i hf oku hi))
        have hll : su.safe.length = sd.safe.length := by rw [har.safe]
        replace hll := Lib.hid hll
        have hTw := hT
        clear hT hod hou har
        go_wp2_with fail
        go_loopw [13] (fun ix wr2 => ∃ i : Nat, ((i : Nat) : Int) ≤ sectors ∧ ix = .int .i64 i ∧ Twin Dk w wr2 p q sd su) (fun ix _ => (sectors - intOf ix).toNat)
        case atStart => exact ⟨0, by omega, rfl, hTw⟩
        case round =>
          clear hTw
          obtain ⟨i, hi, rfl, hT⟩ := hrel
          by_cases hlt2 : ((i : Nat) : Int) < sectors
          · have i1 : i < sd.safe.length := by have := hsl.out; omega
            have i2 : i < su.safe.length := by have := hll.out; omega
            go_wp2_with fail
            refine (hrd.out _ i i1 hT).mono ?_
            rintro e w7 ⟨rfl, hT7⟩
            go_wp2_with fail
            refine (hru.out _ i i2 hT7).mono ?_
            rintro e w8 ⟨rfl, hT8⟩
            rw [hnow.out]
            go_wp2
            exact ⟨⟨i + 1, by omega, by go_num, hT8⟩, by simp [intOf]; omega⟩
          · have hb := hT.below
            have : ¬ ((i : Nat) : Int) < sectors := hlt2
            go_wp2
            go_ret
            exact ⟨rfl, hb⟩
  · have hq2 : greatP l = true ∨ (greatP l = false ∧ sectors < 0) ∨ (greatP l = false ∧ ¬ sectors < 0 ∧ 40 < sectors) ∨ (greatP l = false ∧ ¬ sectors < 0 ∧ ¬ 40 < sectors ∧ n < 1) := by
      by_cases x1 : greatP l = true
      · exact .inl x1
      · have y1 := Bool.eq_false_iff.mpr x1
        have : ¬ (0 ≤ sectors ∧ sectors ≤ 40 ∧ 1 ≤ n) := fun e => hq ⟨y1, e⟩
        by_cases z1 : sectors < 0
        · exact .inr (.inl ⟨y1, z1⟩)
        · by_cases z2 : 40 < sectors
          · exact .inr (.inr (.inl ⟨y1, z1, z2⟩))
          · exact .inr (.inr (.inr ⟨y1, z1, z2, by omega⟩))
    clear hq
    rcases hq2 with g | ⟨g, hz⟩ | ⟨g, hz, hz2⟩ | ⟨g, hz, hz2, hz3⟩
    all_goals
      rw [g] at hgr
      clear g
      go_enter Try.func6, Try.ntmps6
      go_wp2_with fail
      refine (hal.out _).mono ?_
      rintro e w1 ⟨rfl, hb1⟩
      replace hS := hS.later hb1
      go_wp2_with fail
      refine (hgr.out _ hS).mono ?_
      rintro e w2 ⟨rfl, hb2⟩
      replace hb1 := hb1.trans (hb2.mono hb1.size)
      go_wp2
      go_ret
      exact ⟨rfl, hb1⟩
end Go.Proofs.Ythmcdldmmhnleaa
