/- TapeTakes' walk, out of the landed contracts. -/
import Derived.Test.YtpccoachpilfkaaTj
namespace Go.Proofs.Ytpccoachpilfkaa
open Go.RowKit Wm

/-- The landed reader where there is none. -/
structure LandedNil : Prop where
  raw : ∀ W, Calls Try.prog 18 #[.pointer none, .int .i64 1] W fun e W' => e = .returned (.string ⟨#[]⟩) ∧ Below W.heap.size W W'
  int : ∀ W, Calls Try.prog 13 #[.pointer none, .int .i64 1] W fun e W' => e = .returned (.int .i64 0) ∧ Below W.heap.size W W'
  num : ∀ W, Calls Try.prog 16 #[.pointer none] W fun e W' => e = .returned (.agg #[.int .u64 0, .int .u64 0]) ∧ Below W.heap.size W W'
  flag : ∀ W, Calls Try.prog 17 #[.pointer none] W fun e W' => e = .returned (.bool false) ∧ Below W.heap.size W W'
  torn : ∀ W, Calls Try.prog 20 #[.pointer none] W fun e W' => e = .returned (.bool false) ∧ Below W.heap.size W W'
  left : ∀ W, Calls Try.prog 21 #[.pointer none] W fun e W' => e = .returned (.int .i64 0) ∧ Below W.heap.size W W'
  fin : ∀ W, Calls Try.prog 19 #[.pointer none] W fun e W' => e = .returned (.bool false) ∧ Below W.heap.size W W'

theorem digits_valL : ∀ (l : List Nat), (∀ b ∈ l, b < 256) → (List.range l.length).map (fun j => valL l / 256 ^ j % 256) = l
  | [], _ => rfl
  | b :: r, h => by
    have ih := digits_valL r (fun x hx => h x (List.mem_cons_of_mem _ hx))
    have hb := h b (List.mem_cons_self ..)
    rw [List.length_cons, List.range_succ_eq_map, List.map_cons, List.map_map, valL]
    congr 1
    · rw [Nat.pow_zero, Nat.div_one]; omega
    · conv => rhs; rw [← ih]
      apply List.map_congr_left
      intro j _
      show (b + 256 * valL r) / 256 ^ (j + 1) % 256 = _
      rw [Nat.pow_succ, Nat.mul_comm (256 ^ j), ← Nat.div_div_eq_div_mul, show (b + 256 * valL r) / 256 = valL r by omega]
theorem bytesN_inj {s t : ByteArray} (h : bytesN s = bytesN t) : s = t := by
  unfold bytesN at h
  have := List.map_inj_right (f := UInt8.toNat) (fun a b e => UInt8.toNat_inj.mp e) |>.mp h
  exact ByteArray.ext (Array.toList_inj.mp this)
theorem numB_valL (s : ByteArray) (h : s.size = 16) : numB (valL (bytesN s)) = s := by
  apply bytesN_inj
  rw [show numB (valL (bytesN s)) = textP (valL (bytesN s)) 16 from rfl, bytesN_textP]
  have := digits_valL (bytesN s) (bytesN_lt s)
  rw [bytesN_length, h] at this
  exact this

theorem part_some (rem : ByteArray) (m : Nat) (h : m ≤ rem.size) : rdPart (some rem) ((m : Nat) : Int) = rem.extract 0 m := by
  unfold rdPart; dsimp only; rw [if_pos (by omega), Int.toNat_natCast]
theorem next_some (rem : ByteArray) (m : Nat) (h : m ≤ rem.size) : rdNext (some rem) ((m : Nat) : Int) = some (rem.extract m rem.size) := by
  unfold rdNext; dsimp only; rw [if_pos (by omega), Int.toNat_natCast]
theorem part_out (rem : ByteArray) (n : Int) (h : ¬ (0 ≤ n ∧ n ≤ ((rem.size : Nat) : Int))) : rdPart (some rem) n = ⟨#[]⟩ := by
  unfold rdPart; dsimp only; rw [if_neg h]; rfl
theorem next_out (rem : ByteArray) (n : Int) (h : ¬ (0 ≤ n ∧ n ≤ ((rem.size : Nat) : Int))) : rdNext (some rem) n = none := by
  unfold rdNext; dsimp only; rw [if_neg h]
theorem num_none : numV (valL (bytesN ⟨#[]⟩)) = .agg #[.int .u64 0, .int .u64 0] := by
  rw [show valL (bytesN ⟨#[]⟩) = 0 from rfl, numV, hiN_zero, loN_zero]; rfl
theorem flag_out (st : Option ByteArray) (h : rdPart st 1 = ⟨#[]⟩) (_h2 : rdNext st 1 = none) : flagYes st = false := by
  unfold flagYes; rw [h]; decide +kernel
theorem flagNext_out (st : Option ByteArray) (h : rdPart st 1 = ⟨#[]⟩) (h2 : rdNext st 1 = none) : flagNext st = none := by
  unfold flagNext; rw [h, h2]; decide +kernel
theorem flag_three (rem : ByteArray) (h : 1 ≤ rem.size) :
    (Op.bytesLess (rem.extract 0 1).toList [1] = true ∧ ((rem.extract 0 1).toList == [1]) = false ∧ flagYes (some rem) = false ∧ flagNext (some rem) = some (rem.extract 1 rem.size)) ∨
    (Op.bytesLess (rem.extract 0 1).toList [1] = false ∧ ((rem.extract 0 1).toList == [1]) = true ∧ flagYes (some rem) = true ∧ flagNext (some rem) = some (rem.extract 1 rem.size)) ∨
    (Op.bytesLess (rem.extract 0 1).toList [1] = false ∧ ((rem.extract 0 1).toList == [1]) = false ∧ flagYes (some rem) = false ∧ flagNext (some rem) = none) := by
  have hp := part_some rem 1 h
  have hn := next_some rem 1 h
  rw [show ((1 : Nat) : Int) = 1 from rfl] at hp hn
  unfold flagYes flagNext
  rw [hp, hn]
  have hs : (rem.extract 0 1).size = 1 := by rw [ByteArray.size_extract]; omega
  generalize rem.extract 0 1 = q at *
  obtain ⟨⟨l⟩⟩ := q
  match l, hs with
  | [b], _ =>
    have hb : (⟨⟨[b]⟩⟩ : ByteArray).toList = [b] := ByteArray.toList_eq _
    have hv : bytesN ⟨⟨[b]⟩⟩ = [b.toNat] := rfl
    rw [hb, hv]
    have hvl : valL [b.toNat] = b.toNat := by simp [valL]
    rw [hvl]
    have hb8 := UInt8.toNat_lt b
    by_cases c0 : b.toNat = 0
    · left
      have : b = 0 := UInt8.toNat_inj.mp c0
      subst this
      exact ⟨by decide +kernel, by decide +kernel, by decide +kernel, if_pos (by decide +kernel)⟩
    · by_cases c1 : b.toNat = 1
      · right; left
        have : b = 1 := UInt8.toNat_inj.mp c1
        subst this
        exact ⟨by decide +kernel, by decide +kernel, by decide +kernel, if_pos (by decide +kernel)⟩
      · right; right
        refine ⟨?_, ?_, ?_, ?_⟩
        · have h1 : ¬ b < 1 := by rw [UInt8.lt_iff_toNat_lt]; show ¬ b.toNat < 1; omega
          have h2 : (1 : UInt8) < b := by rw [UInt8.lt_iff_toNat_lt]; show 1 < b.toNat; omega
          simp [Op.bytesLess, h1, h2]
        · rw [beq_eq_false_iff_ne]
          intro e
          apply c1
          have := List.cons.inj e
          rw [this.1]; rfl
        · rw [decide_eq_false]
          intro e
          exact c1 (List.cons.inj e).1
        · rw [if_neg (by omega)]
theorem torn_some {Rd : (Nat → Prop) → World → Nat → Option ByteArray → Prop} (R : LandedRd Rd) (p : Nat) (rest : ByteArray) (F : Nat → Prop) (W0 W : World) (h : RdPost Rd F p (some rest) W0 W) :
    Calls Try.prog 20 #[.pointer (some ⟨p, 0, none⟩)] W fun e W' => e = .returned (.bool false) ∧ Below W.heap.size W W' := by
  obtain ⟨F', h1, _, _⟩ := h
  exact R.torn F' W p _ h1
theorem torn_none {Rd : (Nat → Prop) → World → Nat → Option ByteArray → Prop} (R : LandedRd Rd) (p : Nat) (F : Nat → Prop) (W0 W : World) (h : RdPost Rd F p none W0 W) :
    Calls Try.prog 20 #[.pointer (some ⟨p, 0, none⟩)] W fun e W' => e = .returned (.bool true) ∧ Below W.heap.size W W' := by
  obtain ⟨F', h1, _, _⟩ := h
  exact R.torn F' W p _ h1
theorem left_some {Rd : (Nat → Prop) → World → Nat → Option ByteArray → Prop} (R : LandedRd Rd) (p : Nat) (rest : ByteArray) (F : Nat → Prop) (W0 W : World) (h : RdPost Rd F p (some rest) W0 W) :
    Calls Try.prog 21 #[.pointer (some ⟨p, 0, none⟩)] W fun e W' => e = .returned (.int .i64 ((rest.size : Nat) : Int)) ∧ Below W.heap.size W W' := by
  obtain ⟨F', h1, _, _⟩ := h
  exact R.left F' W p _ h1
theorem left_none {Rd : (Nat → Prop) → World → Nat → Option ByteArray → Prop} (R : LandedRd Rd) (p : Nat) (F : Nat → Prop) (W0 W : World) (h : RdPost Rd F p none W0 W) :
    Calls Try.prog 21 #[.pointer (some ⟨p, 0, none⟩)] W fun e W' => e = .returned (.int .i64 0) ∧ Below W.heap.size W W' := by
  obtain ⟨F', h1, _, _⟩ := h
  exact R.left F' W p _ h1
theorem empty_iff (rest : ByteArray) : rest.toList.isEmpty = endB (some rest) := by
  rw [ByteArray.toList_eq]
  unfold endB leftN
  obtain ⟨⟨l⟩⟩ := rest
  cases l <;> simp [ByteArray.size]
theorem fin_some {Rd : (Nat → Prop) → World → Nat → Option ByteArray → Prop} (R : LandedRd Rd) (p : Nat) (rest : ByteArray) (F : Nat → Prop) (W0 W : World) (h : RdPost Rd F p (some rest) W0 W) :
    Calls Try.prog 19 #[.pointer (some ⟨p, 0, none⟩)] W fun e W' => e = .returned (.bool rest.toList.isEmpty) ∧ Below W.heap.size W W' := by
  obtain ⟨F', h1, _, _⟩ := h
  rw [empty_iff]
  exact R.fin F' W p _ h1
theorem fin_none {Rd : (Nat → Prop) → World → Nat → Option ByteArray → Prop} (R : LandedRd Rd) (p : Nat) (F : Nat → Prop) (W0 W : World) (h : RdPost Rd F p none W0 W) :
    Calls Try.prog 19 #[.pointer (some ⟨p, 0, none⟩)] W fun e W' => e = .returned (.bool false) ∧ Below W.heap.size W W' := by
  obtain ⟨F', h1, _, _⟩ := h
  exact R.fin F' W p _ h1

/-- What is known while whatever is asked for. -/
def Taking (Rd : (Nat → Prop) → World → Nat → Option ByteArray → Prop) (w wr : World) (p : Nat) (t : Bool) (rem : ByteArray) : Prop := Reading Rd w wr p (if t then none else some rem)

set_option maxRecDepth 100000 in
set_option maxHeartbeats 8000000 in
theorem tapeTakes_any {Wr : (Nat → Prop) → World → Nat → ByteArray → Prop} (K : LandedWr Wr) {Rd : (Nat → Prop) → World → Nat → Option ByteArray → Prop} (R : LandedRd Rd) (Z : LandedNil)
    (s : ByteArray) (hs : s.size ≤ 140737488351232) (ao : Option Addr) (cap : Nat) (l : List Item) (hw : ∀ x ∈ l, x.Wf) (hlen : l.length ≤ 140737488351232) (w : World) (hS : ItemsAt w ao l) :
    Calls Try.prog 4 #[.string s, .slice ao l.length cap] w fun e w' => e = .returned (.bool true) ∧ Below w.heap.size w w' := by
  have hS0 := hS
  have hal := Lib.hid (tapeAlive_any K R)
  have hgr := Lib.hid (great_any ao cap l hw hlen)
  by_cases hq : greatB l = false ∧ s.size ≤ 4096
  · obtain ⟨g, hsz⟩ := hq
    rw [g] at hgr
    clear g
    have n1 : ¬ (4096 : Int) < ((s.size : Nat) : Int) := by omega
    have hrd := Lib.hid (fun W => R.read s W (by omega))
    go_enter Try.func4, Try.ntmps4
    go_wp2_with fail
    refine (hal.out _).mono ?_
    rintro e w1 ⟨rfl, hb1⟩
    replace hS := hS.later hb1
    go_wp2_with fail
    refine (hgr.out _ hS).mono ?_
    rintro e w2 ⟨rfl, hb2⟩
    replace hb1 := hb1.trans (hb2.mono hb1.size)
    clear hb2
    go_wp2_with fail
    refine (hrd.out _).mono ?_
    rintro e w6 ⟨p, F, rfl, hR, hFb, hb2⟩
    have hsz1 := hb1.size
    have hsz2 := hb2.size
    replace hb1 := hb1.trans (hb2.mono hb1.size)
    have hg0 : Taking Rd w w6 p false s := ⟨⟨F, hR, fun j hj => by have := hFb j hj; omega⟩, hb1⟩
    clear hR hFb hb1 hsz1 hsz2 hb2 hrd hal hgr hS
    go_wp2_with fail
    go_loopw [0, 6, 28] (fun sv tv i wr => ∃ (k : Nat) (rem : ByteArray) (t : Bool), k ≤ l.length ∧ i = .int .i64 k ∧ sv = .string rem ∧ tv = .bool t ∧ rem.size ≤ 4096 ∧ Taking Rd w wr p t rem) (fun _ _ i _ => (l.length - intOf i).toNat)
    case atStart => exact ⟨0, s, false, by omega, rfl, rfl, rfl, hsz, hg0⟩
    case round =>
      clear hg0
      obtain ⟨k, rem, t, hk, rfl, rfl, rfl, hrem, hP⟩ := hrel
      by_cases hlt : k < l.length
      · obtain ⟨b, off, rfl, hbl, hc⟩ := (hS0.below hP.below (Nat.le_refl _)).spot k hlt
        have hx := hw _ (List.getElem_mem hlt)
        obtain ⟨⟨F, hF, hFb⟩, hb⟩ := hP
        have hstep := Lib.hid (fun st wx w2 w3 a b c => Reading.step (w := w) (wx := wx) (w2 := w2) (w3 := w3) (p := p) (F := F) (st := st) R hFb a b c)
        generalize l[k] = x at *
        obtain ⟨kind, size, n, wide, yes, text⟩ := x
        have c0 := hc 0 _ rfl
        have c1 := hc 1 _ rfl
        have c2 := hc 2 _ rfl
        have c3 := hc 3 _ rfl
        have c4 := hc 4 _ rfl
        have c5 := hc 5 _ rfl
        have c6 := hc 6 _ rfl
        dsimp only [Nat.add_zero] at c0 c1 c2 c3 c4 c5 c6
        have hin := hx.n
        dsimp only at hin
        clear hc hx
        have hX := BoxAt.new wr [.int .i64 kind, .int .i64 size, .int .i64 n, .int .u64 ((hiN wide : Nat) : Int), .int .u64 ((loN wide : Nat) : Int), .bool yes, .string text] 36
        have hbx := hb.alloc hb.size (.cells #[.int .i64 kind, .int .i64 size, .int .i64 n, .int .u64 ((hiN wide : Nat) : Int), .int .u64 ((loN wide : Nat) : Int), .bool yes, .string text] 36)
        have hFx := R.later hF ((Below.refl _ _).alloc (Nat.le_refl _) (.cells #[.int .i64 kind, .int .i64 size, .int .i64 n, .int .u64 ((hiN wide : Nat) : Int), .int .u64 ((loN wide : Nat) : Int), .bool yes, .string text] 36))
        have hFn : ¬ F wr.heap.size := fun e => by have := R.near _ _ _ _ hF _ e; omega
        clear hF
        -- CASES
        by_cases h0 : kind = 0
        · subst h0
          cases t
          · replace hFx : Rd F _ p (some rem) := hFx
            have hki := sizeK_int2 size
            have hsk := sizeK_le size
            have hmm := Lib.hid (show ∀ W h, _ from fun W h => R.int F W p (some rem) size h)
            generalize sizeK size = m at *
            by_cases hr : m ≤ rem.size
            · have hr2 : ¬ ((rem.size : Nat) : Int) < ((m : Nat) : Int) := by omega
              have hI := Lib.hid (fun W h => hmm.out W h)
              rw [part_some rem m hr, next_some rem m hr] at hI
              have hrb := Lib.hid (fun w => refback_any (rem.extract 0 m) (by rw [ByteArray.size_extract]; omega) w)
              have hT := Lib.hid (fun W0 W h => torn_some R p (rem.extract m rem.size) F W0 W h)
              have hL := Lib.hid (fun W0 W h => left_some R p (rem.extract m rem.size) F W0 W h)
              have hE := Lib.hid (fun W0 W h => fin_some R p (rem.extract m rem.size) F W0 W h)
              have hrs : (rem.extract m rem.size).size ≤ 4096 := by rw [ByteArray.size_extract]; omega
              go_wp2_with fail
              refine (hI.out _ hFx).mono ?_
              rintro e wR ⟨rfl, hpR⟩
              go_wp2_with fail
              refine (hrb.out _).mono ?_
              rintro e wB ⟨rfl, rfl⟩
              go_wp2_with fail
              refine (hT.out _ _ hpR).mono ?_
              rintro e wT ⟨rfl, hbT⟩
              replace hpR := hpR.later R hbT
              clear hbT
              go_wp2_with fail
              refine (hL.out _ _ hpR).mono ?_
              rintro e wL ⟨rfl, hbT⟩
              replace hpR := hpR.later R hbT
              clear hbT
              go_wp2_with fail
              refine (hE.out _ _ hpR).mono ?_
              rintro e wE ⟨rfl, hbT⟩
              replace hpR := hpR.later R hbT
              clear hbT
              go_wp2
              exact ⟨⟨k + 1, _, false, by omega, by go_num, rfl, rfl, hrs, hstep.out _ _ _ _ hbx hpR (Below.refl _ _)⟩, by simp [intOf]; omega⟩
            · have hr4 : ((rem.size : Nat) : Int) < ((m : Nat) : Int) := by omega
              have hp0 : rdPart (some rem) ((m : Nat) : Int) = ⟨#[]⟩ := part_out rem _ (by omega)
              have hn0 : rdNext (some rem) ((m : Nat) : Int) = none := next_out rem _ (by omega)
              have hI := Lib.hid (fun W h => hmm.out W h)
              rw [hp0, hn0] at hI
              have hrb := Lib.hid (fun w => refback_any ⟨#[]⟩ (by decide) w)
              clear hp0 hn0
              have hT := Lib.hid (fun W0 W h => torn_none R p  F W0 W h)
              have hL := Lib.hid (fun W0 W h => left_none R p  F W0 W h)
              have hE := Lib.hid (fun W0 W h => fin_none R p  F W0 W h)
              go_wp2_with fail
              refine (hI.out _ hFx).mono ?_
              rintro e wR ⟨rfl, hpR⟩
              go_wp2_with fail
              refine (hrb.out _).mono ?_
              rintro e wB ⟨rfl, rfl⟩
              go_wp2_with fail
              refine (hT.out _ _ hpR).mono ?_
              rintro e wT ⟨rfl, hbT⟩
              replace hpR := hpR.later R hbT
              clear hbT
              go_wp2_with fail
              refine (hL.out _ _ hpR).mono ?_
              rintro e wL ⟨rfl, hbT⟩
              replace hpR := hpR.later R hbT
              clear hbT
              go_wp2_with fail
              refine (hE.out _ _ hpR).mono ?_
              rintro e wE ⟨rfl, hbT⟩
              replace hpR := hpR.later R hbT
              clear hbT
              go_wp2
              exact ⟨⟨k + 1, _, true, by omega, by go_num, rfl, rfl, hrem, hstep.out _ _ _ _ hbx hpR (Below.refl _ _)⟩, by simp [intOf]; omega⟩
          · replace hFx : Rd F _ p none := hFx
            have hp0 : ∀ z, rdPart none z = ⟨#[]⟩ := fun _ => rfl
            have hn0 : ∀ z, rdNext none z = none := fun _ => rfl
            have hI := Lib.hid (fun W h => R.int F W p none size h)
            rw [hp0, hn0] at hI
            have hrb := Lib.hid (fun w => refback_any ⟨#[]⟩ (by decide) w)
            clear hp0 hn0
            have hT := Lib.hid (fun W0 W h => torn_none R p  F W0 W h)
            have hL := Lib.hid (fun W0 W h => left_none R p  F W0 W h)
            have hE := Lib.hid (fun W0 W h => fin_none R p  F W0 W h)
            go_wp2_with fail
            refine (hI.out _ hFx).mono ?_
            rintro e wR ⟨rfl, hpR⟩
            go_wp2_with fail
            refine (hrb.out _).mono ?_
            rintro e wB ⟨rfl, rfl⟩
            go_wp2_with fail
            refine (hT.out _ _ hpR).mono ?_
            rintro e wT ⟨rfl, hbT⟩
            replace hpR := hpR.later R hbT
            clear hbT
            go_wp2_with fail
            refine (hL.out _ _ hpR).mono ?_
            rintro e wL ⟨rfl, hbT⟩
            replace hpR := hpR.later R hbT
            clear hbT
            go_wp2_with fail
            refine (hE.out _ _ hpR).mono ?_
            rintro e wE ⟨rfl, hbT⟩
            replace hpR := hpR.later R hbT
            clear hbT
            go_wp2
            exact ⟨⟨k + 1, _, true, by omega, by go_num, rfl, rfl, hrem, hstep.out _ _ _ _ hbx hpR (Below.refl _ _)⟩, by simp [intOf]; omega⟩
        · by_cases h1 : kind = 1
          · subst h1
            cases t
            · replace hFx : Rd F _ p (some rem) := hFx
              by_cases hr : 16 ≤ rem.size
              · have hr2 : ¬ ((rem.size : Nat) : Int) < 16 := by omega
                have hr3 : (16 : Int) ≤ ((rem.size : Nat) : Int) := by omega
                have hI := Lib.hid (fun W h => R.num F W p (some rem) h)
                rw [show (16 : Int) = ((16 : Nat) : Int) from rfl, part_some rem 16 hr, next_some rem 16 hr] at hI
                have hnv := Lib.hid (numB_valL (rem.extract 0 16) (by rw [ByteArray.size_extract]; omega))
                have hri := Lib.hid (fun w => refbytesN_any (valL (bytesN (rem.extract 0 16))) w)
                rw [hnv.out] at hri
                generalize valL (bytesN (rem.extract 0 16)) = v at *
                clear hnv
                have hT := Lib.hid (fun W0 W h => torn_some R p (rem.extract 16 rem.size) F W0 W h)
                have hL := Lib.hid (fun W0 W h => left_some R p (rem.extract 16 rem.size) F W0 W h)
                have hE := Lib.hid (fun W0 W h => fin_some R p (rem.extract 16 rem.size) F W0 W h)
                have hrs : (rem.extract 16 rem.size).size ≤ 4096 := by rw [ByteArray.size_extract]; omega
                go_wp2_with fail
                refine (hI.out _ hFx).mono ?_
                rintro e wR ⟨rfl, hpR⟩
                replace hpR := hpR.later R ((Below.refl _ _).alloc (Nat.le_refl _) (.cells #[.int .u64 ((hiN v : Nat) : Int), .int .u64 ((loN v : Nat) : Int)] 34))
                go_wp2_with fail
                refine (hri.out _).mono ?_
                rintro e wB ⟨rfl, hbT⟩
                replace hpR := hpR.later R hbT
                clear hbT
                go_wp2_with fail
                refine (hT.out _ _ hpR).mono ?_
                rintro e wT ⟨rfl, hbT⟩
                replace hpR := hpR.later R hbT
                clear hbT
                go_wp2_with fail
                refine (hL.out _ _ hpR).mono ?_
                rintro e wL ⟨rfl, hbT⟩
                replace hpR := hpR.later R hbT
                clear hbT
                go_wp2_with fail
                refine (hE.out _ _ hpR).mono ?_
                rintro e wE ⟨rfl, hbT⟩
                replace hpR := hpR.later R hbT
                clear hbT
                go_wp2
                exact ⟨⟨k + 1, _, false, by omega, by go_num, rfl, rfl, hrs, hstep.out _ _ _ _ hbx hpR (Below.refl _ _)⟩, by simp [intOf]; omega⟩
              · have hr4 : ((rem.size : Nat) : Int) < 16 := by omega
                have hp0 : rdPart (some rem) 16 = ⟨#[]⟩ := part_out rem _ (by omega)
                have hn0 : rdNext (some rem) 16 = none := next_out rem _ (by omega)
                have hI := Lib.hid (fun W h => R.num F W p (some rem) h)
                rw [hp0, hn0, num_none] at hI
                clear hp0 hn0
                have hT := Lib.hid (fun W0 W h => torn_none R p  F W0 W h)
                have hL := Lib.hid (fun W0 W h => left_none R p  F W0 W h)
                have hE := Lib.hid (fun W0 W h => fin_none R p  F W0 W h)
                go_wp2_with fail
                refine (hI.out _ hFx).mono ?_
                rintro e wR ⟨rfl, hpR⟩
                replace hpR := hpR.later R ((Below.refl _ _).alloc (Nat.le_refl _) (.cells #[.int .u64 0, .int .u64 0] 34))
                go_wp2_with fail
                refine (hT.out _ _ hpR).mono ?_
                rintro e wT ⟨rfl, hbT⟩
                replace hpR := hpR.later R hbT
                clear hbT
                go_wp2_with fail
                refine (hL.out _ _ hpR).mono ?_
                rintro e wL ⟨rfl, hbT⟩
                replace hpR := hpR.later R hbT
                clear hbT
                go_wp2_with fail
                refine (hE.out _ _ hpR).mono ?_
                rintro e wE ⟨rfl, hbT⟩
                replace hpR := hpR.later R hbT
                clear hbT
                go_wp2
                exact ⟨⟨k + 1, _, true, by omega, by go_num, rfl, rfl, hrem, hstep.out _ _ _ _ hbx hpR (Below.refl _ _)⟩, by simp [intOf]; omega⟩
            · replace hFx : Rd F _ p none := hFx
              have hp0 : ∀ z, rdPart none z = ⟨#[]⟩ := fun _ => rfl
              have hn0 : ∀ z, rdNext none z = none := fun _ => rfl
              have hI := Lib.hid (fun W h => R.num F W p (none) h)
              rw [hp0, hn0, num_none] at hI
              clear hp0 hn0
              have hT := Lib.hid (fun W0 W h => torn_none R p  F W0 W h)
              have hL := Lib.hid (fun W0 W h => left_none R p  F W0 W h)
              have hE := Lib.hid (fun W0 W h => fin_none R p  F W0 W h)
              go_wp2_with fail
              refine (hI.out _ hFx).mono ?_
              rintro e wR ⟨rfl, hpR⟩
              replace hpR := hpR.later R ((Below.refl _ _).alloc (Nat.le_refl _) (.cells #[.int .u64 0, .int .u64 0] 34))
              go_wp2_with fail
              refine (hT.out _ _ hpR).mono ?_
              rintro e wT ⟨rfl, hbT⟩
              replace hpR := hpR.later R hbT
              clear hbT
              go_wp2_with fail
              refine (hL.out _ _ hpR).mono ?_
              rintro e wL ⟨rfl, hbT⟩
              replace hpR := hpR.later R hbT
              clear hbT
              go_wp2_with fail
              refine (hE.out _ _ hpR).mono ?_
              rintro e wE ⟨rfl, hbT⟩
              replace hpR := hpR.later R hbT
              clear hbT
              go_wp2
              exact ⟨⟨k + 1, _, true, by omega, by go_num, rfl, rfl, hrem, hstep.out _ _ _ _ hbx hpR (Below.refl _ _)⟩, by simp [intOf]; omega⟩
          · by_cases h2 : kind = 2
            · subst h2
              cases t
              · replace hFx : Rd F _ p (some rem) := hFx
                by_cases hr : 1 ≤ rem.size
                · have hr2 : ¬ ((rem.size : Nat) : Int) < 1 := by omega
                  have hr3 : (1 : Int) ≤ ((rem.size : Nat) : Int) := by omega
                  have hI := Lib.hid (fun W h => R.flag F W p (some rem) h)
                  rcases flag_three rem hr with ⟨e1, e2, e3, e4⟩ | ⟨e1, e2, e3, e4⟩ | ⟨e1, e2, e3, e4⟩
                  · rw [e3, e4] at hI
                    clear e3 e4
                    have hT := Lib.hid (fun W0 W h => torn_some R p (rem.extract 1 rem.size) F W0 W h)
                    have hL := Lib.hid (fun W0 W h => left_some R p (rem.extract 1 rem.size) F W0 W h)
                    have hE := Lib.hid (fun W0 W h => fin_some R p (rem.extract 1 rem.size) F W0 W h)
                    have hrs : (rem.extract 1 rem.size).size ≤ 4096 := by rw [ByteArray.size_extract]; omega
                    go_wp2_with fail
                    refine (hI.out _ hFx).mono ?_
                    rintro e wR ⟨rfl, hpR⟩
                    go_wp2_with fail
                    refine (hT.out _ _ hpR).mono ?_
                    rintro e wT ⟨rfl, hbT⟩
                    replace hpR := hpR.later R hbT
                    clear hbT
                    go_wp2_with fail
                    refine (hL.out _ _ hpR).mono ?_
                    rintro e wL ⟨rfl, hbT⟩
                    replace hpR := hpR.later R hbT
                    clear hbT
                    go_wp2_with fail
                    refine (hE.out _ _ hpR).mono ?_
                    rintro e wE ⟨rfl, hbT⟩
                    replace hpR := hpR.later R hbT
                    clear hbT
                    go_wp2
                    exact ⟨⟨k + 1, _, false, by omega, by go_num, rfl, rfl, hrs, hstep.out _ _ _ _ hbx hpR (Below.refl _ _)⟩, by simp [intOf]; omega⟩
                  · rw [e3, e4] at hI
                    clear e3 e4
                    have hT := Lib.hid (fun W0 W h => torn_some R p (rem.extract 1 rem.size) F W0 W h)
                    have hL := Lib.hid (fun W0 W h => left_some R p (rem.extract 1 rem.size) F W0 W h)
                    have hE := Lib.hid (fun W0 W h => fin_some R p (rem.extract 1 rem.size) F W0 W h)
                    have hrs : (rem.extract 1 rem.size).size ≤ 4096 := by rw [ByteArray.size_extract]; omega
                    go_wp2_with fail
                    refine (hI.out _ hFx).mono ?_
                    rintro e wR ⟨rfl, hpR⟩
                    go_wp2_with fail
                    refine (hT.out _ _ hpR).mono ?_
                    rintro e wT ⟨rfl, hbT⟩
                    replace hpR := hpR.later R hbT
                    clear hbT
                    go_wp2_with fail
                    refine (hL.out _ _ hpR).mono ?_
                    rintro e wL ⟨rfl, hbT⟩
                    replace hpR := hpR.later R hbT
                    clear hbT
                    go_wp2_with fail
                    refine (hE.out _ _ hpR).mono ?_
                    rintro e wE ⟨rfl, hbT⟩
                    replace hpR := hpR.later R hbT
                    clear hbT
                    go_wp2
                    exact ⟨⟨k + 1, _, false, by omega, by go_num, rfl, rfl, hrs, hstep.out _ _ _ _ hbx hpR (Below.refl _ _)⟩, by simp [intOf]; omega⟩
                  · rw [e3, e4] at hI
                    clear e3 e4
                    have hT := Lib.hid (fun W0 W h => torn_none R p  F W0 W h)
                    have hL := Lib.hid (fun W0 W h => left_none R p  F W0 W h)
                    have hE := Lib.hid (fun W0 W h => fin_none R p  F W0 W h)
                    have hrs : (rem.extract 1 rem.size).size ≤ 4096 := by rw [ByteArray.size_extract]; omega
                    go_wp2_with fail
                    refine (hI.out _ hFx).mono ?_
                    rintro e wR ⟨rfl, hpR⟩
                    go_wp2_with fail
                    refine (hT.out _ _ hpR).mono ?_
                    rintro e wT ⟨rfl, hbT⟩
                    replace hpR := hpR.later R hbT
                    clear hbT
                    go_wp2_with fail
                    refine (hL.out _ _ hpR).mono ?_
                    rintro e wL ⟨rfl, hbT⟩
                    replace hpR := hpR.later R hbT
                    clear hbT
                    go_wp2_with fail
                    refine (hE.out _ _ hpR).mono ?_
                    rintro e wE ⟨rfl, hbT⟩
                    replace hpR := hpR.later R hbT
                    clear hbT
                    go_wp2
                    exact ⟨⟨k + 1, _, true, by omega, by go_num, rfl, rfl, hrs, hstep.out _ _ _ _ hbx hpR (Below.refl _ _)⟩, by simp [intOf]; omega⟩
                · have hr4 : ((rem.size : Nat) : Int) < 1 := by omega
                  have hp0 : rdPart (some rem) 1 = ⟨#[]⟩ := part_out rem _ (by omega)
                  have hn0 : rdNext (some rem) 1 = none := next_out rem _ (by omega)
                  have hI := Lib.hid (fun W h => R.flag F W p (some rem) h)
                  rw [flag_out (some rem) (part_out rem _ (by omega)) (next_out rem _ (by omega)), flagNext_out (some rem) (part_out rem _ (by omega)) (next_out rem _ (by omega))] at hI
                  clear hp0 hn0
                  have hT := Lib.hid (fun W0 W h => torn_none R p  F W0 W h)
                  have hL := Lib.hid (fun W0 W h => left_none R p  F W0 W h)
                  have hE := Lib.hid (fun W0 W h => fin_none R p  F W0 W h)
                  go_wp2_with fail
                  refine (hI.out _ hFx).mono ?_
                  rintro e wR ⟨rfl, hpR⟩
                  go_wp2_with fail
                  refine (hT.out _ _ hpR).mono ?_
                  rintro e wT ⟨rfl, hbT⟩
                  replace hpR := hpR.later R hbT
                  clear hbT
                  go_wp2_with fail
                  refine (hL.out _ _ hpR).mono ?_
                  rintro e wL ⟨rfl, hbT⟩
                  replace hpR := hpR.later R hbT
                  clear hbT
                  go_wp2_with fail
                  refine (hE.out _ _ hpR).mono ?_
                  rintro e wE ⟨rfl, hbT⟩
                  replace hpR := hpR.later R hbT
                  clear hbT
                  go_wp2
                  exact ⟨⟨k + 1, _, true, by omega, by go_num, rfl, rfl, hrem, hstep.out _ _ _ _ hbx hpR (Below.refl _ _)⟩, by simp [intOf]; omega⟩
              · replace hFx : Rd F _ p none := hFx
                have hp0 : ∀ z, rdPart none z = ⟨#[]⟩ := fun _ => rfl
                have hn0 : ∀ z, rdNext none z = none := fun _ => rfl
                have hI := Lib.hid (fun W h => R.flag F W p (none) h)
                rw [flag_out (none) rfl rfl, flagNext_out (none) rfl rfl] at hI
                clear hp0 hn0
                have hT := Lib.hid (fun W0 W h => torn_none R p  F W0 W h)
                have hL := Lib.hid (fun W0 W h => left_none R p  F W0 W h)
                have hE := Lib.hid (fun W0 W h => fin_none R p  F W0 W h)
                go_wp2_with fail
                refine (hI.out _ hFx).mono ?_
                rintro e wR ⟨rfl, hpR⟩
                go_wp2_with fail
                refine (hT.out _ _ hpR).mono ?_
                rintro e wT ⟨rfl, hbT⟩
                replace hpR := hpR.later R hbT
                clear hbT
                go_wp2_with fail
                refine (hL.out _ _ hpR).mono ?_
                rintro e wL ⟨rfl, hbT⟩
                replace hpR := hpR.later R hbT
                clear hbT
                go_wp2_with fail
                refine (hE.out _ _ hpR).mono ?_
                rintro e wE ⟨rfl, hbT⟩
                replace hpR := hpR.later R hbT
                clear hbT
                go_wp2
                exact ⟨⟨k + 1, _, true, by omega, by go_num, rfl, rfl, hrem, hstep.out _ _ _ _ hbx hpR (Below.refl _ _)⟩, by simp [intOf]; omega⟩
            · have e0 : (kind == 0) = false := by rw [beq_eq_false_iff_ne]; exact h0
              have e1 : (kind == 1) = false := by rw [beq_eq_false_iff_ne]; exact h1
              have e2 : (kind == 2) = false := by rw [beq_eq_false_iff_ne]; exact h2
              cases t
              · replace hFx : Rd F _ p (some rem) := hFx
                by_cases hr : 0 ≤ n ∧ n ≤ ((rem.size : Nat) : Int)
                · obtain ⟨r1, r2⟩ := hr
                  obtain ⟨m, rfl⟩ := Int.eq_ofNat_of_zero_le r1
                  have hr : m ≤ rem.size := by omega
                  have hr2 : ¬ ((rem.size : Nat) : Int) < ((m : Nat) : Int) := by omega
                  have r3 : decide (((m : Nat) : Int) < 0) = false := decide_eq_false (by omega)
                  replace r1 := Lib.hid r1
                  have hI := Lib.hid (fun W h => R.raw F W p (some rem) ((m : Nat) : Int) h (by omega) (by omega))
                  rw [part_some rem m hr, next_some rem m hr] at hI
                  have hT := Lib.hid (fun W0 W h => torn_some R p (rem.extract m rem.size) F W0 W h)
                  have hL := Lib.hid (fun W0 W h => left_some R p (rem.extract m rem.size) F W0 W h)
                  have hE := Lib.hid (fun W0 W h => fin_some R p (rem.extract m rem.size) F W0 W h)
                  have hrs : (rem.extract m rem.size).size ≤ 4096 := by rw [ByteArray.size_extract]; omega
                  go_wp2_with fail
                  refine (hI.out _ hFx).mono ?_
                  rintro e wR ⟨rfl, hpR⟩
                  go_wp2_with fail
                  refine (hT.out _ _ hpR).mono ?_
                  rintro e wT ⟨rfl, hbT⟩
                  replace hpR := hpR.later R hbT
                  clear hbT
                  go_wp2_with fail
                  refine (hL.out _ _ hpR).mono ?_
                  rintro e wL ⟨rfl, hbT⟩
                  replace hpR := hpR.later R hbT
                  clear hbT
                  go_wp2_with fail
                  refine (hE.out _ _ hpR).mono ?_
                  rintro e wE ⟨rfl, hbT⟩
                  replace hpR := hpR.later R hbT
                  clear hbT
                  go_wp2
                  exact ⟨⟨k + 1, _, false, by omega, by go_num, rfl, rfl, hrs, hstep.out _ _ _ _ hbx hpR (Below.refl _ _)⟩, by simp [intOf]; omega⟩
                · have hr4 : n < 0 ∨ (¬ n < 0 ∧ ((rem.size : Nat) : Int) < n) := by omega
                  have hp0 : rdPart (some rem) n = ⟨#[]⟩ := part_out rem _ (by omega)
                  have hn0 : rdNext (some rem) n = none := next_out rem _ (by omega)
                  have hI := Lib.hid (fun W h => R.raw F W p (some rem) n h hin.1 hin.2)
                  rw [hp0, hn0] at hI
                  clear hp0 hn0
                  clear hr
                  rcases hr4 with h | ⟨h, h'⟩
                  · skip
                    have hT := Lib.hid (fun W0 W h => torn_none R p  F W0 W h)
                    have hL := Lib.hid (fun W0 W h => left_none R p  F W0 W h)
                    have hE := Lib.hid (fun W0 W h => fin_none R p  F W0 W h)
                    go_wp2_with fail
                    refine (hI.out _ hFx).mono ?_
                    rintro e wR ⟨rfl, hpR⟩
                    go_wp2_with fail
                    refine (hT.out _ _ hpR).mono ?_
                    rintro e wT ⟨rfl, hbT⟩
                    replace hpR := hpR.later R hbT
                    clear hbT
                    go_wp2_with fail
                    refine (hL.out _ _ hpR).mono ?_
                    rintro e wL ⟨rfl, hbT⟩
                    replace hpR := hpR.later R hbT
                    clear hbT
                    go_wp2_with fail
                    refine (hE.out _ _ hpR).mono ?_
                    rintro e wE ⟨rfl, hbT⟩
                    replace hpR := hpR.later R hbT
                    clear hbT
                    go_wp2
                    exact ⟨⟨k + 1, _, true, by omega, by go_num, rfl, rfl, hrem, hstep.out _ _ _ _ hbx hpR (Below.refl _ _)⟩, by simp [intOf]; omega⟩
                  · skip
                    have hT := Lib.hid (fun W0 W h => torn_none R p  F W0 W h)
                    have hL := Lib.hid (fun W0 W h => left_none R p  F W0 W h)
                    have hE := Lib.hid (fun W0 W h => fin_none R p  F W0 W h)
                    go_wp2_with fail
                    refine (hI.out _ hFx).mono ?_
                    rintro e wR ⟨rfl, hpR⟩
                    go_wp2_with fail
                    refine (hT.out _ _ hpR).mono ?_
                    rintro e wT ⟨rfl, hbT⟩
                    replace hpR := hpR.later R hbT
                    clear hbT
                    go_wp2_with fail
                    refine (hL.out _ _ hpR).mono ?_
                    rintro e wL ⟨rfl, hbT⟩
                    replace hpR := hpR.later R hbT
                    clear hbT
                    go_wp2_with fail
                    refine (hE.out _ _ hpR).mono ?_
                    rintro e wE ⟨rfl, hbT⟩
                    replace hpR := hpR.later R hbT
                    clear hbT
                    go_wp2
                    exact ⟨⟨k + 1, _, true, by omega, by go_num, rfl, rfl, hrem, hstep.out _ _ _ _ hbx hpR (Below.refl _ _)⟩, by simp [intOf]; omega⟩
              · replace hFx : Rd F _ p none := hFx
                have hp0 : ∀ z, rdPart none z = ⟨#[]⟩ := fun _ => rfl
                have hn0 : ∀ z, rdNext none z = none := fun _ => rfl
                have hI := Lib.hid (fun W h => R.raw F W p (none) n h hin.1 hin.2)
                rw [hp0, hn0] at hI
                clear hp0 hn0
                have hT := Lib.hid (fun W0 W h => torn_none R p  F W0 W h)
                have hL := Lib.hid (fun W0 W h => left_none R p  F W0 W h)
                have hE := Lib.hid (fun W0 W h => fin_none R p  F W0 W h)
                go_wp2_with fail
                refine (hI.out _ hFx).mono ?_
                rintro e wR ⟨rfl, hpR⟩
                go_wp2_with fail
                refine (hT.out _ _ hpR).mono ?_
                rintro e wT ⟨rfl, hbT⟩
                replace hpR := hpR.later R hbT
                clear hbT
                go_wp2_with fail
                refine (hL.out _ _ hpR).mono ?_
                rintro e wL ⟨rfl, hbT⟩
                replace hpR := hpR.later R hbT
                clear hbT
                go_wp2_with fail
                refine (hE.out _ _ hpR).mono ?_
                rintro e wE ⟨rfl, hbT⟩
                replace hpR := hpR.later R hbT
                clear hbT
                go_wp2
                exact ⟨⟨k + 1, _, true, by omega, by go_num, rfl, rfl, hrem, hstep.out _ _ _ _ hbx hpR (Below.refl _ _)⟩, by simp [intOf]; omega⟩
      · obtain rfl : k = l.length := by omega
        have hb := hP.below
        go_wp2_with fail
        refine (Z.raw _).mono ?_
        rintro e w10 ⟨rfl, hb2⟩
        replace hb := hb.trans (hb2.mono hb.size)
        clear hb2
        go_wp2_with fail
        refine (Z.int _).mono ?_
        rintro e w11 ⟨rfl, hb2⟩
        replace hb := hb.trans (hb2.mono hb.size)
        clear hb2
        go_wp2_with fail
        refine (Z.num _).mono ?_
        rintro e w12 ⟨rfl, hb2⟩
        replace hb := hb.trans (hb2.mono hb.size)
        clear hb2
        go_wp2_with fail
        refine (Z.flag _).mono ?_
        rintro e w13 ⟨rfl, hb2⟩
        replace hb := hb.trans (hb2.mono hb.size)
        clear hb2
        go_wp2_with fail
        refine (Z.torn _).mono ?_
        rintro e w14 ⟨rfl, hb2⟩
        replace hb := hb.trans (hb2.mono hb.size)
        clear hb2
        go_wp2_with fail
        refine (Z.left _).mono ?_
        rintro e w15 ⟨rfl, hb2⟩
        replace hb := hb.trans (hb2.mono hb.size)
        clear hb2
        go_wp2_with fail
        refine (Z.fin _).mono ?_
        rintro e w16 ⟨rfl, hb2⟩
        replace hb := hb.trans (hb2.mono hb.size)
        clear hb2
        go_wp2
        go_ret
        exact ⟨by simp, hb⟩
  · have hq2 : greatB l = true ∨ (greatB l = false ∧ 4096 < s.size) := by
      by_cases x1 : greatB l = true
      · exact .inl x1
      · have y1 := Bool.eq_false_iff.mpr x1
        exact .inr ⟨y1, by
          rcases Nat.lt_or_ge 4096 s.size with h | h
          · exact h
          · exact absurd ⟨y1, h⟩ hq⟩
    clear hq
    rcases hq2 with g | ⟨g, hz⟩
    all_goals
      rw [g] at hgr
      clear g
      try (have n1 : (4096 : Int) < ((s.size : Nat) : Int) := by omega)
      go_enter Try.func4, Try.ntmps4
      go_wp2_with fail
      refine (hal.out _).mono ?_
      rintro e w1 ⟨rfl, hb1⟩
      replace hS := hS.later hb1
      go_wp2_with fail
      refine (hgr.out _ hS).mono ?_
      rintro e w2 ⟨rfl, hb2⟩
      replace hb1 := hb1.trans (hb2.mono hb1.size)
      go_wp2
      go_ret
      exact ⟨rfl, hb1⟩
end Go.Proofs.Ytpccoachpilfkaa
