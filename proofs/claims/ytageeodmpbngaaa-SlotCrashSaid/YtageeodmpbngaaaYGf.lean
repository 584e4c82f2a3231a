/- The landed Take, and all calls together. No condition but the disk's, and sizes. -/
import Derived.Test.YtageeodmpbngaaaYGe
namespace Go.Proofs.Ytageeodmpbngaaa
open Go.RowKit Go.Sort Cr Wm

/-- So far: the first parts, each read whole. -/
structure TakenTo (get : Nat → ByteArray) (N : Int) (size k : Nat) (t : ByteArray) : Prop where
  size : t.size = min (104 * k) size
  part : ∀ i, i < k → leafOf (get i) = some (N, ((i : Nat) : Int), partS t i)
theorem TakenTo.zero (get : Nat → ByteArray) (N : Int) (size : Nat) : TakenTo get N size 0 ByteArray.empty :=
  ⟨by show 0 = _; omega, fun i hi => by omega⟩
theorem partS_app_low (t u : ByteArray) (i : Nat) (h : 104 * (i + 1) ≤ t.size) : partS (t ++ u) i = partS t i := by
  unfold partS
  rw [ByteArray.size_append, Nat.min_eq_left (by omega), Nat.min_eq_left (by omega), Nat.min_eq_left (by omega), Nat.min_eq_left (by omega), cut_left _ _ _ _ (by omega)]
theorem partS_app_at (t u : ByteArray) (k : Nat) (h : t.size = 104 * k) (hu : u.size ≤ 104) : partS (t ++ u) k = u := by
  unfold partS
  rw [ByteArray.size_append, Nat.min_eq_left (by omega), Nat.min_eq_right (by omega), cut_right _ _ _ _ (by omega)]
  rw [show 104 * k - t.size = 0 by omega]
  exact cut_all _ _ (by omega)
theorem TakenTo.next {get : Nat → ByteArray} {N : Int} {size k : Nat} {t D : ByteArray} (h : TakenTo get N size k t) (hk : k < countN size) (hl : leafOf (get k) = some (N, ((k : Nat) : Int), D))
    (hD : D.size = min (size - t.size) 104) : TakenTo get N size (k + 1) (t ++ D) := by
  have h1 := h.size
  have h2 := countN_least size k hk
  have h3 : t.size = 104 * k := by omega
  refine ⟨by rw [ByteArray.size_append]; omega, fun i hi => ?_⟩
  by_cases e : i = k
  · subst e
    rw [partS_app_at t D i h3 (by omega)]; exact hl
  · rw [partS_app_low t D i (by omega)]
    exact h.part i (by omega)
theorem TakenTo.done {get : Nat → ByteArray} {N : Int} {size : Nat} {t : ByteArray} (h : TakenTo get N size (countN size) t) : takeOf get N size = some t := by
  have h1 := h.size
  have h2 := countN_ge size
  exact takeOf_some ⟨by omega, h.part⟩
theorem TakenTo.not {get : Nat → ByteArray} {N : Int} {size k : Nat} {t : ByteArray} (h : TakenTo get N size k t) (hk : k < countN size)
    (hl : ∀ D, D.size = min (size - t.size) 104 → leafOf (get k) ≠ some (N, ((k : Nat) : Int), D)) : takeOf get N size = none := by
  refine takeOf_none (fun u hu => ?_)
  refine hl (partS u k) ?_ (hu.2 k hk)
  have h1 := h.size
  have h2 := countN_least size k hk
  have h3 := hu.1
  rw [partS_size]
  omega
/-- A writer in the making behind a call's own first world. -/
structure Tk (W0 : World) (w : World) (p : Nat) (bs : ByteArray) : Prop where
  wr : ∃ F, WrIs F w p bs ∧ ∀ k, F k → W0.heap.size ≤ k
  bel : Below W0.heap.size W0 w
theorem Tk.later {W0 w w' : World} {p : Nat} {bs : ByteArray} (h : Tk W0 w p bs) (hb : Below w.heap.size w w') : Tk W0 w' p bs := by
  obtain ⟨F, h1, h2⟩ := h.wr
  exact ⟨⟨F, wrIs_later h1 hb, h2⟩, h.bel.trans (hb.mono h.bel.size)⟩
theorem Tk.raw {W0 w : World} {p : Nat} {bs : ByteArray} (h : Tk W0 w p bs) (s : ByteArray) (hb : bs.size ≤ 800000) (hs : s.size ≤ 100000) :
    Calls Try.prog 44 #[.pointer (some ⟨p, 0, none⟩), .string s] w fun e w' => e = .returned (.tuple #[]) ∧ Tk W0 w' p (bs ++ s) := by
  obtain ⟨F, h1, h2⟩ := h.wr
  refine (wrRaw_any F w p bs s h1 hb hs).mono ?_
  rintro e w' ⟨rfl, F', k1, k2, k3⟩
  refine ⟨rfl, ⟨F', k1, fun k hk => ?_⟩, h.bel.trans (k2.to_below h.bel.size (fun k hk => h2 _ hk))⟩
  by_cases e : k < w.heap.size
  · exact h2 k (k3 k e hk)
  · have := h.bel.size
    omega
theorem Tk.len {W0 w : World} {p : Nat} {bs : ByteArray} (h : Tk W0 w p bs) (hb : bs.size ≤ 1000000) :
    Calls Try.prog 43 #[.pointer (some ⟨p, 0, none⟩)] w fun e w' => e = .returned (.int .i64 ((bs.size : Nat) : Int)) ∧ Tk W0 w' p bs := by
  obtain ⟨F, h1, _⟩ := h.wr
  refine (wrLen_any F w p bs h1 hb).mono ?_
  rintro e w' ⟨rfl, hb⟩
  exact ⟨rfl, h.later hb⟩
theorem Tk.str {W0 w : World} {p : Nat} {bs : ByteArray} (h : Tk W0 w p bs) (hb : bs.size ≤ 1000000) :
    Calls Try.prog 45 #[.pointer (some ⟨p, 0, none⟩)] w fun e w' => e = .returned (.string bs) ∧ Tk W0 w' p bs := by
  obtain ⟨F, h1, _⟩ := h.wr
  refine (wrStr_any F w p bs h1 hb).mono ?_
  rintro e w' ⟨rfl, hb⟩
  exact ⟨rfl, h.later hb⟩
theorem Tk.keepBox {W0 w : World} {p : Nat} {bs : ByteArray} (h : Tk W0 w p bs) {b : Nat} {cs : List Value} (hx : BoxAt w b cs) (hb : bs.size ≤ 1000000) :
    Calls Try.prog 43 #[.pointer (some ⟨p, 0, none⟩)] w fun e w' => e = .returned (.int .i64 ((bs.size : Nat) : Int)) ∧ Tk W0 w' p bs ∧ BoxAt w' b cs := by
  obtain ⟨F, h1, _⟩ := h.wr
  refine (wrLen_any F w p bs h1 hb).mono ?_
  rintro e w' ⟨rfl, hb⟩
  exact ⟨rfl, h.later hb, hx.later hb⟩
open Classical in
theorem take_not (st : St) (fr upto N size : Int) (h : ¬ takePlace st fr upto size) : st.take fr upto N size = none := by unfold St.take; rw [if_neg h]
open Classical in
theorem take_yes (st : St) (f : Nat) (upto N : Int) (n : Nat) (h : takePlace st ((f : Nat) : Int) upto ((n : Nat) : Int)) : st.take ((f : Nat) : Int) upto N ((n : Nat) : Int) = takeOf (fun i => st.now (f + i)) N n := by
  unfold St.take; rw [if_pos h, Int.toNat_natCast, Int.toNat_natCast]
set_option maxRecDepth 100000 in
set_option maxHeartbeats 1000000 in
theorem stTake_any {Dk : (Nat → Prop) → World → Nat → St → Prop} (K : LandedDk Dk) (F : Nat → Prop) (W : World) (p : Nat) (st : St) (fr upto N size : Int) (h : Dk F W p st) (hok : st.Ok) (hs : size ≤ 9223372036854775807) :
    Calls Try.prog 31 #[.pointer (some ⟨p, 0, none⟩), .int .i64 fr, .int .i64 upto, .int .i64 N, .int .i64 size] W fun e W' =>
      e = .returned (.tuple #[.string (textO (st.take fr upto N size)), .bool (st.take fr upto N size).isSome]) ∧ Below W.heap.size W W' := by
  have hP := Lib.hid (fun W1 (h1 : Dk F W1 p st) => arePlaces_any K h1 hok fr upto)
  have hC := Lib.hid (fun W => count_any size W hs)
  by_cases h0 : size < 0
  · have hq := Lib.hid (take_not st fr upto N size (fun e => by have := e.2.2.2.1; omega))
    rw [hq.out]
    clear hq
    generalize countN size.toNat = c at *
    go_enter Try.func31, Try.ntmps31
    go_wp2_with (go_at_call 25; refine (hC.out _).mono ?_; rintro e W8 ⟨rfl, hb8⟩)
    go_ret2
    exact ⟨rfl, hb8⟩
  · cases hb2 : placeB st fr upto with
    | false =>
      have hq := Lib.hid (take_not st fr upto N size (fun e => by
        have : placeB st fr upto = true := by unfold placeB; rw [decide_eq_true e.1, decide_eq_true e.2.1, decide_eq_true e.2.2.1]; rfl
        rw [hb2] at this; cases this))
      rw [hq.out]
      rw [hb2] at hP
      clear hq hb2
      generalize countN size.toNat = c at *
      go_enter Try.func31, Try.ntmps31
      go_wp2_with (first | (go_at_call 25; refine (hC.out _).mono ?_; rintro e W8 ⟨rfl, hb8⟩) | (go_at_call 40; refine (hP.out _ (K.later h hb8)).mono ?_; rintro e W9 ⟨rfl, hb9⟩))
      go_ret2
      exact ⟨rfl, hb8.trans (hb9.mono hb8.size)⟩
    | true =>
      have hpl : 0 ≤ fr ∧ fr ≤ upto ∧ upto ≤ ((st.safe.length : Nat) : Int) := by
        unfold placeB at hb2
        simp only [Bool.and_eq_true, decide_eq_true_eq] at hb2
        exact hb2
      have hmany := hok.many
      obtain ⟨q1, q2, q3⟩ := hpl
      have q4 : upto ≤ 4096 := by omega
      rw [hb2] at hP
      obtain ⟨f, rfl⟩ := Int.eq_ofNat_of_zero_le q1
      obtain ⟨n, rfl⟩ := Int.eq_ofNat_of_zero_le (show 0 ≤ size by omega)
      rw [Int.toNat_natCast] at hC
      by_cases hlong : upto - ((f : Nat) : Int) < ((countN n : Nat) : Int)
      · have hq := Lib.hid (take_not st ((f : Nat) : Int) upto N ((n : Nat) : Int) (fun e => by have := e.2.2.2.2; rw [Int.toNat_natCast] at this; omega))
        rw [hq.out]
        clear hq hb2
        generalize countN n = c at *
        go_enter Try.func31, Try.ntmps31
        go_wp2_with (first | (go_at_call 25; refine (hC.out _).mono ?_; rintro e W8 ⟨rfl, hb8⟩) | (go_at_call 40; refine (hP.out _ (K.later h hb8)).mono ?_; rintro e W9 ⟨rfl, hb9⟩))
        go_ret2
        exact ⟨rfl, hb8.trans (hb9.mono hb8.size)⟩
      · have hq := Lib.hid (take_yes st f upto N n ⟨by omega, by omega, by omega, by omega, by rw [Int.toNat_natCast]; omega⟩)
        rw [hq.out]
        have hlen : st.safe.length ≤ 4096 := hmany
        have hgt : ∀ k, k < countN n → f + k < st.safe.length := fun k hk => by omega
        clear hq hb2 q3 hmany
        have hcn := Lib.hid (countN_least n)
        generalize hcc : countN n = c at *
        have hsm : c ≤ 4096 := by omega
        have hn : n ≤ 104 * c := by rw [← hcc]; exact countN_ge n
        replace hcc := Lib.hid hcc
        go_enter Try.func31, Try.ntmps31
        go_wp2_with (first | (go_at_call 25; refine (hC.out _).mono ?_; rintro e W8 ⟨rfl, hb8⟩) | (go_at_call 40; refine (hP.out _ (K.later h hb8)).mono ?_; rintro e W9 ⟨rfl, hb9⟩))
        have hb9' : Below W.heap.size W W9 := hb8.trans (hb9.mono hb8.size)
        have hT0 : Tk W (W9.alloc (.cells #[.slice none 0 0] 76)) W9.heap.size ByteArray.empty :=
          ⟨⟨_, wrIs_new W9, fun k hk => by rw [hk]; exact hb9'.size⟩, hb9'.trans (((Below.refl _ _).alloc (Nat.le_refl _) _).mono hb9'.size)⟩
        generalize W9.heap.size = q at *
        have hR := Lib.hid (fun W1 (h1 : Dk F W1 p st) (i : Int) => K.read F W1 p st i h1 hok)
        clear hb8 hb9 hb9' hP hC
        go_loopw [39] (fun i wr => ∃ k : Nat, k ≤ c ∧ i = .int .i64 k ∧ ∃ t, TakenTo (fun i => st.now (f + i)) N n k t ∧ Tk W wr q t) (fun i _ => (c - RowKit.intOf i).toNat)
        case atStart => exact ⟨0, by omega, rfl, _, TakenTo.zero _ _ _, hT0⟩
        case round =>
          obtain ⟨k, hk, rfl, t, hTT, hT⟩ := hrel
          by_cases hlt : k < c
          · have hin := hgt k hlt
            have hsz := now_sized hok (f + k) hin
            have hrd := Lib.hid (fun W1 h1 => hR.out W1 h1 ((f + k : Nat) : Int))
            rw [show rdS st ((f + k : Nat) : Int) = st.now (f + k) by unfold rdS; rw [if_pos (by omega), Int.toNat_natCast]] at hrd
            have hts := hTT.size
            have hrr := Lib.hid (fun w => stRead_any (st.now (f + k)) w (by omega))
            go_wp2_with fail
            refine (hrd.out _ (K.later h hT.bel)).mono ?_
            rintro e w1 ⟨rfl, hb1⟩
            replace hT := hT.later hb1
            clear hb1 hrd
            go_wp2_with fail
            refine (hrr.out _).mono ?_
            rintro e w2 ⟨rfl, hb2⟩
            replace hT := hT.later hb2
            clear hb2 hrr
            generalize hlf : leafOf (st.now (f + k)) = lf at *
            replace hlf := Lib.hid hlf
            cases lf with
            | none =>
              rw [show leafV none = leafA 0 0 ⟨#[]⟩ from rfl]
              unfold leafA
              have hno := Lib.hid (hTT.not (by rw [hcc.out]; exact hlt) (fun D _ e => by rw [hlf.out] at e; cases e))
              clear hlf hTT
              go_wp2_with fail
              have hbx := BoxAt.new w2 [.int .i64 0, .int .i64 0, .string ⟨#[]⟩] 74
              refine ((hT.later ((Below.refl _ _).alloc (Nat.le_refl _) (.cells #[.int .i64 0, .int .i64 0, .string ⟨#[]⟩] 74))).keepBox hbx (by omega)).mono ?_
              rintro e w3 ⟨rfl, hT3, hb3⟩
              go_wp2_with fail
              go_ret2
              exact ⟨by rw [hno.out]; rfl, hT3.bel⟩
            | some x =>
              obtain ⟨N', I', D'⟩ := x
              rw [show leafV (some (N', I', D')) = leafA N' I' D' from rfl]
              unfold leafA
              have hnot : (N', I', D'.size) ≠ (N, ((k : Nat) : Int), min (n - t.size) 104) → takeOf (fun i => st.now (f + i)) N n = none := fun hne =>
                hTT.not (by rw [hcc.out]; exact hlt) (fun D hD e => by
                  rw [hlf.out] at e
                  injection e with e
                  injection e with e1 e
                  injection e with e2 e3
                  subst e1 e2 e3
                  exact hne (by rw [hD]))
              have hmin : min (((n : Nat) : Int) - ((t.size : Nat) : Int)) 104 = ((min (n - t.size) 104 : Nat) : Int) := by omega
              have hbx := BoxAt.new w2 [.int .i64 N', .int .i64 I', .string D'] 74
              have hTl := hT.later ((Below.refl _ _).alloc (Nat.le_refl _) (.cells #[.int .i64 N', .int .i64 I', .string D'] 74))
              go_wp2_with fail
              refine (hTl.keepBox hbx (by omega)).mono ?_
              clear hTl hbx
              rintro e w3 ⟨rfl, hT3, hb3⟩
              have c0 := hb3.spot 0 _ rfl
              have c1 := hb3.spot 1 _ rfl
              have c2 := hb3.spot 2 _ rfl
              by_cases g1 : N' = N
              · subst g1
                by_cases g2 : I' = ((k : Nat) : Int)
                · subst g2
                  by_cases g3 : D'.size = min (n - t.size) 104
                  · have g4 := Lib.hid (show ((D'.size : Nat) : Int) = min (((n : Nat) : Int) - ((t.size : Nat) : Int)) 104 by rw [hmin, g3])
                    have hnx := hTT.next (by rw [hcc.out]; exact hlt) hlf.out g3
                    clear hnot hmin hlf hcc hlen hgt hok
                    go_wp2_with fail
                    refine (hT3.raw D' (by omega) (by omega)).mono ?_
                    rintro e w4 ⟨rfl, hT4⟩
                    go_wp2_with fail
                    exact ⟨⟨k + 1, by omega, by go_num, _, hnx, hT4⟩, by simp [RowKit.intOf]; omega⟩
                  · have hno := Lib.hid (hnot (fun e => g3 (by injection e with _ e; injection e)))
                    go_wp2_with fail
                    go_ret2
                    exact ⟨by rw [hno.out]; rfl, hT3.bel⟩
                · have hno := Lib.hid (hnot (fun e => g2 (by injection e with _ e; injection e)))
                  go_wp2_with fail
                  go_ret2
                  exact ⟨by rw [hno.out]; rfl, hT3.bel⟩
              · have hno := Lib.hid (hnot (fun e => g1 (by injection e)))
                go_wp2_with fail
                go_ret2
                exact ⟨by rw [hno.out]; rfl, hT3.bel⟩
          · obtain rfl : k = c := by omega
            have hts := hTT.size
            have hdone := Lib.hid (show takeOf (fun i => st.now (f + i)) N n = some t by have := hTT; rw [← hcc.out] at this; exact this.done)
            go_wp2_with fail
            refine (hT.str (by omega)).mono ?_
            rintro e w1 ⟨rfl, hT1⟩
            go_wp2_with fail
            go_ret2
            exact ⟨by rw [hdone.out]; rfl, hT1.bel⟩
/-- All calls of the landed sectors. -/
theorem landedSt {Dk : (Nat → Prop) → World → Nat → St → Prop} (K : LandedDk Dk) : LandedSt Dk where
  bytes := fun N I D W hD => stBytes_any N I D W hD
  read := fun s W hs => stRead_any s W hs
  count := fun n W _ h => count_any n W h
  great := fun _ _ _ _ h hok => stGreat_any K h hok
  lay := fun F W p st fr upto N s h hr hs => stLay_any K F W p st fr upto N s h hr hs
  take := fun F W p st fr upto N size h hok hs => stTake_any K F W p st fr upto N size h hok hs
end Go.Proofs.Ytageeodmpbngaaa
