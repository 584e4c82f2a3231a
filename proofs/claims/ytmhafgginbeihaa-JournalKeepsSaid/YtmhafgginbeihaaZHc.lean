/- The landed journal's read of the next record. No condition but the disk's, and a landed stamp's. -/
import Derived.Test.YtmhafgginbeihaaZGf
import Derived.Test.YtmhafgginbeihaaZHb
namespace Go.Proofs.Ytmhafgginbeihaa
open Go.RowKit Go.Sort Cr Wm

theorem JoV.heldA {W W' : World} {j p : Nat} {js : JSt} (h : JoV W j p js) (hb : Below W.heap.size W W') :
    W'.cell? ⟨j, 0, none⟩ = some (.pointer (some ⟨p, 0, none⟩)) ∧ W'.cell? ⟨j, 2, none⟩ = some (.int .i64 (js.upto : Int)) ∧ W'.cell? ⟨j, 3, none⟩ = some (.int .i64 (js.spot : Int)) ∧ W'.cell? ⟨j, 4, none⟩ = some (.int .i64 js.seq) ∧ Below W.heap.size W W' :=
  ⟨(h.later hb).c0, (h.later hb).c2, (h.later hb).c3, (h.later hb).c4, hb⟩
theorem JoV.heldB {W w1 w2 : World} {j p : Nat} {js : JSt} {A B C D : Prop} (h : JoV W j p js) (hS : A ∧ B ∧ C ∧ D ∧ Below W.heap.size W w1) (hb : Below w1.heap.size w1 w2) :
    w2.cell? ⟨j, 0, none⟩ = some (.pointer (some ⟨p, 0, none⟩)) ∧ w2.cell? ⟨j, 2, none⟩ = some (.int .i64 (js.upto : Int)) ∧ w2.cell? ⟨j, 3, none⟩ = some (.int .i64 (js.spot : Int)) ∧ w2.cell? ⟨j, 4, none⟩ = some (.int .i64 js.seq) ∧ Below W.heap.size W w2 :=
  h.heldA (hS.2.2.2.2.trans (hb.mono hS.2.2.2.2.size))
theorem past_held {W w1 : World} {A B C D : Prop} (hS : A ∧ B ∧ C ∧ D ∧ Below W.heap.size W w1) : Below W.heap.size W w1 := hS.2.2.2.2
theorem held_tk {W W' : World} {j p bk : Nat} {js : JSt} {N : Int} {r : List Value} (h : JoV W j p js) (hx : BoxAt W bk (.int .i64 N :: r)) (hb : Below W.heap.size W W') :
    W'.cell? ⟨j, 0, none⟩ = some (.pointer (some ⟨p, 0, none⟩)) ∧ W'.cell? ⟨j, 2, none⟩ = some (.int .i64 (js.upto : Int)) ∧ W'.cell? ⟨j, 3, none⟩ = some (.int .i64 (js.spot : Int)) ∧ W'.cell? ⟨bk, 0, none⟩ = some (.int .i64 N) ∧ Below W.heap.size W W' :=
  ⟨(h.later hb).c0, (h.later hb).c2, (h.later hb).c3, (hx.later hb).spot 0 _ rfl, hb⟩
open Classical in
/-- What is read at the next place tells whether there may be a record. -/
theorem may_iff {st : St} {js : JSt} (hsp : js.spot ≤ js.upto) (hup : js.upto ≤ st.safe.length) :
    mayJ st js ↔ (headQ (leafD (rdS st ((js.spot : Nat) : Int))) = js.seq + 1 ∧ js.seq < 1152921504606846976 ∧ js.room (headN (leafD (rdS st ((js.spot : Nat) : Int)))) = true) := by
  by_cases e : js.spot < js.upto
  · rw [show rdS st ((js.spot : Nat) : Int) = st.now js.spot by unfold rdS; rw [if_pos ⟨by omega, by omega⟩, Int.toNat_natCast]]
    exact Iff.rfl
  · have hno : ∀ n, js.room n ≠ true := fun n hr => by
      have := ((room_iff _ _).1 hr).2.2
      have := cntR_pos n.toNat
      omega
    exact ⟨fun h => absurd h.2.2 (hno _), fun h => absurd h.2.2 (hno _)⟩
theorem rdS_size {st : St} (hok : st.Ok) (i : Nat) : (rdS st ((i : Nat) : Int)).size ≤ 128 := by
  unfold rdS
  split
  · rename_i e
    rw [Int.toNat_natCast, now_size hok i (by omega)]
    exact Nat.le_refl _
  · exact Nat.zero_le _
/-- What is taken, where a record may be. -/
theorem next_is {st : St} {js : JSt} (h0 : 0 ≤ js.seq) (hsp : js.spot ≤ js.upto) (hup : js.upto ≤ st.safe.length) {n : Nat} (hm : mayJ st js) (hn : headN (leafD (rdS st ((js.spot : Nat) : Int))) = ((n : Nat) : Int)) :
    n ≤ 32768 ∧ nextJ st js = (st.take ((js.spot : Nat) : Int) ((js.upto : Nat) : Int) (leafN (rdS st ((js.spot : Nat) : Int))) ((12 + n : Nat) : Int)).map (fun t => t.extract 12 t.size) ∧
      ∀ t, st.take ((js.spot : Nat) : Int) ((js.upto : Nat) : Int) (leafN (rdS st ((js.spot : Nat) : Int))) ((12 + n : Nat) : Int) = some t → 12 ≤ t.size := by
  obtain ⟨-, -, r3⟩ := (may_iff hsp hup).1 hm
  rw [hn] at r3
  obtain ⟨-, n1, n2⟩ := (room_iff _ _).1 r3
  rw [Int.toNat_natCast] at n2
  have hp := cntR_pos n
  have e1 : rdS st ((js.spot : Nat) : Int) = st.now js.spot := by unfold rdS; rw [if_pos ⟨by omega, by omega⟩, Int.toNat_natCast]
  have hN := next_take hm h0
  rw [e1] at hn
  rw [hn, Int.toNat_natCast] at hN
  rw [e1]
  have hpl : takePlace st ((js.spot : Nat) : Int) ((js.upto : Nat) : Int) ((12 + n : Nat) : Int) := by
    have e2 : countN (12 + n) = cntR n := rfl
    unfold takePlace
    rw [Int.toNat_natCast, e2]
    omega
  rw [take_yes st js.spot _ _ (12 + n) hpl]
  exact ⟨by omega, hN, fun t ht => by have := (takeOf_is ht).1; omega⟩
set_option maxRecDepth 100000 in
set_option maxHeartbeats 1000000 in
theorem jread_any {Dk : (Nat → Prop) → World → Nat → St → Prop} (K : LandedDk Dk) (S : LandedSt Dk) (F G : Nat → Prop) (W : World) (j p : Nat) (st : St) (js : JSt) (hd : Dk G W p st) (hok : st.Ok) (h : JoIs F W j p js) (hup : js.upto ≤ st.safe.length) :
    Calls Try.prog 32 #[.pointer (some ⟨j, 0, none⟩)] W fun e W' => e = .returned (.tuple #[.string (textO (nextJ st js)), .bool (nextJ st js).isSome]) ∧ Below W.heap.size W W' := by
  have hV := h.1
  have hf := hV.few
  have hrd := Lib.hid (fun W1 (hb : Below W.heap.size W W1) => K.read G W1 p st ((js.spot : Nat) : Int) (K.later hd hb) hok)
  have hsz := rdS_size hok js.spot
  have hsr := Lib.hid (fun w => S.read (rdS st ((js.spot : Nat) : Int)) w (by omega))
  rw [leafV_parts] at hsr
  have hDz := leafD_le (rdS st ((js.spot : Nat) : Int))
  have hNr := leafN_range (rdS st ((js.spot : Nat) : Int))
  have hmi := Lib.hid (may_iff (st := st) (js := js) hf.2.1 hup)
  have hnx := Lib.hid (fun n => next_is (st := st) (js := js) (n := n) hf.2.2.2.1 hf.2.1 hup)
  have hno := Lib.hid (next_not (st := st) (js := js))
  have htk := Lib.hid (fun W1 (hb : Below W.heap.size W W1) (N size : Int) hs => S.take G W1 p st ((js.spot : Nat) : Int) ((js.upto : Nat) : Int) N size (K.later hd hb) hok hs)
  generalize leafN (rdS st ((js.spot : Nat) : Int)) = N at *
  generalize leafI (rdS st ((js.spot : Nat) : Int)) = I at *
  generalize leafD (rdS st ((js.spot : Nat) : Int)) = D at *
  generalize (leafOf (rdS st ((js.spot : Nat) : Int))).isSome = isb at *
  generalize rdS st ((js.spot : Nat) : Int) = s0 at *
  generalize nextJ st js = nx at *
  unfold leafA at hsr
  have hj := Lib.hid hV
  have hjI := Lib.hid h
  have k0 := Lib.hid (fun w => rs_read D w (by omega))
  have hq := Lib.hid (headQ_range D)
  have hn := Lib.hid (headN_range D)
  have hqe := Lib.hid (show backZ (rdPart (some D) 8) = headQ D from rfl)
  have hne := Lib.hid (show backZ (rdPart (rdNext (some D) 8) 4) = headN D from rfl)
  have hwq : IntKind.i64.wrap (js.seq + 1) = js.seq + 1 := by rw [IntKind.wrap_i64]; omega
  clear hDz hsz
  go_enter Try.func32, Try.ntmps32
  go_wp2_with fail
  go_region_held3 (fun w' => w'.cell? ⟨j, 0, none⟩ = some (.pointer (some ⟨p, 0, none⟩)) ∧ w'.cell? ⟨j, 2, none⟩ = some (.int .i64 (js.upto : Int)) ∧ w'.cell? ⟨j, 3, none⟩ = some (.int .i64 (js.spot : Int)) ∧ w'.cell? ⟨j, 4, none⟩ = some (.int .i64 js.seq) ∧ Below W.heap.size W w')
    (first | exact hj.out.heldA (Below.refl _ _) | exact hj.out.heldA ((Below.refl _ _).drew) | exact hj.out.heldB (by assumption) hbx | exact hj.out.heldB (by assumption) ((Below.refl _ _).drew))
    (first | (go_at_call 24; with_reducible refine (hrd.out _ (past_held (by assumption))).mono ?_; rintro e wx ⟨rfl, hbx⟩))
  rename_i hH
  obtain ⟨c0, c2, c3, c4, hb⟩ := hH
  clear hrd
  go_wp2_with fail
  refine (hsr.out _).mono ?_
  rintro e W1 ⟨rfl, hb1⟩
  replace hb := hb.trans (hb1.mono hb.size)
  clear hb1 hsr c0 c2 c3 c4
  go_wp2_with fail
  refine (k0.out _).mono ?_
  rintro e W2 ⟨r, rfl, R⟩
  have hbx := BoxAt.new W1 [.int .i64 N, .int .i64 I, .string D] 52
  have hbw : Below W1.heap.size W1 (W1.alloc (.cells #[.int .i64 N, .int .i64 I, .string D] 52)) := (Below.refl _ _).alloc (Nat.le_refl _) _
  generalize W1.alloc (.cells #[.int .i64 N, .int .i64 I, .string D] 52) = W0 at *
  have hb0 := hb.trans (hbw.mono hb.size)
  clear k0 hb hbw
  have k1 := Lib.hid (fun w R => rs_int (W0 := W0) w r (some D) 8 R)
  have k2 := Lib.hid (fun w R => rs_int (W0 := W0) w r (rdNext (some D) 8) 4 R)
  rw [show ((sizeK 8 : Nat) : Int) = 8 from rfl, hqe.out] at k1
  rw [show ((sizeK 4 : Nat) : Int) = 4 from rfl, hne.out] at k2
  clear hqe hne
  generalize headQ D = q at *
  generalize headN D = n at *
  go_wp2_with fail
  refine (k1.out _ R).mono ?_
  clear k1 R
  rintro e W3 ⟨rfl, R⟩
  go_wp2_with fail
  refine (k2.out _ R).mono ?_
  clear k2
  rintro e W4 ⟨rfl, R⟩
  have hb := hb0.trans (R.bel.mono hb0.size)
  have hV4 := hj.out.later hb
  have hbx4 := hbx.later R.bel
  have hI4 := hjI.out.later hb
  replace hj := Lib.hid hV4
  clear R hb0 hbx hjI
  have b0 := hbx4.spot 0 _ rfl
  have bl := hbx4.lt
  replace hbx4 := Lib.hid hbx4
  generalize W1.heap.size = bk at *
  have hseqc := hV4.c4
  by_cases hA : q = js.seq + 1
  · by_cases hB : js.seq < 1152921504606846976
    · have hhas := Lib.hid (fun w h => hasNumber_any F w j p js h)
      have hroom := Lib.hid (fun w h => jroom_any S F w j p js n h hn.out.1 hn.out.2)
      rw [decide_eq_true hB] at hhas
      cases hC : js.room n with
      | true =>
        rw [hC] at hroom
        have hm := hmi.out.2 ⟨hA, hB, hC⟩
        obtain ⟨m, rfl⟩ := Int.eq_ofNat_of_zero_le ((room_iff _ _).1 hC).1
        obtain ⟨hm0, hm1, hm2⟩ := hnx.out m hm rfl
        have htk2 := Lib.hid (fun W1 hb => htk.out W1 hb N ((12 + m : Nat) : Int) (by omega))
        generalize st.take ((js.spot : Nat) : Int) ((js.upto : Nat) : Int) N ((12 + m : Nat) : Int) = tk at *
        rw [show ((12 + m : Nat) : Int) = 12 + ((m : Nat) : Int) by omega] at htk2
        have hwm : IntKind.i64.wrap (12 + ((m : Nat) : Int)) = 12 + ((m : Nat) : Int) := by rw [IntKind.wrap_i64]; omega
        clear hno hnx htk hmi hB hC hm
        subst hA
        go_wp2_with fail
        refine (hhas.out _ hI4).mono ?_
        rintro e W5 ⟨rfl, rfl⟩
        go_wp2_with fail
        refine (hroom.out _ hI4).mono ?_
        rintro e W5 ⟨rfl, hb5⟩
        replace hV4 := hV4.later hb5
        replace hb := hb.trans (hb5.mono hb.size)
        replace hbx4 := Lib.hid (hbx4.out.later hb5)
        have b0 := hbx4.out.spot 0 _ rfl
        have bl := hbx4.out.lt
        have hj5 := Lib.hid hV4
        have hb' := Lib.hid hb
        clear hroom hhas hI4 hseqc hb5 hb b0 bl hV4
        go_wp2_with fail
        go_region_held3 (fun w' => w'.cell? ⟨j, 0, none⟩ = some (.pointer (some ⟨p, 0, none⟩)) ∧ w'.cell? ⟨j, 2, none⟩ = some (.int .i64 (js.upto : Int)) ∧ w'.cell? ⟨j, 3, none⟩ = some (.int .i64 (js.spot : Int)) ∧ w'.cell? ⟨bk, 0, none⟩ = some (.int .i64 N) ∧ Below W5.heap.size W5 w')
          (first | exact held_tk hj5.out hbx4.out (Below.refl _ _) | exact held_tk hj5.out hbx4.out ((Below.refl _ _).drew) | exact held_tk hj5.out hbx4.out ((past_held (by assumption)).trans (hbx.mono (past_held (by assumption)).size)) | exact held_tk hj5.out hbx4.out ((past_held (by assumption)).trans ((Below.refl _ _).drew)))
          (first | (go_at_call 47; with_reducible refine (htk2.out _ (hb'.out.trans ((past_held (by assumption)).mono hb'.out.size))).mono ?_; rintro e wx ⟨rfl, hbx⟩))
        rename_i hH
        have hbz := hb'.out.trans (hH.2.2.2.2.mono hb'.out.size)
        clear hH
        cases tk with
        | none =>
          subst hm1
          go_wp2
          go_ret2
          exact ⟨rfl, hbz⟩
        | some t =>
          have ht := hm2 t rfl
          subst hm1
          have hsl : ∀ W, (Instr.sliceAt 9 (.string t) (some (.int .i64 12)) none none).run Try.prog W = .ok (.string (t.extract 12 t.size)) W := str_fromT t 12 ht
          rw [show textO (some t) = t from rfl, show (some t).isSome = true from rfl]
          go_wp2
          go_ret2
          exact ⟨rfl, hbz⟩
      | false =>
        rw [hC] at hroom
        obtain rfl := hno.out (fun hm => by rw [(hmi.out.1 hm).2.2] at hC; cases hC)
        clear hno hnx htk hmi hB hC
        subst hA
        go_wp2_with fail
        refine (hhas.out _ hI4).mono ?_
        rintro e W5 ⟨rfl, rfl⟩
        go_wp2_with fail
        refine (hroom.out _ hI4).mono ?_
        rintro e W5 ⟨rfl, hb5⟩
        go_wp2
        go_ret2
        exact ⟨rfl, hb.trans (hb5.mono hb.size)⟩
    · obtain rfl := hno.out (fun hm => hB (hmi.out.1 hm).2.1)
      have hhas := Lib.hid (fun w h => hasNumber_any F w j p js h)
      rw [decide_eq_false hB] at hhas
      clear hno hnx htk hmi hB
      subst hA
      go_wp2_with fail
      refine (hhas.out _ hI4).mono ?_
      rintro e W5 ⟨rfl, rfl⟩
      go_wp2
      go_ret2
      exact ⟨rfl, hb⟩
  · obtain rfl := hno.out (fun hm => hA (hmi.out.1 hm).1)
    have hne : (q != js.seq + 1) = true := by simpa using hA
    have hne2 : (q == js.seq + 1) = false := by simpa using hA
    clear hno hnx htk hmi
    go_wp2
    go_ret2
    exact ⟨rfl, hb⟩
end Go.Proofs.Ytmhafgginbeihaa
