/- The landed journal in memory, and its small calls. No condition but sizes, and a landed stamp's. -/
/- The landed journal's pass, Restart, Seq, At, Sick; of a nil one. No condition but sizes, and a landed stamp's. -/
import Derived.Test.YtmhafgginbeihaaZHp
import Derived.Test.YtmhafgginbeihaaZJd
import Derived.Deep.RegionHeld3
import Derived.Lib.QuietBelow
import Derived.RegionTactic
import Derived.Deep.AppendLies
namespace Go.Proofs.Ytmhafgginbeihaa
open Go.RowKit Go.Sort Cr Wm

/-- A journal's block. -/
structure JoV (W : World) (j p : Nat) (js : JSt) : Prop where
  c0 : W.cell? ⟨j, 0, none⟩ = some (.pointer (some ⟨p, 0, none⟩))
  c1 : W.cell? ⟨j, 1, none⟩ = some (.int .i64 (js.fr : Int))
  c2 : W.cell? ⟨j, 2, none⟩ = some (.int .i64 (js.upto : Int))
  c3 : W.cell? ⟨j, 3, none⟩ = some (.int .i64 (js.spot : Int))
  c4 : W.cell? ⟨j, 4, none⟩ = some (.int .i64 js.seq)
  c5 : W.cell? ⟨j, 5, none⟩ = some (.bool js.sick)
  fz : ∀ i, W.frozen? ⟨j, i, none⟩ = false
  lt : j < W.heap.size
  few : js.fr ≤ js.spot ∧ js.spot ≤ js.upto ∧ js.upto ≤ 4096 ∧ 0 ≤ js.seq ∧ js.seq ≤ 1152921504606846976
def JoIs (F : Nat → Prop) (W : World) (j p : Nat) (js : JSt) : Prop := JoV W j p js ∧ ∀ k, F k ↔ k = j
section
variable {W W' : World} {j p : Nat} {js : JSt} {F G : Nat → Prop}
theorem JoV.keep (h : JoV W j p js) (hO : Only G W W') (hj : ¬ G j) : JoV W' j p js :=
  have hc : ∀ i, W'.cell? ⟨j, i, none⟩ = W.cell? ⟨j, i, none⟩ := fun i => hO.cell (p := ⟨j, i, none⟩) h.lt hj
  ⟨by rw [hc]; exact h.c0, by rw [hc]; exact h.c1, by rw [hc]; exact h.c2, by rw [hc]; exact h.c3, by rw [hc]; exact h.c4, by rw [hc]; exact h.c5,
    fun i => by rw [hO.frozen (p := ⟨j, i, none⟩) h.lt hj]; exact h.fz i, Nat.lt_of_lt_of_le h.lt hO.size, h.few⟩
theorem JoV.later (h : JoV W j p js) (hb : Below W.heap.size W W') : JoV W' j p js := h.keep (G := fun _ => False) (Only.of_below hb) (fun e => e)
theorem JoIs.near (h : JoIs F W j p js) : ∀ k, F k → k < W.heap.size := fun k hk => by rw [(h.2 k).1 hk]; exact h.1.lt
theorem JoIs.keep (h : JoIs F W j p js) (hO : Only G W W') (hG : ∀ k, F k → ¬ G k) : JoIs F W' j p js := ⟨h.1.keep hO (hG j ((h.2 j).2 rfl)), h.2⟩
theorem JoIs.later (h : JoIs F W j p js) (hb : Below W.heap.size W W') : JoIs F W' j p js := ⟨h.1.later hb, h.2⟩
end
theorem JoV.held {W W' : World} {j p : Nat} {js : JSt} (h : JoV W j p js) (hb : Below W.heap.size W W') :
    W'.cell? ⟨j, 2, none⟩ = some (.int .i64 (js.upto : Int)) ∧ W'.cell? ⟨j, 3, none⟩ = some (.int .i64 (js.spot : Int)) ∧ Below W.heap.size W W' := ⟨(h.later hb).c2, (h.later hb).c3, hb⟩
theorem JoV.held_call {W w1 w2 : World} {j p : Nat} {js : JSt} {A B : Prop} (h : JoV W j p js) (hS : A ∧ B ∧ Below W.heap.size W w1) (hb : Below w1.heap.size w1 w2) :
    w2.cell? ⟨j, 2, none⟩ = some (.int .i64 (js.upto : Int)) ∧ w2.cell? ⟨j, 3, none⟩ = some (.int .i64 (js.spot : Int)) ∧ Below W.heap.size W w2 := h.held (hS.2.2.trans (hb.mono hS.2.2.size))
theorem held_drewN (W : World) (n : Nat) : Below W.heap.size W (W.drewN n) := ⟨rfl, rfl, rfl, Nat.le_refl _, fun _ _ => rfl⟩
/-- The sectors that a record takes. -/
theorem jsectors_any {Dk : (Nat → Prop) → World → Nat → St → Prop} (S : LandedSt Dk) (n : Nat) (W : World) (hn : n ≤ 140737488351232) :
    Calls Try.prog 34 #[.int .i64 ((n : Nat) : Int)] W fun e W' => e = .returned (.int .i64 ((cntR n : Nat) : Int)) ∧ Below W.heap.size W W' := by
  have h := Lib.hid (fun W => S.count (((12 + n : Nat)) : Int) W (by omega) (by omega))
  rw [Int.toNat_natCast] at h
  have hc : countN (12 + n) = cntR n := rfl
  rw [hc] at h
  clear hc
  go_enter Try.func34, Try.ntmps34
  go_wp2_with fail
  rw [show (12 : Int) + ((n : Nat) : Int) = ((12 + n : Nat) : Int) by omega]
  refine (h.out _).mono ?_
  rintro e W1 ⟨rfl, hb⟩
  go_wp2
  go_ret
  exact ⟨rfl, hb⟩
theorem hasNumber_any (F : Nat → Prop) (W : World) (j p : Nat) (js : JSt) (h : JoIs F W j p js) :
    Calls Try.prog 35 #[.pointer (some ⟨j, 0, none⟩)] W fun e W' => e = .returned (.bool (decide (js.seq < 1152921504606846976))) ∧ W = W' := by
  have c4 := h.1.c4
  clear h
  go_enter Try.func35, Try.ntmps35
  go_wp2
  go_ret
  exact ⟨rfl, rfl⟩
theorem jroom_any {Dk : (Nat → Prop) → World → Nat → St → Prop} (S : LandedSt Dk) (F : Nat → Prop) (W : World) (j p : Nat) (js : JSt) (n : Int) (h : JoIs F W j p js) (h0 : -9223372036854775808 ≤ n) (h1 : n ≤ 9223372036854775807) :
    Calls Try.prog 14 #[.pointer (some ⟨j, 0, none⟩), .int .i64 n] W fun e W' => e = .returned (.bool (js.room n)) ∧ Below W.heap.size W W' := by
  have c2 := h.1.c2
  have c3 := h.1.c3
  have c5 := h.1.lt
  have hf := h.1.few
  have hS := Lib.hid (fun n W => jsectors_any S n W)
  by_cases hn : 0 ≤ n ∧ n ≤ 32768
  · obtain ⟨k, rfl⟩ := Int.eq_ofNat_of_zero_le hn.1
    have hk : k ≤ 32768 := by omega
    have hr := Lib.hid (show js.room ((k : Nat) : Int) = decide (((cntR k : Nat) : Int) ≤ ((js.upto : Nat) : Int) - ((js.spot : Nat) : Int)) by
      unfold JSt.room
      rw [decide_eq_true hn.1, decide_eq_true hn.2, Int.toNat_natCast, Bool.true_and, Bool.true_and]
      exact decide_eq_decide.2 (by omega))
    have hcl := cntR_le hk
    clear h0 h1
    replace hS := Lib.hid (fun W => hS.out k W (by omega))
    generalize cntR k = c at *
    have hj := Lib.hid h.1
    have hwr : IntKind.i64.wrap ((js.upto : Int) - (js.spot : Int)) = (js.upto : Int) - (js.spot : Int) := by rw [IntKind.wrap_i64]; omega
    clear h
    go_enter Try.func14, Try.ntmps14
    go_wp2_with fail
    go_region_held3 (fun w' => w'.cell? ⟨j, 2, none⟩ = some (.int .i64 (js.upto : Int)) ∧ w'.cell? ⟨j, 3, none⟩ = some (.int .i64 (js.spot : Int)) ∧ Below W.heap.size W w')
      (first | exact hj.out.held (Below.refl _ _) | exact hj.out.held ((Below.refl _ _).drew) | exact hj.out.held_call (by assumption) hbx | exact hj.out.held_call (by assumption) ((Below.refl _ _).drew))
      (first | (go_at_call 34; with_reducible refine (hS.out _).mono ?_; rintro e wx ⟨rfl, hbx⟩))
    all_goals
      rename_i hH
      obtain ⟨-, -, hb⟩ := hH
      go_wp2
      go_ret
      exact ⟨by rw [hr.out]; simp, hb⟩
  · have hr := Lib.hid (show js.room n = false by
      unfold JSt.room
      by_cases e : 0 ≤ n
      · rw [show decide (n ≤ 32768) = false from decide_eq_false (by omega)]; simp
      · rw [show decide (0 ≤ n) = false from decide_eq_false e]; simp)
    by_cases e : 0 ≤ n
    · have e2 : ¬ n ≤ 32768 := fun e2 => hn ⟨e, e2⟩
      have e3 : decide (n ≤ 32768) = false := decide_eq_false e2
      have e4 : decide (0 ≤ n) = true := decide_eq_true e
      clear hn h hf hS
      go_enter Try.func14, Try.ntmps14
      go_wp2_with fail
      go_quiet (fail)
      go_wp2
      go_ret
      exact ⟨by rw [hr.out]; first | rfl | simp [e3], by first | exact Below.refl _ _ | exact held_drewN _ _⟩
    · have e3 : decide (0 ≤ n) = false := decide_eq_false e
      clear hn h hf hS
      go_enter Try.func14, Try.ntmps14
      go_wp2_with fail
      go_quiet (fail)
      go_wp2
      go_ret
      exact ⟨by rw [hr.out]; first | rfl | simp [e3], by first | exact Below.refl _ _ | exact held_drewN _ _⟩
end Go.Proofs.Ytmhafgginbeihaa
namespace Go.Proofs.Ytmhafgginbeihaa
open Go.RowKit Go.Sort Cr Wm

theorem past_drew {W wx : World} (h : Below W.drew.heap.size W.drew wx) : Below W.heap.size W wx := (Below.refl _ _).drew.trans h
section
variable {W : World} {j p : Nat} {js : JSt} {F : Nat → Prop}
theorem JoV.seq1 (h : JoV W j p js) (q : Int) (h0 : 0 ≤ q) (h1 : q ≤ 1152921504606846976) : JoV (W.setCell ⟨j, 4, none⟩ (.int .i64 q)) j p { js with seq := q } :=
  ⟨by rw [cell_put h.c4]; exact h.c0, by rw [cell_put h.c4]; exact h.c1, by rw [cell_put h.c4]; exact h.c2, by rw [cell_put h.c4]; exact h.c3, by rw [cell_put h.c4]; rfl, by rw [cell_put h.c4]; exact h.c5,
    fun i => by simpa using h.fz i, by simpa using h.lt, ⟨h.few.1, h.few.2.1, h.few.2.2.1, h0, h1⟩⟩
theorem JoV.at1 (h : JoV W j p js) (a : Nat) (h0 : js.fr ≤ a) (h1 : a ≤ js.upto) : JoV (W.setCell ⟨j, 3, none⟩ (.int .i64 (a : Int))) j p { js with spot := a } :=
  ⟨by rw [cell_put h.c3]; exact h.c0, by rw [cell_put h.c3]; exact h.c1, by rw [cell_put h.c3]; exact h.c2, by rw [cell_put h.c3]; rfl, by rw [cell_put h.c3]; exact h.c4, by rw [cell_put h.c3]; exact h.c5,
    fun i => by simpa using h.fz i, by simpa using h.lt, ⟨h0, h1, h.few.2.2⟩⟩
theorem JoV.sick1 (h : JoV W j p js) : JoV (W.setCell ⟨j, 5, none⟩ (.bool true)) j p { js with sick := true } :=
  ⟨by rw [cell_put h.c5]; exact h.c0, by rw [cell_put h.c5]; exact h.c1, by rw [cell_put h.c5]; exact h.c2, by rw [cell_put h.c5]; exact h.c3, by rw [cell_put h.c5]; exact h.c4, by rw [cell_put h.c5]; rfl,
    fun i => by simpa using h.fz i, by simpa using h.lt, h.few⟩
end
set_option maxRecDepth 100000 in
set_option maxHeartbeats 1000000 in
theorem jpass_any {Dk : (Nat → Prop) → World → Nat → St → Prop} (S : LandedSt Dk) (F : Nat → Prop) (W : World) (j p : Nat) (js : JSt) (n : Nat) (h : JoIs F W j p js) (hn : n ≤ 32768) (hfit : js.spot + cntR n ≤ js.upto) (hq : js.seq < 1152921504606846976) :
    Calls Try.prog 33 #[.pointer (some ⟨j, 0, none⟩), .int .i64 ((n : Nat) : Int)] W fun e W' => e = .returned (.tuple #[]) ∧ JoIs F W' j p { js with spot := js.spot + cntR n, seq := js.seq + 1 } ∧ Only F W W' := by
  have hF := h.2
  have hV := h.1
  have c4 := hV.c4
  have f4 := hV.fz 4
  have hf := hV.few
  have hS := Lib.hid (fun W => jsectors_any S n W (by omega))
  have hw4 : IntKind.i64.wrap (js.seq + 1) = js.seq + 1 := by rw [IntKind.wrap_i64]; omega
  have hcl := cntR_le hn
  have hw3 : IntKind.i64.wrap ((js.spot : Int) + ((cntR n : Nat) : Int)) = ((js.spot + cntR n : Nat) : Int) := by rw [IntKind.wrap_i64]; omega
  have hV1 := Lib.hid (hV.seq1 (js.seq + 1) (by omega) (by omega))
  have hp := cntR_pos n
  have hfr : js.fr ≤ js.spot + cntR n := by omega
  have hup : js.spot + cntR n ≤ js.upto := hfit
  generalize cntR n = c at *
  clear hq hn hcl
  go_enter Try.func33, Try.ntmps33
  go_wp2_with fail
  replace hV1 := hV1.out
  have hO1 : Only (fun k => k = j) W (W.setCell ⟨j, 4, none⟩ (.int .i64 (js.seq + 1))) := (Only.refl (fun k => k = j) W).setCell (p := ⟨j, 4, none⟩) (fun _ => rfl) _
  generalize W.setCell ⟨j, 4, none⟩ (.int .i64 (js.seq + 1)) = W1 at *
  have d3 := hV1.c3
  have hV1' := Lib.hid hV1
  clear hV1 c4 f4 hV hf h
  go_region_law (first | (refine step_plain (by rfl) ?_; go_simp; go_at_call 34; with_reducible refine (hS.out _).mono ?_; rintro e wx ⟨rfl, hbx⟩; replace hbx := past_drew hbx; have e3 := (hV1'.out.later hbx).c3; have g3 := (hV1'.out.later hbx).fz 3))
  all_goals
    have hVx := (hV1'.out.later hbx).at1 (js.spot + c) hfr hup
    have hOx : Only (fun k => k = j) W (wx.setCell ⟨j, 3, none⟩ (.int .i64 ((js.spot + c : Nat) : Int))) := (hO1.trans (Only.of_below (F := fun k => k = j) hbx) (fun _ _ e => e)).setCell (p := ⟨j, 3, none⟩) (fun _ => rfl) _
    rw [show ((js.spot : Nat) : Int) + ((c : Nat) : Int) = ((js.spot + c : Nat) : Int) by omega]
    generalize wx.setCell ⟨j, 3, none⟩ (.int .i64 ((js.spot + c : Nat) : Int)) = wz at *
    go_end0
    exact ⟨rfl, ⟨hVx, hF⟩, hOx.mono (fun k _ e => (hF k).2 e)⟩
set_option maxRecDepth 100000 in
theorem jrestart_any (F : Nat → Prop) (W : World) (j p : Nat) (js : JSt) (h : JoIs F W j p js) :
    Calls Try.prog 26 #[.pointer (some ⟨j, 0, none⟩)] W fun e W' => e = .returned (.tuple #[]) ∧ JoIs F W' j p { js with spot := js.fr } ∧ Only F W W' := by
  have hF := h.2
  have hV := h.1
  have c1 := hV.c1
  have c3 := hV.c3
  have f3 := hV.fz 3
  have hV2 := hV.at1 js.fr (Nat.le_refl _) (Nat.le_trans hV.few.1 hV.few.2.1)
  have hO : Only (fun k => k = j) W (W.setCell ⟨j, 3, none⟩ (.int .i64 (js.fr : Int))) := (Only.refl (fun k => k = j) W).setCell (p := ⟨j, 3, none⟩) (fun _ => rfl) _
  replace hV2 := Lib.hid hV2
  clear h hV
  go_enter Try.func26, Try.ntmps26
  go_wp2
  go_end0
  exact ⟨rfl, ⟨hV2.out, hF⟩, hO.mono (fun k _ e => (hF k).2 e)⟩
set_option maxRecDepth 100000 in
theorem jseq_any (F : Nat → Prop) (W : World) (j p : Nat) (js : JSt) (h : JoIs F W j p js) :
    Calls Try.prog 22 #[.pointer (some ⟨j, 0, none⟩)] W fun e W' => e = .returned (.int .i64 js.seq) ∧ Below W.heap.size W W' := by
  have c4 := h.1.c4
  clear h
  go_enter Try.func22, Try.ntmps22
  go_wp2
  go_ret
  exact ⟨rfl, Below.refl _ _⟩
set_option maxRecDepth 100000 in
theorem jspot_any (F : Nat → Prop) (W : World) (j p : Nat) (js : JSt) (h : JoIs F W j p js) :
    Calls Try.prog 15 #[.pointer (some ⟨j, 0, none⟩)] W fun e W' => e = .returned (.int .i64 (js.spot : Int)) ∧ Below W.heap.size W W' := by
  have c3 := h.1.c3
  clear h
  go_enter Try.func15, Try.ntmps15
  go_wp2
  go_ret
  exact ⟨rfl, Below.refl _ _⟩
set_option maxRecDepth 100000 in
theorem jsick_any (F : Nat → Prop) (W : World) (j p : Nat) (js : JSt) (h : JoIs F W j p js) :
    Calls Try.prog 13 #[.pointer (some ⟨j, 0, none⟩)] W fun e W' => e = .returned (.bool js.sick) ∧ Below W.heap.size W W' := by
  have c5 := h.1.c5
  clear h
  go_enter Try.func13, Try.ntmps13
  go_wp2
  go_ret
  exact ⟨rfl, Below.refl _ _⟩
/-- Of a nil journal nothing. -/
theorem landedJoNone : LandedJoNone where
  restart := fun W => by
    go_enter Try.func26, Try.ntmps26
    go_wp2
    go_end0
    exact ⟨rfl, Below.refl _ _⟩
  add := fun W => by
    go_enter Try.func16, Try.ntmps16
    go_wp2
    go_ret
    exact ⟨rfl, Below.refl _ _⟩
  seq := fun W => by
    go_enter Try.func22, Try.ntmps22
    go_wp2
    go_ret
    exact ⟨rfl, Below.refl _ _⟩
  spot := fun W => by
    go_enter Try.func15, Try.ntmps15
    go_wp2
    go_ret
    exact ⟨rfl, Below.refl _ _⟩
  sick := fun W => by
    go_enter Try.func13, Try.ntmps13
    go_wp2
    go_ret
    exact ⟨rfl, Below.refl _ _⟩
  room := fun W => by
    go_enter Try.func14, Try.ntmps14
    go_wp2_with fail
    go_quiet (fail)
    go_wp2
    go_ret
    exact ⟨rfl, held_drewN _ _⟩
end Go.Proofs.Ytmhafgginbeihaa
