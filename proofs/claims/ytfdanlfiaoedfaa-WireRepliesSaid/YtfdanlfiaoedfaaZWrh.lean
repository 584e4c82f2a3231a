/- Stage 22: what the laws ask first; WireOps' walk. No condition. -/
/- Stage 22: WireTold's walk. No condition. -/
import Derived.Test.YtfdanlfiaoedfaaZWqs
import Derived.Test.YtfdanlfiaoedfaaZWrd
import Derived.Test.YtfdanlfiaoedfaaZWrf
namespace Go.Proofs.Ytfdanlfiaoedfaa
open Go.RowKit Go.Sort Wm Cr

/-- The question's request, its bytes. -/
def tickQ : Req := ⟨3, [], [], 1, [], zeroF⟩
def tickB : ByteArray := ⟨#[3, 1, 0, 0, 0, 0, 0, 0, 0]⟩
theorem tickQ_good : goodQ tickQ = true := by decide
theorem tickQ_bytes : reqB tickQ = tickB := by decide +kernel
theorem tickQ_wf : tickQ.Wf := ⟨by unfold tickQ; constructor <;> decide, fun x hx => (by cases hx), fun x hx => (by cases hx), by unfold tickQ; constructor <;> decide, fun x hx => (by cases hx), zeroF_wf⟩
theorem tickQ_read : readQ tickB = some tickQ := by
  rw [← tickQ_bytes, read_put tickQ tickQ_wf tickQ_good]
  rfl
theorem tickQ_V : reqV tickQ ⟨none, 0, none, 0, none, 0⟩ = .agg #[.int .i64 3, .slice none 0 0, .slice none 0 0, .int .i64 1, .slice none 0 0, .int .u64 0, .int .u64 0, .int .i64 0, .int .i64 0, .bool false, .bool false, .bool false, .int .i64 0] := by
  unfold tickQ reqV zeroF; dsimp only; rw [show hiN 0 = 0 from by decide, show loN 0 = 0 from by decide]; rfl
theorem reqAt_nil (W : World) {q : Req} {s : Reqs} (h1 : q.Accounts = []) (h2 : q.Transfers = []) (h3 : q.Ids = []) : ReqAt W q s :=
  ⟨by rw [h1]; exact RowAt.nil, by rw [h1]; exact Nat.zero_le _, by rw [h2]; exact RowAt.nil, by rw [h2]; exact Nat.zero_le _, by rw [h3]; exact RowAt.nil, by rw [h3]; exact Nat.zero_le _⟩
theorem aliveBytes (W : World) : Calls Try.prog 12 #[.agg #[.int .i64 3, .slice none 0 0, .slice none 0 0, .int .i64 1, .slice none 0 0, .int .u64 0, .int .u64 0, .int .i64 0, .int .i64 0, .bool false, .bool false, .bool false, .int .i64 0]] W
    fun e w2 => e = .returned (.tuple #[.string ⟨#[3, 1, 0, 0, 0, 0, 0, 0, 0]⟩, .int .i64 0]) ∧ Below W.heap.size W w2 := by
  have h := wireBytes_any tickQ ⟨none, 0, none, 0, none, 0⟩ W (reqAt_nil W rfl rfl rfl) tickQ_wf
  rw [tickQ_V, if_pos tickQ_good, tickQ_bytes] at h
  exact h
theorem aliveRead (W : World) : Calls Try.prog 14 #[.string ⟨#[3, 1, 0, 0, 0, 0, 0, 0, 0]⟩] W
    fun e w2 => (∃ sl, e = .returned (.tuple #[reqV tickQ sl, .int .i64 0])) ∧ Below W.heap.size W w2 := by
  refine (wireRead_any tickB (by decide) W).mono ?_
  rintro e w2 ⟨h, hb⟩
  refine ⟨?_, hb⟩
  rcases h with ⟨q, sl, h1, h2, h3⟩ | ⟨h1, h2⟩
  · rw [tickQ_read] at h1
    injection h1 with h1
    subst h1
    exact ⟨sl, h2⟩
  · rw [tickQ_read] at h1; cases h1
set_option maxRecDepth 100000 in
set_option maxHeartbeats 2000000 in
theorem wireAlive_any (W : World) : Calls Try.prog 9 #[] W fun e w2 => e = .returned (.bool true) ∧ Below W.heap.size W w2 := by
  have hz := Lib.hid (fun (cs : Array Value) (t : TypeId) => (Below.refl W.heap.size W).alloc (Nat.le_refl _) (.cells cs t))
  have k0 := Lib.hid aliveBytes
  have k1 := Lib.hid aliveRead
  go_enter Try.func9, Try.ntmps9
  go_wp2_with fail
  refine (k0.out _).mono ?_
  rintro e w2 ⟨rfl, hb2⟩
  go_wp2_with fail
  refine (k1.out _).mono ?_
  rintro e w3 ⟨⟨sl, rfl⟩, hb3⟩
  obtain ⟨sA, sAc, sT, sTc, sI, sIc⟩ := sl
  unfold reqV tickQ
  dsimp only
  have h3 := hb2.trans (hb3.mono hb2.size)
  go_wp2
  go_ret
  exact ⟨rfl, h3.alloc h3.size _⟩
end Go.Proofs.Ytfdanlfiaoedfaa
namespace Go.Proofs.Ytfdanlfiaoedfaa
open Go.RowKit Go.Sort Wm Cr

set_option maxRecDepth 100000 in
set_option maxHeartbeats 4000000 in
theorem wireTold_any (s : ByteArray) (hs : s.size ≤ 140737488351232) (W : World) :
    Calls Try.prog 6 #[.string s] W fun e w2 => e = .returned (.bool true) ∧ Below W.heap.size W w2 := by
  have ha := Lib.hid wireAlive_any
  by_cases h1 : 2000 < s.size
  · have h1I : decide (2000 < ((s.size : Nat) : Int)) = true := decide_eq_true (by omega)
    go_enter Try.func6, Try.ntmps6
    go_wp2_with fail
    refine (ha.out _).mono ?_
    rintro e w2 ⟨rfl, hb2⟩
    go_wp2
    go_ret
    exact ⟨rfl, hb2⟩
  have h1I : decide (2000 < ((s.size : Nat) : Int)) = false := decide_eq_false (by omega)
  have kr := Lib.hid (fun W => wireReadReply_any s (by omega) W)
  go_enter Try.func6, Try.ntmps6
  go_wp2_with fail
  refine (ha.out _).mono ?_
  rintro e w2 ⟨rfl, hb2⟩
  go_wp2_with fail
  refine (kr.out _).mono ?_
  rintro e w3 ⟨hr, hb3⟩
  have hb4 := Lib.hid (hb2.trans (hb3.mono hb2.size))
  clear hb2 hb3 ha kr
  rcases hr with ⟨q, sl, h2, rfl, hat⟩ | ⟨h2, rfl⟩
  · obtain ⟨h3, h4, h5⟩ := read_backP h2
    have hF := (fitsP_iff q).1 h4
    have hrl := hF.r
    have hal := Lib.hid (fun (W' : World) (hb : Below w3.heap.size w3 W') => hat.later hb)
    have kc := Lib.hid (fun w (h : RowAt Resu.cells 1 w sl.Results q.Results) => codes_any q.Results sl.Results sl.Resultsc w h (by omega))
    have kR := Lib.hid (fun w oR cR (hR : RowAt Resu.cells 1 w oR q.Results) (h : RepAt w q sl) => refReply_any q.Err q.Results q.Accounts q.Transfers oR sl.Accounts sl.Transfers cR sl.Accountsc sl.Transfersc w hR h.Accounts h.Transfers)
    rw [show (⟨q.Err, q.Results, q.Accounts, q.Transfers⟩ : Rep) = q from rfl, h3] at kR
    have hbx := BoxAt.new w3 (q.cells sl) 43
    clear h2 h3 h4 h5 hat hF hrl
    obtain ⟨er, rs, acs, ts⟩ := q
    obtain ⟨sR, sRc, sA, sAc, sT, sTc⟩ := sl
    unfold repV at *
    unfold Rep.cells at hbx
    dsimp only at *
    obtain ⟨w4, hw4⟩ : ∃ w4, w4 = w3.alloc (.cells #[.int .i64 er, .slice sR rs.length sRc, .slice sA acs.length sAc, .slice sT ts.length sTc] 43) := ⟨_, rfl⟩
    have hb5 : Below w3.heap.size w3 w4 := by rw [hw4]; exact (Below.refl _ _).alloc (Nat.le_refl _) _
    change BoxAt (w3.alloc (.cells #[.int .i64 er, .slice sR rs.length sRc, .slice sA acs.length sAc, .slice sT ts.length sTc] 43)) _ _ at hbx
    rw [← hw4] at hbx
    replace hw4 := Lib.hid hw4
    go_wp2_with fail
    rw [← hw4.out]
    clear hw4
    generalize hbQ : w3.heap.size = bQ at hbx ⊢
    have hcs := Lib.hid (fun wx (h : BoxAt wx bQ [.int .i64 er, .slice sR rs.length sRc, .slice sA acs.length sAc, .slice sT ts.length sTc]) => (show (fun w' => w'.cell? ⟨bQ, 0, none⟩ = some (.int .i64 er) ∧ w'.cell? ⟨bQ, 1, none⟩ = some (.slice sR rs.length sRc) ∧ w'.cell? ⟨bQ, 2, none⟩ = some (.slice sA acs.length sAc) ∧ w'.cell? ⟨bQ, 3, none⟩ = some (.slice sT ts.length sTc) ∧ bQ < w'.heap.size) wx from ⟨h.spot 0 _ rfl, h.spot 1 _ rfl, h.spot 2 _ rfl, h.spot 3 _ rfl, h.lt⟩))
    have hS := hcs.out _ (hbx.later (Below.refl _ _).drew)
    dsimp only at hS
    have hb6 := Lib.hid hb5.drew
    have hbd := Lib.hid (hbx.later (Below.refl _ _).drew)
    clear hb5 hbx
    generalize hw5 : w4.drew = w5 at *
    refine wp_region_need (fun _ => True) [0, 2, 5, 7, 10] (by kernel_rfl) ?_
    rw [hw5]
    clear hw5
    refine need_takeL (i := 0) (v := ?cv66) rfl rfl (by kernel_rfl) (by kernel_rfl) (by kernel_rfl) (fun _ _ _ h => h) (Or.inl ⟨by rfl, ?ch66⟩) trivial ?cr66
    case ch66 => (intro w' hSw; (try dsimp only at hSw); go_simp; first | done | with_reducible rfl)
    try simp only [Act.put, List.setIfInBounds_toArray, List.set_cons_zero, List.set_cons_succ]
    refine need_takeL (i := 2) (v := ?cv69) rfl rfl (by kernel_rfl) (by kernel_rfl) (by kernel_rfl) (fun _ _ _ h => h) (Or.inl ⟨by rfl, ?ch69⟩) trivial ?cr69
    case ch69 => (intro w' hSw; (try dsimp only at hSw); go_simp; first | done | with_reducible rfl)
    try simp only [Act.put, List.setIfInBounds_toArray, List.set_cons_zero, List.set_cons_succ]
    refine need_takeL (i := 5) (v := ?cv72) rfl rfl (by kernel_rfl) (by kernel_rfl) (by kernel_rfl) (fun _ _ _ h => h) (Or.inl ⟨by rfl, ?ch72⟩) trivial ?cr72
    case ch72 => (intro w' hSw; (try dsimp only at hSw); go_simp; first | done | with_reducible rfl)
    try simp only [Act.put, List.setIfInBounds_toArray, List.set_cons_zero, List.set_cons_succ]
    refine need_takeL (i := 7) (v := ?cv75) rfl rfl (by kernel_rfl) (by kernel_rfl) (by kernel_rfl) (fun _ _ _ h => h) (Or.inl ⟨by rfl, ?ch75⟩) trivial ?cr75
    case ch75 => (intro w' hSw; (try dsimp only at hSw); go_simp; first | done | with_reducible rfl)
    try simp only [Act.put, List.setIfInBounds_toArray, List.set_cons_zero, List.set_cons_succ]
    refine need_takeL (i := 10) (v := ?cv78) rfl rfl (by kernel_rfl) (by kernel_rfl) (by kernel_rfl) (fun _ _ _ h => h) (Or.inl ⟨by rfl, ?ch78⟩) trivial ?cr78
    case ch78 => (intro w' hSw; (try dsimp only at hSw); go_simp; first | done | with_reducible rfl)
    try simp only [Act.put, List.setIfInBounds_toArray, List.set_cons_zero, List.set_cons_succ]
    refine need_from (S2 := fun w' => w'.cell? ⟨bQ, 0, none⟩ = some (.int .i64 er) ∧ w'.cell? ⟨bQ, 1, none⟩ = some (.slice sR rs.length sRc) ∧ w'.cell? ⟨bQ, 2, none⟩ = some (.slice sA acs.length sAc) ∧ w'.cell? ⟨bQ, 3, none⟩ = some (.slice sT ts.length sTc) ∧ bQ < w'.heap.size) (need2 := [1, 3, 6, 8]) (fun _ => trivial) _ _ _ _ ?_
    refine need_takeL (i := 1) (v := ?cv82) rfl rfl (by kernel_rfl) (by kernel_rfl) (by kernel_rfl) (fun _ _ _ h => h) (Or.inl ⟨by rfl, ?ch82⟩) hS ?cr82
    case ch82 => (intro w' hSw; (try dsimp only at hSw); go_simp; first | done | with_reducible rfl)
    try simp only [Act.put, List.setIfInBounds_toArray, List.set_cons_zero, List.set_cons_succ]
    refine need_takeL (i := 3) (v := ?cv85) rfl rfl (by kernel_rfl) (by kernel_rfl) (by kernel_rfl) (fun _ _ _ h => h) (Or.inl ⟨by rfl, ?ch85⟩) hS ?cr85
    case ch85 => (intro w' hSw; (try dsimp only at hSw); go_simp; first | done | with_reducible rfl)
    try simp only [Act.put, List.setIfInBounds_toArray, List.set_cons_zero, List.set_cons_succ]
    refine need_takeL (i := 6) (v := ?cv88) rfl rfl (by kernel_rfl) (by kernel_rfl) (by kernel_rfl) (fun _ _ _ h => h) (Or.inl ⟨by rfl, ?ch88⟩) hS ?cr88
    case ch88 => (intro w' hSw; (try dsimp only at hSw); go_simp; first | done | with_reducible rfl)
    try simp only [Act.put, List.setIfInBounds_toArray, List.set_cons_zero, List.set_cons_succ]
    refine need_takeL (i := 8) (v := ?cv91) rfl rfl (by kernel_rfl) (by kernel_rfl) (by kernel_rfl) (fun _ _ _ h => h) (Or.inl ⟨by rfl, ?ch91⟩) hS ?cr91
    case ch91 => (intro w' hSw; (try dsimp only at hSw); go_simp; first | done | with_reducible rfl)
    try simp only [Act.put, List.setIfInBounds_toArray, List.set_cons_zero, List.set_cons_succ]
    clear hS
    refine need_turnL (i := 4) rfl (by kernel_rfl) (by rfl) (fun K' hK' => ?_)
    go_simp
    refine (kc.out _ (hal.out _ hb6.out).Results).mono ?_
    rintro e w6 ⟨o2, c2, rfl, hr6, hb7⟩
    have hb8 := Lib.hid (hb6.out.trans (hb7.mono hb6.out.size))
    have hbe := Lib.hid (hbd.out.later hb7)
    clear hb6 hb7 kc hbd
    refine hK' _ _ (fun _ => hcs.out _ hbe.out) ?_
    clear hK' K'
    try simp only [Act.put, List.setIfInBounds_toArray, List.set_cons_zero, List.set_cons_succ]
    refine need_turnL (i := 9) rfl (by kernel_rfl) (by rfl) (fun K' hK' => ?_)
    go_simp
    refine (kR.out _ _ _ hr6 (hal.out _ hb8.out)).mono ?_
    rintro e w7 ⟨rfl, hb9⟩
    have hfin := Lib.hid (hb4.out.trans ((hb8.out.trans (hb9.mono hb8.out.size)).mono hb4.out.size))
    have hbf := Lib.hid (hbe.out.later hb9)
    clear hb8 hb9 kR hbe hr6 hal hb4
    refine hK' _ _ (fun _ => hcs.out _ hbf.out) ?_
    clear hK' K'
    try simp only [Act.put, List.setIfInBounds_toArray, List.set_cons_zero, List.set_cons_succ]
    refine need_turnL (i := 11) rfl (by kernel_rfl) (by rfl) (fun K' hK' => ?_)
    go_simp
    refine hK' _ _ (fun _ => hcs.out _ hbf.out) ?_
    clear hK' K'
    try simp only [Act.put, List.setIfInBounds_toArray, List.set_cons_zero, List.set_cons_succ]
    refine need_turnL (i := 12) rfl (by kernel_rfl) (by rfl) (fun K' hK' => ?_)
    go_simp
    refine hK' _ _ (fun _ => hcs.out _ hbf.out) ?_
    clear hK' K'
    try simp only [Act.put, List.setIfInBounds_toArray, List.set_cons_zero, List.set_cons_succ]
    refine need_done (by kernel_rfl) ?_ _
    go_wp2
    go_ret
    exact ⟨by simp, hfin.out⟩
  · unfold bareP
    go_wp2
    go_ret
    exact ⟨by simp, by first | exact hb4.out | exact hb4.out.alloc hb4.out.size _⟩
end Go.Proofs.Ytfdanlfiaoedfaa
