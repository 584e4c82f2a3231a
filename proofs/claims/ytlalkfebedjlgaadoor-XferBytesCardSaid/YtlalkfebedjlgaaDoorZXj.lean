/- Stage 10: XferBytes' walk, of what has no bytes. No condition but the landed contracts. -/
import Derived.Test.YtlalkfebedjlgaaDoorZXi
namespace Go.Proofs.YtlalkfebedjlgaaDoor
open Go.RowKit Go.Sort Wm Cr

section
variable {Mo : World → Prop} {Wr : (Nat → Prop) → World → Nat → ByteArray → Prop} {Rd : (Nat → Prop) → World → Nat → Option ByteArray → Prop}
set_option maxRecDepth 100000 in
set_option maxHeartbeats 4000000 in
theorem xferBytes_false (L : LandedXf Mo Wr Rd) (K : LandedWr Wr) (R : LandedRd Rd) (a : Tran) (ha : a.Wf) (s : ByteArray) (hs : s.size ≤ 140737488351232) (w : World) (hM : Mo w) (h3 : ¬ 100 < s.size) (hgd : goodT a = false) :
    Calls Tryd.prog 6 #[tranV a, .string s] w fun e w' => e = .returned (.bool true) ∧ Below w.heap.size w w' := by
  have hm0 := (Hx.refl hM).new L.later a.cells 26
  have hal := Lib.hid (fun W (h : Hx Mo w W [(w.heap.size, a.cells)]) => h.ask L.later (xferAlive_any L W h.mo))
  have hg1 := Lib.hid (fun W (h : Hx Mo w W [(w.heap.size, a.cells)]) => (h.box _ (List.mem_cons_self ..)).tran h)
  have hw1 := wantT_wf ha
  have hbz := traB_size (wantT a)
  have htk := takeT_put ha s
  have hrs := restT_put (wantT a) s
  have hput := Lib.hid (fun W p (h : Wx Wr w W [(w.heap.size, a.cells)] p ByteArray.empty) => h.put (S := fun e => e = .returned (.tuple #[])) (fun F hF => L.put F W p ByteArray.empty a ha hF (by decide)))
  rw [ByteArray.empty_append] at hput
  generalize hx : wantT a = x at *
  have hsz : (traB x ++ s).size = 108 + s.size := by rw [ByteArray.size_append, hbz]
  have hs1 : s.size ≤ 100 := by omega
  have hgood := Lib.hid (fun W l p (h : Wx Wr w W l p (traB x)) => h.ask K (refgood_tran a W))
  have hagood := Lib.hid (fun W l p q (h : Rx Wr Rd w W l p (traB x) q (some s)) => h.ask K R (L.good a W ha))
  have hstr := Lib.hid (fun W l p (h : Wx Wr w W l p (traB x)) => h.ask K (S := fun e => e = .returned (.string (traB x))) (by obtain ⟨_, _, F, hF, _⟩ := h; exact K.str F W p _ hF (by omega)))
  have hstr2 := Lib.hid (fun W l p q (h : Rx Wr Rd w W l p (traB x) q (some s)) => h.ask K R (S := fun e => e = .returned (.string (traB x))) (by obtain ⟨_, _, F, G, hF, _⟩ := h; exact K.str F W p _ hF (by omega)))
  have hlen := Lib.hid (fun W l p q (h : Rx Wr Rd w W l p (traB x) q (some s)) => h.ask K R (S := fun e => e = .returned (.int .i64 (((traB x).size : Nat) : Int))) (by obtain ⟨_, _, F, G, hF, _⟩ := h; exact K.len F W p _ hF (by omega)))
  have hbyt := Lib.hid (fun W l p q (h : Rx Wr Rd w W l p (traB x) q (some s)) => h.ask K R (refbytes_tran x W))
  have hleft := Lib.hid (fun W l p q (h : Rx Wr Rd w W l p (traB x) q (some s)) => h.ask K R (S := fun e => e = .returned (.int .i64 ((leftN (some s) : Nat) : Int))) (by obtain ⟨_, _, F, G, _, hG, _⟩ := h; exact R.left G W q _ hG))
  rw [show leftN (some s) = s.size from rfl] at hleft
  rw [hbz, show ((108 : Nat) : Int) = 108 from rfl] at hlen
  have hrd := Lib.hid (fun W => R.read (traB x ++ s) W (by rw [ByteArray.size_append]; omega))
  have hget := Lib.hid (fun W l p q (h : Rx Wr Rd w W l p (traB x) q (some (traB x ++ s))) => h.get K (S := fun e => e = .returned (tranV (takeT (some (traB x ++ s))))) (fun G hG => L.get G W q _ hG))
  rw [htk, hrs] at hget
  have hnew1 := Lib.hid (fun W p (h : Wx Wr w W [(w.heap.size, a.cells)] p (traB x)) => h.new K x.cells 26)
  have hnew2 := Lib.hid (fun W c p q (h : Rx Wr Rd w W [(c, x.cells), (w.heap.size, a.cells)] p (traB x) q (some s)) => h.new K R x.cells 26)
  have hd := Lib.hid (fun W b c p q (h : Rx Wr Rd w W [(b, x.cells), (c, x.cells), (w.heap.size, a.cells)] p (traB x) q (some s)) => h.later K R ((Below.refl _ _).drew))
  have hx0 := Lib.hid (show x = zeroT by rw [← hx]; unfold wantT; rw [if_neg (by rw [hgd]; decide)])
  clear hx
  rw [hgd] at hgood hagood
  have hVx : tranV x = .agg x.cells.toArray := rfl
  have hVa : tranV a = .agg a.cells.toArray := rfl
  have heq := fun W => (run_eql_tran x x W).trans (congrArg (fun b : Bool => Result.ok (Value.bool b) W) (@decide_eq_true _ (Classical.propDecidable _) (rfl : x = x)))
  have hLen := Lib.hid (Tran.cells_length a)
  have hMi := Lib.hid (show (Tryd.prog.info? 26).map (·.size) = some a.cells.length by rw [Tran.cells_length]; kernel_rfl)
  have hMs := Lib.hid (show (Tryd.prog.info? 26).map (·.size) = some a.cells.toArray.size by rw [List.size_toArray]; exact hMi.out)
  have hM1 := Lib.hid (show a.cells.toArray.all (·.oneCell') = true by unfold Tran.cells; simp [Value.oneCell'])
  have hLen2 := Lib.hid (Tran.cells_length x)
  have hNi := Lib.hid (show (Tryd.prog.info? 26).map (·.size) = some x.cells.length by rw [Tran.cells_length]; kernel_rfl)
  have hNs := Lib.hid (show (Tryd.prog.info? 26).map (·.size) = some x.cells.toArray.size by rw [List.size_toArray]; exact hNi.out)
  have hN1 := Lib.hid (show x.cells.toArray.all (·.oneCell') = true by unfold Tran.cells; simp [Value.oneCell'])
  have hNz := Lib.hid (show x.cells = [.int .u64 0, .int .u64 0, .int .u64 0, .int .u64 0, .int .u64 0, .int .u64 0, .int .u64 0, .int .u64 0, .int .u64 0, .int .u64 0, .int .i64 0, .int .i64 0, .int .i64 0, .int .i64 0, .int .i64 0, .int .i64 0] by rw [hx0.out]; kernel_rfl)
  have hset := Lib.hid (show ((((((((((((((((a.cells).set 0 (.int .u64 0)).set 1 (.int .u64 0)).set 2 (.int .u64 0)).set 3 (.int .u64 0)).set 4 (.int .u64 0)).set 5 (.int .u64 0)).set 6 (.int .u64 0)).set 7 (.int .u64 0)).set 8 (.int .u64 0)).set 9 (.int .u64 0)).set 10 (.int .i64 0)).set 11 (.int .i64 0)).set 12 (.int .i64 0)).set 13 (.int .i64 0)).set 14 (.int .i64 0)).set 15 (.int .i64 0) = x.cells by rw [hNz.out]; rfl)
  rw [hVx] at hbyt heq hget
  rw [hVa] at hagood hput hgood
  rw [hVa]
  clear hVx hVa hg1 hx0
  generalize a.cells = M at *
  generalize x.cells = N at *
  replace heq := Lib.hid heq
  have hst : ∀ w0 : World, (storeCells ⟨w0.heap.size, 0, none⟩ M 0).run Tryd.prog (w0.alloc (.cells #[.int .u64 0, .int .u64 0, .int .u64 0, .int .u64 0, .int .u64 0, .int .u64 0, .int .u64 0, .int .u64 0, .int .u64 0, .int .u64 0, .int .i64 0, .int .i64 0, .int .i64 0, .int .i64 0, .int .i64 0, .int .i64 0] 26)) = .ok () (w0.alloc (.cells M.toArray 26)) :=
    fun w0 => run_storeCells_new (P := Tryd.prog) w0 26 _ M.toArray hMs.out (show (16 : Nat) = _ from ((List.size_toArray ..).trans hLen.out).symm) hM1.out
  have hst2 : ∀ w0 : World, (storeCells ⟨w0.heap.size, 0, none⟩ N 0).run Tryd.prog (w0.alloc (.cells #[.int .u64 0, .int .u64 0, .int .u64 0, .int .u64 0, .int .u64 0, .int .u64 0, .int .u64 0, .int .u64 0, .int .u64 0, .int .u64 0, .int .i64 0, .int .i64 0, .int .i64 0, .int .i64 0, .int .i64 0, .int .i64 0] 26)) = .ok () (w0.alloc (.cells N.toArray 26)) :=
    fun w0 => run_storeCells_new (P := Tryd.prog) w0 26 _ N.toArray hNs.out (show (16 : Nat) = _ from ((List.size_toArray ..).trans hLen2.out).symm) hN1.out
  go_enter Tryd.func6, Tryd.ntmps6
  go_wp2_with fail
  refine (hal.out _ hm0).mono ?_
  rintro e w1 ⟨rfl, hm1⟩
  have hW2 := Wx.start K (l := [(w.heap.size, M)]) hm1.bel hm1.box
  have r2 := Lib.hid (hW2.box _ (List.mem_cons_self ..)).range
  go_wp2_with (refine wpList_load_midg rfl _ _ rfl w.heap.size 0 rfl M _ r2.out Tryd.underlying26 rfl hMi.out ?_)
  refine (hput.out _ _ hW2).mono ?_
  rintro e w2 ⟨rfl, hW3⟩
  have r3 := Lib.hid (hW3.box _ (List.mem_cons_self ..)).range
  clear hW2 r2 hm1 hm0 hal hput
  go_wp2_with (refine wpList_load_midg rfl _ _ rfl w.heap.size 0 rfl M _ r3.out Tryd.underlying26 rfl hMi.out ?_)
  refine (hgood.out _ _ _ hW3).mono ?_
  rintro e w3 ⟨rfl, hW4⟩
  have r4 := Lib.hid (hW4.box _ (List.mem_cons_self ..)).range
  have hW5 := hnew1.out _ _ hW4
  clear hW3 r3 hgood hnew1
  go_wp2_with (first | (refine wpList_load_midg rfl _ _ rfl w.heap.size 0 rfl M _ r4.out Tryd.underlying26 rfl hMi.out ?_))
  rw [hset.out]
  refine (hstr.out _ _ _ hW5).mono ?_
  rintro e w6 ⟨rfl, hW6⟩
  clear hW5 hW4 r4 hstr
  go_wp2_with fail
  refine (hrd.out _).mono ?_
  rintro e w7 hp
  obtain ⟨q, rfl, hR7⟩ := hW6.read K hp
  clear hp hW6 hrd
  go_wp2_with fail
  refine (hget.out _ _ _ _ hR7).mono ?_
  rintro e w8 ⟨rfl, hR8⟩
  have hR9 := hnew2.out _ _ _ _ hR8
  have hR9d := hd.out _ _ _ _ _ hR9
  clear hR7 hR8 hnew2 hget
  go_wp2_with fail
  clear hst hst2
  refine wp_region_calm (fun w' => Rx Wr Rd w w' [(w8.heap.size, N), (w3.heap.size, N), (w.heap.size, M)] w1.heap.size (traB x) q (some s)) (by kernel_rfl) (by kernel_rfl) hR9d ?_
  refine calm_load 26 _ (w.heap.size) 0 (M) _ (by rfl) rfl rfl (fun w' h => (h.box (w.heap.size, M) (by simp)).range) Tryd.underlying26 rfl (by first | exact hMi.out | exact hNi.out | exact hCi.out | exact hDi.out | kernel_rfl) ?_
  try simp only [Act.put, List.setIfInBounds_toArray, List.set_cons_zero, List.set_cons_succ]
  refine calm_call 24 #[.agg M.toArray] (by rfl) (fun w' => by go_simp) (fun w' h => (hagood.out _ _ _ _ h)) ?_
  try simp only [Act.put, List.setIfInBounds_toArray, List.set_cons_zero, List.set_cons_succ]
  refine calm_pure (v := ?cv105) (by rfl) (fun w' => ?ch105) ?cr105
  case ch105 => (go_simp; first | done | with_reducible rfl)
  try simp only [Act.put, List.setIfInBounds_toArray, List.set_cons_zero, List.set_cons_succ]
  refine calm_pure (v := ?cv108) (by rfl) (fun w' => ?ch108) ?cr108
  case ch108 => (go_simp; first | done | with_reducible rfl)
  try simp only [Act.put, List.setIfInBounds_toArray, List.set_cons_zero, List.set_cons_succ]
  refine calm_pure (v := ?cv111) (by rfl) (fun w' => ?ch111) ?cr111
  case ch111 => (go_simp; first | done | with_reducible rfl)
  try simp only [Act.put, List.setIfInBounds_toArray, List.set_cons_zero, List.set_cons_succ]
  refine calm_pure (v := ?cv114) (by rfl) (fun w' => ?ch114) ?cr114
  case ch114 => (go_simp; first | done | with_reducible rfl)
  try simp only [Act.put, List.setIfInBounds_toArray, List.set_cons_zero, List.set_cons_succ]
  refine calm_call 22 #[.pointer (some ⟨w1.heap.size, 0, none⟩)] (by rfl) (fun w' => by go_simp) (fun w' h => (hstr2.out _ _ _ _ h)) ?_
  try simp only [Act.put, List.setIfInBounds_toArray, List.set_cons_zero, List.set_cons_succ]
  refine calm_load 26 _ (w3.heap.size) 0 (N) _ (by rfl) rfl rfl (fun w' h => (h.box (w3.heap.size, N) (by simp)).range) Tryd.underlying26 rfl (by first | exact hMi.out | exact hNi.out | exact hCi.out | exact hDi.out | kernel_rfl) ?_
  try simp only [Act.put, List.setIfInBounds_toArray, List.set_cons_zero, List.set_cons_succ]
  refine calm_call 25 #[.agg N.toArray] (by rfl) (fun w' => by go_simp) (fun w' h => (hbyt.out _ _ _ _ h)) ?_
  try simp only [Act.put, List.setIfInBounds_toArray, List.set_cons_zero, List.set_cons_succ]
  refine calm_pure (v := ?cv123) (by rfl) (fun w' => ?ch123) ?cr123
  case ch123 => (go_simp; first | done | with_reducible rfl)
  try simp only [Act.put, List.setIfInBounds_toArray, List.set_cons_zero, List.set_cons_succ]
  refine calm_pure (v := ?cv126) (by rfl) (fun w' => ?ch126) ?cr126
  case ch126 => (go_simp; first | done | with_reducible rfl)
  try simp only [Act.put, List.setIfInBounds_toArray, List.set_cons_zero, List.set_cons_succ]
  refine calm_pure (v := ?cv129) (by rfl) (fun w' => ?ch129) ?cr129
  case ch129 => (go_simp; first | done | with_reducible rfl)
  try simp only [Act.put, List.setIfInBounds_toArray, List.set_cons_zero, List.set_cons_succ]
  refine calm_pure (v := ?cv132) (by rfl) (fun w' => ?ch132) ?cr132
  case ch132 => (go_simp; first | done | with_reducible rfl)
  try simp only [Act.put, List.setIfInBounds_toArray, List.set_cons_zero, List.set_cons_succ]
  refine calm_call 26 #[.pointer (some ⟨w1.heap.size, 0, none⟩)] (by rfl) (fun w' => by go_simp) (fun w' h => (hlen.out _ _ _ _ h)) ?_
  try simp only [Act.put, List.setIfInBounds_toArray, List.set_cons_zero, List.set_cons_succ]
  refine calm_pure (v := ?cv137) (by rfl) (fun w' => ?ch137) ?cr137
  case ch137 => (go_simp; first | done | with_reducible rfl)
  try simp only [Act.put, List.setIfInBounds_toArray, List.set_cons_zero, List.set_cons_succ]
  refine calm_pure (v := ?cv140) (by rfl) (fun w' => ?ch140) ?cr140
  case ch140 => (go_simp; first | done | with_reducible rfl)
  try simp only [Act.put, List.setIfInBounds_toArray, List.set_cons_zero, List.set_cons_succ]
  refine calm_pure (v := ?cv143) (by rfl) (fun w' => ?ch143) ?cr143
  case ch143 => (go_simp; first | done | with_reducible rfl)
  try simp only [Act.put, List.setIfInBounds_toArray, List.set_cons_zero, List.set_cons_succ]
  refine calm_load 26 _ (w8.heap.size) 0 (N) _ (by rfl) rfl rfl (fun w' h => (h.box (w8.heap.size, N) (by simp)).range) Tryd.underlying26 rfl (by first | exact hMi.out | exact hNi.out | exact hCi.out | exact hDi.out | kernel_rfl) ?_
  try simp only [Act.put, List.setIfInBounds_toArray, List.set_cons_zero, List.set_cons_succ]
  refine calm_load 26 _ (w3.heap.size) 0 (N) _ (by rfl) rfl rfl (fun w' h => (h.box (w3.heap.size, N) (by simp)).range) Tryd.underlying26 rfl (by first | exact hMi.out | exact hNi.out | exact hCi.out | exact hDi.out | kernel_rfl) ?_
  try simp only [Act.put, List.setIfInBounds_toArray, List.set_cons_zero, List.set_cons_succ]
  have heq' := heq.out
  refine calm_pure (v := ?cv151) (by rfl) (fun w' => ?ch151) ?cr151
  case ch151 => (go_simp; first | done | with_reducible rfl)
  try simp only [Act.put, List.setIfInBounds_toArray, List.set_cons_zero, List.set_cons_succ]
  clear heq'
  refine calm_pure (v := ?cv155) (by rfl) (fun w' => ?ch155) ?cr155
  case ch155 => (go_simp; first | done | with_reducible rfl)
  try simp only [Act.put, List.setIfInBounds_toArray, List.set_cons_zero, List.set_cons_succ]
  refine calm_pure (v := ?cv158) (by rfl) (fun w' => ?ch158) ?cr158
  case ch158 => (go_simp; first | done | with_reducible rfl)
  try simp only [Act.put, List.setIfInBounds_toArray, List.set_cons_zero, List.set_cons_succ]
  refine calm_pure (v := ?cv161) (by rfl) (fun w' => ?ch161) ?cr161
  case ch161 => (go_simp; first | done | with_reducible rfl)
  try simp only [Act.put, List.setIfInBounds_toArray, List.set_cons_zero, List.set_cons_succ]
  refine calm_call 27 #[.pointer (some ⟨q, 0, none⟩)] (by rfl) (fun w' => by go_simp) (fun w' h => (hleft.out _ _ _ _ h)) ?_
  try simp only [Act.put, List.setIfInBounds_toArray, List.set_cons_zero, List.set_cons_succ]
  refine calm_pure (v := ?cv166) (by rfl) (fun w' => ?ch166) ?cr166
  case ch166 => (go_simp; first | done | with_reducible rfl)
  try simp only [Act.put, List.setIfInBounds_toArray, List.set_cons_zero, List.set_cons_succ]
  refine calm_pure (v := ?cv169) (by rfl) (fun w' => ?ch169) ?cr169
  case ch169 => (go_simp; first | done | with_reducible rfl)
  try simp only [Act.put, List.setIfInBounds_toArray, List.set_cons_zero, List.set_cons_succ]
  refine calm_pure (v := ?cv172) (by rfl) (fun w' => ?ch172) ?cr172
  case ch172 => (go_simp; first | done | with_reducible rfl)
  try simp only [Act.put, List.setIfInBounds_toArray, List.set_cons_zero, List.set_cons_succ]
  refine calm_pure (v := ?cv175) (by rfl) (fun w' => ?ch175) ?cr175
  case ch175 => (go_simp; first | done | with_reducible rfl)
  try simp only [Act.put, List.setIfInBounds_toArray, List.set_cons_zero, List.set_cons_succ]
  refine calm_pure (v := ?cv178) (by rfl) (fun w' => ?ch178) ?cr178
  case ch178 => (go_simp; first | done | with_reducible rfl)
  try simp only [Act.put, List.setIfInBounds_toArray, List.set_cons_zero, List.set_cons_succ]
  intro w9 hm9
  go_wp2
  go_ret
  exact ⟨rfl, hm9.bel⟩
set_option maxRecDepth 100000 in
set_option maxHeartbeats 4000000 in
theorem xferBytes_any (L : LandedXf Mo Wr Rd) (K : LandedWr Wr) (R : LandedRd Rd) (a : Tran) (ha : a.Wf) (s : ByteArray) (hs : s.size ≤ 140737488351232) (w : World) (hM : Mo w) :
    Calls Tryd.prog 6 #[tranV a, .string s] w fun e w' => e = .returned (.bool true) ∧ Below w.heap.size w w' := by
  have hm0 := (Hx.refl hM).new L.later a.cells 26
  have hal := Lib.hid (fun W (h : Hx Mo w W [(w.heap.size, a.cells)]) => h.ask L.later (xferAlive_any L W h.mo))
  have hg1 := Lib.hid (fun W (h : Hx Mo w W [(w.heap.size, a.cells)]) => (h.box _ (List.mem_cons_self ..)).tran h)
  by_cases h3 : 100 < s.size
  · rw [tranV_eq]
    go_enter Tryd.func6, Tryd.ntmps6
    go_wp2_with fail
    refine (hal.out _ hm0).mono ?_
    rintro e w1 ⟨rfl, hm1⟩
    go_wp2
    go_ret
    exact ⟨rfl, hm1.bel⟩
  · cases hgd : goodT a with
    | true => exact xferBytes_true L K R a ha s hs w hM h3 hgd
    | false => exact xferBytes_false L K R a ha s hs w hM h3 hgd
end
end Go.Proofs.YtlalkfebedjlgaaDoor
