/- The landed disk: made; and all its calls by the document's machine. No condition but sizes. -/
import Derived.Test.YtgolddcmhjdmdaaZDi
import Derived.Laws.MakeOwn
namespace Go.Proofs.Ytgolddcmhjdmdaa
open Go.RowKit

/-- 'make' whose run is known, as an operation. -/
theorem wp_make_run {P : Program} {o : Oper} {a : Act} {w : World} {K : Act → World → Prop} {Q : Exit → Act → World → Prop} (t : TypeId) (x y : Operand) (ho : o.op = .makeSlice t x y)
    (vx vy : Value) (hx : a.eval x = vx) (hy : a.eval y = vy) (v' : Value) (w' : World) (hr : (Instr.makeSlice t vx vy).run P w = .ok v' w') (h : K (a.put o.dst v') w') : o.wp P a w K Q := by
  unfold Oper.wp execOp
  simp only [ho, hx, hy, Sem.run_bind, hr, Result.andThen_ok]
  exact h
theorem info_sec3 : ∃ ie, Try.prog.info? 76 = some ie ∧ ie.zero = some (.agg (List.replicate 128 (.int .u8 0)).toArray) ∧ ie.size = 128 ∧ ie.bytes = 128 := by
  have h : (Try.prog.info? 76).map (fun i => (i.zero, i.size, i.bytes)) = some (some (.agg (List.replicate 128 (.int .u8 0)).toArray), 128, 128) := by kernel_rfl
  cases hq : Try.prog.info? 76 with
  | none => simp [hq] at h
  | some ie =>
    rw [hq] at h
    simp only [Option.map_some, Option.some.injEq, Prod.mk.injEq] at h
    exact ⟨ie, rfl, h.1, h.2.1, h.2.2⟩
/-- So many blank sectors. -/
def blankC (N : Nat) : Array Value := madeCells (List.replicate 128 (.int .u8 0)).toArray (N * 128)
theorem make_secs (N : Nat) (hN : N ≤ 4096) (w : World) : (Instr.makeSlice 66 (.int .i64 (N : Int)) (.int .i64 (N : Int))).run Try.prog w = .ok (.slice (some ⟨w.heap.size, 0, none⟩) N N) (w.alloc (.cells (blankC N) 76)) := by
  obtain ⟨ie, h1, h2, h3, h4⟩ := info_sec3
  have := run_make (P := Try.prog) w 66 76 ie _ (by kernel_rfl) h1 h2 .i64 .i64 (N : Int) (N : Int) (by omega) (by omega) (by rw [h4]; omega) (by omega)
  rw [this, h3]
  rfl
theorem secs_made (w : World) (N : Nat) : Secs (w.alloc (.cells (blankC N) 76)) w.heap.size (List.replicate N (zerosB 128)) := by
  refine ⟨fun i s hs j v hv => ?_, fun j => by simp [go_sem], by simp, fun s hs => by rw [List.eq_of_mem_replicate hs]; exact zerosB_size 128⟩
  have hi : i < N := by
    have := (List.getElem?_eq_some_iff.1 hs).1
    rwa [List.length_replicate] at this
  rw [List.getElem?_replicate, if_pos hi] at hs
  obtain rfl := Option.some.inj hs
  rw [cellsB_zeros, List.getElem?_replicate] at hv
  split at hv
  · rename_i hj
    obtain rfl := Option.some.inj hv
    rw [cell_of_row _ _ _ _ _ _ (heap_alloc_last w _)]
    unfold blankC madeCells
    rw [Array.getElem?_map, Array.getElem?_range, if_pos (by omega)]
    simp only [Option.map_some, Option.some.injEq]
    have e : ((List.replicate 128 (Value.int .u8 0)).toArray).size = 128 := by rw [List.size_toArray, List.length_replicate]
    have hm : (i * 128 + j) % ((List.replicate 128 (Value.int .u8 0)).toArray).size < ((List.replicate 128 (Value.int .u8 0)).toArray).size := Nat.mod_lt _ (by omega)
    rw [getElem!_pos ((List.replicate 128 (Value.int .u8 0)).toArray) _ hm]
    rw [List.getElem_toArray, List.getElem_replicate]
  · cases hv
theorem new_count (n : Int) : ∃ N : Nat, N ≤ 4096 ∧ nearI n 4096 = (N : Int) ∧ (St.new n).safe = List.replicate N (zerosB 128) := by
  refine ⟨(min (max n 0) 4096).toNat, by omega, by unfold nearI; omega, rfl⟩
/-- A disk that was made. -/
theorem made_dk (n : Int) (N : Nat) (hs : (St.new n).safe = List.replicate N (zerosB 128)) (w w1 : World) (a b p : Nat) (hb : Below w.heap.size w w1) (ha1 : w.heap.size ≤ a) (hb1 : w.heap.size ≤ b) (hp1 : w.heap.size ≤ p) (hab : a ≠ b) (hpa : p ≠ a) (hpb : p ≠ b)
    (s0 : Secs w1 a (List.replicate N (zerosB 128))) (s1 : Secs w1 b (List.replicate N (zerosB 128)))
    (c0 : w1.cell? ⟨p, 0, none⟩ = some (.slice (some ⟨a, 0, none⟩) N N)) (c1 : w1.cell? ⟨p, 1, none⟩ = some (.slice (some ⟨b, 0, none⟩) N N)) (c2 : w1.cell? ⟨p, 2, none⟩ = some (.slice none 0 0)) (c3 : w1.cell? ⟨p, 3, none⟩ = some (.int .i64 0)) (c4 : w1.cell? ⟨p, 4, none⟩ = some (.int .i64 0))
    (fz : ∀ j, w1.frozen? ⟨p, j, none⟩ = false) (hlt : p < w1.heap.size) : DkMade DkIs (St.new n) w (.returned (.pointer (some ⟨p, 0, none⟩))) w1 := by
  refine ⟨p, footD p a b (.slice none 0 0), rfl, ⟨a, b, .slice none 0 0, ?_, fun _ => Iff.rfl⟩, fun k hk => ?_, hb⟩
  · rw [nowL_blank (St.new n) rfl, hs, List.length_replicate]
    exact ⟨c0, c1, c2, c3, c4, fz, hlt, s0, s1, World.ownsRow_nil _ _ _ _, List.length_replicate, List.length_replicate, hab, hpa, hpb, by simp [Value.ownBlock], by simp [Value.ownBlock], by simp [Value.ownBlock]⟩
  · rcases hk with rfl | rfl | rfl | hk
    · exact hp1
    · exact ha1
    · exact hb1
    · simp [Value.ownBlock] at hk
set_option maxRecDepth 100000 in
set_option maxHeartbeats 1000000 in
theorem dk_new (n : Int) (W : World) : Calls Try.prog 14 #[.int .i64 n] W (DkMade DkIs (St.new n) W) := by
  obtain ⟨N, hN, hnr, hs⟩ := new_count n
  have hnear := Lib.hid (fun w => nearP_any n 4096 w)
  rw [hnr] at hnear
  have hmk := Lib.hid (make_secs N hN)
  replace hs := Lib.hid hs
  clear hnr
  go_enter Try.func14, Try.ntmps14
  go_wp2_with fail
  refine (hnear.out _).mono ?_
  rintro e w1 ⟨rfl, rfl⟩
  go_wp2
  refine wp_region_any (by kernel_rfl) ?_
  change wpAny _ _ _ _ _ _ _ W.drew
  refine wpAny_take (i := 0) (oi := { dst := some 6, op := Op.move (Operand.tmp 3), type := 3, pos := "platter.go:30", after := #[], guard := none }) (v := .int .i64 (N : Int)) rfl (by kernel_rfl) (by kernel_rfl) (by kernel_rfl) (fun _ _ _ h => h) (Or.inl ⟨by rfl, fun w => by go_simp⟩) ?_
  simp only [Act.put, List.setIfInBounds_toArray, List.set_cons_zero, List.set_cons_succ]
  refine wpAny_take (i := 2) (oi := { dst := some 8, op := Op.move (Operand.tmp 3), type := 3, pos := "platter.go:30", after := #[], guard := none }) (v := .int .i64 (N : Int)) rfl (by kernel_rfl) (by kernel_rfl) (by kernel_rfl) (fun _ _ _ h => h) (Or.inl ⟨by rfl, fun w => by go_simp⟩) ?_
  simp only [Act.put, List.setIfInBounds_toArray, List.set_cons_zero, List.set_cons_succ]
  refine wpAny_ready (rs := [1, 3]) (by kernel_rfl) (by simp) (AllReady.cons (o := { dst := some 7, op := Op.makeSlice 66 (Operand.tmp 6) (Operand.tmp 6), type := 66, pos := "platter.go:30", after := #[{ on := 0, ground := Ground.data }, { on := 0, ground := Ground.data }], guard := none }) rfl (fun K hK => ?_)
    (AllReady.cons (o := { dst := some 9, op := Op.makeSlice 66 (Operand.tmp 8) (Operand.tmp 8), type := 66, pos := "platter.go:30", after := #[{ on := 2, ground := Ground.data }, { on := 2, ground := Ground.data }], guard := none }) rfl (fun K hK => ?_) AllReady.nil))
  · rw [if_pos (by rfl)]
    refine wp_make_run _ _ _ rfl _ _ rfl rfl _ _ (hmk.out _) (hK _ _ ?_)
    clear hK K
    simp only [Act.put, List.setIfInBounds_toArray, List.set_cons_zero, List.set_cons_succ]
    refine wpAny_seq 3 (by kernel_rfl) (by kernel_rfl) ?_
    simp only [List.drop_succ_cons, List.drop_zero]
    refine wpList_make_run _ rfl _ _ _ rfl _ _ rfl rfl _ _ (hmk.out _) ?_
    simp only [Act.put, List.setIfInBounds_toArray, List.set_cons_zero, List.set_cons_succ]
    have s0 := secs_made W N
    have s1 := secs_made (W.alloc (.cells (blankC N) 76)) N
    generalize blankC N = B at *
    have hb1 : Below W.heap.size W (((W.alloc (.cells B 76)).alloc (.cells B 76))) := ((Below.refl _ _).alloc (Nat.le_refl _) _).alloc (by simp) _
    have hsz : ((W.alloc (.cells B 76)).alloc (.cells B 76)).heap.size = W.heap.size + 1 + 1 := by simp
    have hs1 : (W.alloc (.cells B 76)).heap.size = W.heap.size + 1 := by simp
    replace s0 := s0.keep (G := fun _ => False) (Only.of_below ((Below.refl _ _).alloc (Nat.le_refl _) (.cells B 76))) (fun e => e)
    rw [hs1] at s1
    replace hb1 := Lib.hid hb1
    replace hsz := Lib.hid hsz
    clear hs1
    have hfin := Lib.hid (fun D a b h1 h1' h2 h3 h3' s0 s1 c0 c1 c2 c3 c4 fz => made_dk n N hs.out W ((((W.alloc (.cells B 76)).alloc (.cells B 76)).alloc D).drew) a b (W.heap.size + 1 + 1) (((hb1.out).alloc (by rw [hsz.out]; omega) D).drew) h1 h1' (by omega) h2 h3 h3'
      ((s0 : Secs ((W.alloc (.cells B 76)).alloc (.cells B 76)) a _).keep (G := fun _ => False) (Only.of_below (((Below.refl _ _).alloc (Nat.le_refl _) D).drew)) (fun e => e)) ((s1 : Secs ((W.alloc (.cells B 76)).alloc (.cells B 76)) b _).keep (G := fun _ => False) (Only.of_below (((Below.refl _ _).alloc (Nat.le_refl _) D).drew)) (fun e => e))
      c0 c1 c2 c3 c4 fz (by simp))
    replace s0 := Lib.hid s0
    replace s1 := Lib.hid s1
    go_wp2
    go_ret
    exact hfin.out _ W.heap.size (W.heap.size + 1) (by omega) (by omega) (by omega) (by omega) (by omega) s0.out s1.out (by simp [go_sem]) (by simp [go_sem]) (by simp [go_sem]) (by simp [go_sem]) (by simp [go_sem]) (fun j => by simp [go_sem])
  · rw [if_pos (by rfl)]
    refine wp_make_run _ _ _ rfl _ _ rfl rfl _ _ (hmk.out _) (hK _ _ ?_)
    clear hK K
    simp only [Act.put, List.setIfInBounds_toArray, List.set_cons_zero, List.set_cons_succ]
    refine wpAny_ready (rs := [1]) (by kernel_rfl) (by simp) (AllReady.cons (o := { dst := some 7, op := Op.makeSlice 66 (Operand.tmp 6) (Operand.tmp 6), type := 66, pos := "platter.go:30", after := #[{ on := 0, ground := Ground.data }, { on := 0, ground := Ground.data }], guard := none }) rfl (fun K hK => ?_) AllReady.nil)
    rw [if_pos (by rfl)]
    refine wp_make_run _ _ _ rfl _ _ rfl rfl _ _ (hmk.out _) (hK _ _ ?_)
    clear hK K
    simp only [Act.put, List.setIfInBounds_toArray, List.set_cons_zero, List.set_cons_succ]
    refine wpAny_seq 4 (by kernel_rfl) (by kernel_rfl) ?_
    simp only [List.drop_succ_cons, List.drop_zero]
    have s0 := secs_made W N
    have s1 := secs_made (W.alloc (.cells (blankC N) 76)) N
    generalize blankC N = B at *
    have hb1 : Below W.heap.size W (((W.alloc (.cells B 76)).alloc (.cells B 76))) := ((Below.refl _ _).alloc (Nat.le_refl _) _).alloc (by simp) _
    have hsz : ((W.alloc (.cells B 76)).alloc (.cells B 76)).heap.size = W.heap.size + 1 + 1 := by simp
    have hs1 : (W.alloc (.cells B 76)).heap.size = W.heap.size + 1 := by simp
    replace s0 := s0.keep (G := fun _ => False) (Only.of_below ((Below.refl _ _).alloc (Nat.le_refl _) (.cells B 76))) (fun e => e)
    rw [hs1] at s1
    replace hb1 := Lib.hid hb1
    replace hsz := Lib.hid hsz
    clear hs1
    have hfin := Lib.hid (fun D a b h1 h1' h2 h3 h3' s0 s1 c0 c1 c2 c3 c4 fz => made_dk n N hs.out W ((((W.alloc (.cells B 76)).alloc (.cells B 76)).alloc D).drew) a b (W.heap.size + 1 + 1) (((hb1.out).alloc (by rw [hsz.out]; omega) D).drew) h1 h1' (by omega) h2 h3 h3'
      ((s0 : Secs ((W.alloc (.cells B 76)).alloc (.cells B 76)) a _).keep (G := fun _ => False) (Only.of_below (((Below.refl _ _).alloc (Nat.le_refl _) D).drew)) (fun e => e)) ((s1 : Secs ((W.alloc (.cells B 76)).alloc (.cells B 76)) b _).keep (G := fun _ => False) (Only.of_below (((Below.refl _ _).alloc (Nat.le_refl _) D).drew)) (fun e => e))
      c0 c1 c2 c3 c4 fz (by simp))
    replace s0 := Lib.hid s0
    replace s1 := Lib.hid s1
    go_wp2
    go_ret
    exact hfin.out _ (W.heap.size + 1) W.heap.size (by omega) (by omega) (by omega) (by omega) (by omega) s1.out s0.out (by simp [go_sem]) (by simp [go_sem]) (by simp [go_sem]) (by simp [go_sem]) (by simp [go_sem]) (fun j => by simp [go_sem])
set_option maxRecDepth 100000 in
set_option maxHeartbeats 1000000 in
theorem dk_sync (F : Nat → Prop) (W : World) (p : Nat) (st : St) (h : DkIs F W p st) (hok : st.Ok) :
    Calls Try.prog 36 #[.pointer (some ⟨p, 0, none⟩)] W fun e W' => e = .returned (.int .i64 st.sync.1) ∧ DkPost DkIs F p st.sync.2 W W' := by
  obtain ⟨a, b, v, hV, hF⟩ := h
  have hn1 : 0 ≤ max st.arm 0 ∧ max st.arm 0 ≤ 9223372036854775807 := by have := hok.arm; omega
  by_cases hfail : st.fails = true
  · have hw := Lib.hid (show st.sync = (8, st.tried) by unfold St.sync; rw [if_pos hfail])
    rw [hw.out]
    have ht := tried_post hV hok.ops hn1
    rw [armed_fails, hfail] at ht
    have hdk := Lib.hid (fun W' => tried_dk (W := W) (W' := W') (st := st) hF)
    replace ht := Lib.hid ht
    clear hw hfail hn1 hV hok
    go_enter Try.func36, Try.ntmps36
    go_wp2_with fail
    refine (ht.out).mono ?_
    rintro e w2 ⟨rfl, hP⟩
    have hfin := Lib.hid (hdk.out _ hP)
    clear hP hdk
    go_wp2
    go_ret
    exact ⟨rfl, hfin.out⟩
  · have hw : st.sync = (0, st.tried.crash allOnes (-1) 0) := by unfold St.sync; rw [if_neg hfail]
    rw [hw]
    refine (syncD_any hV hok.ops hn1 (by rw [armed_fails, Bool.eq_false_iff.mpr hfail]; rfl) hok.data hok.few).mono ?_
    rintro e W' ⟨rfl, k1, k2⟩
    refine ⟨rfl, footD p a b (.slice none 0 0), ⟨a, b, .slice none 0 0, ?_, fun _ => Iff.rfl⟩, k2.mono (fun j _ e => (hF j).2 e), fun j hj e => (hF j).2 ?_⟩
    · rw [nowL_blank (st.tried.crash allOnes (-1) 0) rfl, crash_length]
      show DkV W' p a b (.slice none 0 0) st.safe.length (lasting allOnes (-1) 0 0 st.later st.safe) (lasting allOnes (-1) 0 0 st.later st.safe) [] (max st.tried.arm 0) (st.ops + 1)
      rw [armed_tried, ← nowL_synced] at k1
      exact k1
    · rcases e with e | e | e | e
      · exact .inl e
      · exact .inr (.inl e)
      · exact .inr (.inr (.inl e))
      · simp [Value.ownBlock] at e
theorem dk_crash (F : Nat → Prop) (W : World) (p : Nat) (st : St) (mask : Nat) (torn cut : Int) (h : DkIs F W p st) (hok : st.Ok) (hm : mask < 18446744073709551616) :
    Calls Try.prog 19 #[.pointer (some ⟨p, 0, none⟩), .int .u64 ((mask : Nat) : Int), .int .i64 torn, .int .i64 cut] W fun e W' => e = .returned (.tuple #[]) ∧ DkPost DkIs F p (st.crashed mask torn cut) W W' := by
  obtain ⟨a, b, v, hV, hF⟩ := h
  refine (crashD_any hV hok.data hok.few mask hm torn cut (cover_crash st mask torn (cutC cut))).mono ?_
  rintro e W' ⟨rfl, k1, k2⟩
  refine ⟨rfl, footD p a b (.slice none 0 0), ⟨a, b, .slice none 0 0, ?_, fun _ => Iff.rfl⟩, k2.mono (fun j _ e => (hF j).2 e), fun j hj e => (hF j).2 ?_⟩
  · rw [nowL_blank (st.crashed mask torn cut) rfl]
    show DkV W' p a b (.slice none 0 0) (lasting mask torn (cutC cut) 0 st.later st.safe).length (lasting mask torn (cutC cut) 0 st.later st.safe) (lasting mask torn (cutC cut) 0 st.later st.safe) [] 0 st.ops
    rw [lasting_length]
    exact k1
  · rcases e with e | e | e | e
    · exact .inl e
    · exact .inr (.inl e)
    · exact .inr (.inr (.inl e))
    · simp [Value.ownBlock] at e
theorem read_same (st : St) (i : Int) : readS (nowL st) st.safe.length i = rdS st i ∧ readE st.safe.length i = rdE st i := by
  unfold readS readE rdS rdE
  by_cases h : 0 ≤ i ∧ i < (st.safe.length : Int)
  · rw [if_pos ((hasB_iff _ _).2 h), if_pos h, if_pos ((hasB_iff _ _).2 h), if_pos h]
    refine ⟨?_, rfl⟩
    rw [List.getD_eq_getElem?_getD, nowL_at st i.toNat (by omega)]
    rfl
  · rw [if_neg (fun e => h ((hasB_iff _ _).1 e)), if_neg h, if_neg (fun e => h ((hasB_iff _ _).1 e)), if_neg h]
    exact ⟨rfl, rfl⟩
/-- The landed disk keeps all that the walks ask of it. -/
theorem landedDk : LandedDk DkIs where
  near := fun F W p st h => h.near
  keep := fun F G W W' p st h hO hG => h.keep hO hG
  new := fun n W _ _ => dk_new n W
  read := fun F W p st i h hok => by
    obtain ⟨a, b, v, hV, hF⟩ := h
    refine (readD_any hV i).mono ?_
    rintro e W' ⟨rfl, rfl⟩
    exact ⟨by rw [(read_same st i).1, (read_same st i).2], Below.refl _ _⟩
  write := fun F W p st i s h hok hs => dk_write F W p st i s h hok hs
  sync := fun F W p st h hok => dk_sync F W p st h hok
  crash := fun F W p st mask torn cut h hok hm => dk_crash F W p st mask torn cut h hok hm
  arm := fun F W p st n h hok => by
    obtain ⟨a, b, v, hV, hF⟩ := h
    refine (armD_any hV n).mono ?_
    rintro e W' ⟨rfl, rfl⟩
    refine ⟨rfl, F, ⟨a, b, v, ?_, hF⟩, (Only.refl F W).setCell (fun _ => (hF p).2 (.inl rfl)) _, fun _ _ e => e⟩
    have := hV.put3 (max n 0)
    show DkV _ p a b v st.safe.length st.safe (nowL st) st.later (max (max n 0) 0) st.ops
    rw [show max (max n 0) 0 = max n 0 by omega]
    exact this
  sectors := fun F W p st h hok => by
    obtain ⟨a, b, v, hV, hF⟩ := h
    refine (sectors_any hV).mono ?_
    rintro e W' ⟨rfl, rfl⟩
    exact ⟨rfl, Below.refl _ _⟩
end Go.Proofs.Ytgolddcmhjdmdaa
