/- Stage 22: the document's bytes of a tick and of a filter. No condition but sizes. -/
import Derived.Test.YtcailaeebheaoaaZCalm
import Derived.Test.YtcailaeebheaoaaZWqj
import Derived.Test.YtcailaeebheaoaaZWqu
namespace Go.Proofs.Ytcailaeebheaoaa
open Go.RowKit Go.Sort Wm Cr

theorem refFlag_any (b : Bool) (W : World) : Calls Try.prog 41 #[.bool b] W fun e w2 => e = .returned (.string (yesB b)) ∧ Below W.heap.size W w2 := by
  cases b
  · go_enter Try.func41, Try.ntmps41
    go_wp2
    go_ret
    exact ⟨rfl, Below.refl _ _⟩
  · go_enter Try.func41, Try.ntmps41
    go_wp2
    go_ret
    exact ⟨rfl, Below.refl _ _⟩
set_option maxRecDepth 100000 in
set_option maxHeartbeats 4000000 in
theorem refBytes3_any (q : Req) (s : Reqs) (W : World) (ho : q.Op = 3) : Calls Try.prog 15 #[reqV q s] W fun e w2 => e = .returned (.string (reqB q)) ∧ Below W.heap.size W w2 := by
  have hz := Lib.hid (fun (cs : Array Value) (t : TypeId) => (Below.refl W.heap.size W).alloc (Nat.le_refl _) (.cells cs t))
  have hbx := BoxAt.new W (q.cells s) 31
  have hcs := Lib.hid (fun wx b (h : BoxAt wx b (q.cells s)) => h.req)
  have ki := Lib.hid (fun size n W => refint_any size n W)
  have hlast : reqB q = intB 1 3 ++ intB 8 q.Now := by unfold reqB; rw [ho, bodyQ_3 ho]
  rw [hlast]
  have s1 : (intB 1 3).size = 1 := by rw [intB_size]; rfl
  have s2 : (intB 8 q.Now).size = 8 := by rw [intB_size]; rfl
  clear hlast
  obtain ⟨op, acs, ts, now, ids, ⟨ac, fr, tt, db, cr, la, li⟩⟩ := q
  obtain ⟨sA, sAc, sT, sTc, sI, sIc⟩ := s
  unfold reqV at *
  dsimp only at *
  subst ho
  replace hbx := Lib.hid hbx
  go_enter Try.func15, Try.ntmps15
  go_wp2_with fail
  refine (ki.out _ _ _).mono ?_
  rintro e w2 ⟨rfl, hb2⟩
  obtain ⟨z0, z1, z2, z3, z4, z5, z6, z7, z8, z9, z10, z11, z12, zl⟩ := hcs.out _ _ (hbx.out.later hb2)
  try dsimp only at z0 z1 z2 z3 z4 z5 z6 z7 z8 z9 z10 z11 z12 zl
  have hb3 := (hz.out _ _).trans (hb2.mono (hz.out _ _).size)
  clear hb2 hbx
  go_wp2_with fail
  refine (ki.out _ _ _).mono ?_
  rintro e w3 ⟨rfl, hb4⟩
  have hb0 := Lib.hid (hb3.trans (hb4.mono hb3.size))
  clear hb3 hb4 hcs ki z0 z1 z2 z3 z4 z5 z6 z7 z8 z9 z10 z11 z12 zl
  go_wp2
  go_ret
  exact ⟨rfl, hb0.out⟩
set_option maxRecDepth 100000 in
set_option maxHeartbeats 4000000 in
theorem refBytes6_any (q : Req) (s : Reqs) (W : World) (ho : q.Op = 6) : Calls Try.prog 15 #[reqV q s] W fun e w2 => e = .returned (.string (reqB q)) ∧ Below W.heap.size W w2 := by
  have hz := Lib.hid (fun (cs : Array Value) (t : TypeId) => (Below.refl W.heap.size W).alloc (Nat.le_refl _) (.cells cs t))
  have hbx := BoxAt.new W (q.cells s) 31
  have hcs := Lib.hid (fun wx b (h : BoxAt wx b (q.cells s)) => h.req)
  have ki := Lib.hid (fun size n W => refint_any size n W)
  have s1 : (intB 1 6).size = 1 := by rw [intB_size]; rfl
  obtain ⟨op, acs, ts, now, ids, ⟨ac, fr, tt, db, cr, la, li⟩⟩ := q
  obtain ⟨sA, sAc, sT, sTc, sI, sIc⟩ := s
  unfold reqV at *
  dsimp only at *
  subst ho
  replace hbx := Lib.hid hbx
  go_enter Try.func15, Try.ntmps15
  go_wp2_with fail
  refine (ki.out _ _ _).mono ?_
  rintro e w2 ⟨rfl, hb2⟩
  obtain ⟨z0, z1, z2, z3, z4, z5, z6, z7, z8, z9, z10, z11, z12, zl⟩ := hcs.out _ _ (hbx.out.later hb2)
  try dsimp only at z0 z1 z2 z3 z4 z5 z6 z7 z8 z9 z10 z11 z12 zl
  have hb3 := (hz.out _ _).trans (hb2.mono (hz.out _ _).size)
  clear hb2 hbx
  go_wp2_with fail
  have hF := BoxAt.new w2 [.int .u64 ((hiN ac : Nat) : Int), .int .u64 ((loN ac : Nat) : Int), .int .i64 fr, .int .i64 tt, .bool db, .bool cr, .bool la, .int .i64 li] 29
  have hb4 := hb3.alloc hb3.size (.cells [.int .u64 ((hiN ac : Nat) : Int), .int .u64 ((loN ac : Nat) : Int), .int .i64 fr, .int .i64 tt, .bool db, .bool cr, .bool la, .int .i64 li].toArray 29)
  obtain ⟨w3, hw3⟩ : ∃ w3, w3 = w2.alloc (.cells [.int .u64 ((hiN ac : Nat) : Int), .int .u64 ((loN ac : Nat) : Int), .int .i64 fr, .int .i64 tt, .bool db, .bool cr, .bool la, .int .i64 li].toArray 29) := ⟨_, rfl⟩
  rw [← hw3] at hF hb4 ⊢
  generalize w2.heap.size = bF at *
  have hlast : reqB ⟨6, acs, ts, now, ids, ⟨ac, fr, tt, db, cr, la, li⟩⟩ = intB 1 6 ++ numB ac ++ intB 8 fr ++ intB 8 tt ++ yesB db ++ yesB cr ++ yesB la ++ intB 1 li := by
    unfold reqB
    rw [bodyQ_6 rfl]
    unfold fltB
    simp only [ByteArray.append_assoc]
  replace hlast := Lib.hid hlast
  have y0 := numB_size ac
  have y1 : (intB 8 fr).size = 8 := by rw [intB_size]; rfl
  have y2 : (intB 8 tt).size = 8 := by rw [intB_size]; rfl
  have y3 := yesB_size db
  have y4 := yesB_size cr
  have y5 := yesB_size la
  have y6 : (intB 1 li).size = 1 := by rw [intB_size]; rfl
  have q1 : (intB 1 6 ++ numB ac).size = 17 := by rw [ByteArray.size_append]; omega
  have q2 : (intB 1 6 ++ numB ac ++ intB 8 fr).size = 25 := by rw [ByteArray.size_append]; omega
  have q3 : (intB 1 6 ++ numB ac ++ intB 8 fr ++ intB 8 tt).size = 33 := by rw [ByteArray.size_append]; omega
  have q4 : (intB 1 6 ++ numB ac ++ intB 8 fr ++ intB 8 tt ++ yesB db).size = 34 := by rw [ByteArray.size_append]; omega
  have q5 : (intB 1 6 ++ numB ac ++ intB 8 fr ++ intB 8 tt ++ yesB db ++ yesB cr).size = 35 := by rw [ByteArray.size_append]; omega
  have q6 : (intB 1 6 ++ numB ac ++ intB 8 fr ++ intB 8 tt ++ yesB db ++ yesB cr ++ yesB la).size = 36 := by rw [ByteArray.size_append]; omega
  have hS := And.intro (hF.later (Below.refl _ _).drew) (hb4.trans ((Below.refl _ _).drew.mono hb4.size))
  clear z0 z1 z2 z3 z4 z5 z6 z7 z8 z9 z10 z11 z12 zl hb3 hcs hw3 hF hb4 hz
  refine wp_region_calm (fun w' => BoxAt w' bF [.int .u64 ((hiN ac : Nat) : Int), .int .u64 ((loN ac : Nat) : Int), .int .i64 fr, .int .i64 tt, .bool db, .bool cr, .bool la, .int .i64 li] ∧ Below W.heap.size W w') (by kernel_rfl) (by kernel_rfl) hS ?_
  clear hS
  refine calm_pure (v := ?cv102) (by rfl) (fun w' => ?ch102) ?cr102
  case ch102 => (go_simp; first | done | with_reducible rfl)
  try simp only [Act.put, List.setIfInBounds_toArray, List.set_cons_zero, List.set_cons_succ]
  refine calm_pure (v := ?cv105) (by rfl) (fun w' => ?ch105) ?cr105
  case ch105 => (go_simp; first | done | with_reducible rfl)
  try simp only [Act.put, List.setIfInBounds_toArray, List.set_cons_zero, List.set_cons_succ]
  refine calm_load 27 _ bF 0 [.int .u64 ((hiN ac : Nat) : Int), .int .u64 ((loN ac : Nat) : Int)] _ (by rfl) rfl rfl (fun w' h => range2 (h.1.spot 0 _ rfl) (h.1.spot 1 _ rfl)) Try.underlying27 rfl (by kernel_rfl) ?_
  try simp only [Act.put, List.setIfInBounds_toArray, List.set_cons_zero, List.set_cons_succ]
  refine calm_call 40 #[.agg #[.int .u64 ((hiN ac : Nat) : Int), .int .u64 ((loN ac : Nat) : Int)]] (by rfl) (fun w' => by go_simp) (fun w h => (refbytesN_any ac w).mono (fun e w' ⟨a, b⟩ => ⟨a, h.1.later b, h.2.trans (b.mono h.2.size)⟩)) ?_
  try simp only [Act.put, List.setIfInBounds_toArray, List.set_cons_zero, List.set_cons_succ]
  refine calm_pure (v := ?cv112) (by rfl) (fun w' => ?ch112) ?cr112
  case ch112 => (go_simp; first | done | with_reducible rfl)
  try simp only [Act.put, List.setIfInBounds_toArray, List.set_cons_zero, List.set_cons_succ]
  refine calm_pure (v := ?cv115) (by rfl) (fun w' => ?ch115) ?cr115
  case ch115 => (go_simp; first | done | with_reducible rfl)
  try simp only [Act.put, List.setIfInBounds_toArray, List.set_cons_zero, List.set_cons_succ]
  refine calm_read (v := .int .i64 fr) (by rfl) (fun w' h => ?ch118) ?cr118
  case ch118 => (obtain ⟨hcq, hcl⟩ := (And.intro (h.1.spot 2 _ rfl) h.1.lt); go_simp)
  try simp only [Act.put, List.setIfInBounds_toArray, List.set_cons_zero, List.set_cons_succ]
  refine calm_call 37 #[.int .i64 8, .int .i64 fr] (by rfl) (fun w' => by go_simp) (fun w h => (refint_any 8 fr w).mono (fun e w' ⟨a, b⟩ => ⟨a, h.1.later b, h.2.trans (b.mono h.2.size)⟩)) ?_
  try simp only [Act.put, List.setIfInBounds_toArray, List.set_cons_zero, List.set_cons_succ]
  refine calm_pure (v := ?cv123) (by rfl) (fun w' => ?ch123) ?cr123
  case ch123 => (go_simp; first | done | with_reducible rfl)
  try simp only [Act.put, List.setIfInBounds_toArray, List.set_cons_zero, List.set_cons_succ]
  refine calm_pure (v := ?cv126) (by rfl) (fun w' => ?ch126) ?cr126
  case ch126 => (go_simp; first | done | with_reducible rfl)
  try simp only [Act.put, List.setIfInBounds_toArray, List.set_cons_zero, List.set_cons_succ]
  refine calm_read (v := .int .i64 tt) (by rfl) (fun w' h => ?ch129) ?cr129
  case ch129 => (obtain ⟨hcq, hcl⟩ := (And.intro (h.1.spot 3 _ rfl) h.1.lt); go_simp)
  try simp only [Act.put, List.setIfInBounds_toArray, List.set_cons_zero, List.set_cons_succ]
  refine calm_call 37 #[.int .i64 8, .int .i64 tt] (by rfl) (fun w' => by go_simp) (fun w h => (refint_any 8 tt w).mono (fun e w' ⟨a, b⟩ => ⟨a, h.1.later b, h.2.trans (b.mono h.2.size)⟩)) ?_
  try simp only [Act.put, List.setIfInBounds_toArray, List.set_cons_zero, List.set_cons_succ]
  refine calm_pure (v := ?cv134) (by rfl) (fun w' => ?ch134) ?cr134
  case ch134 => (go_simp; first | done | with_reducible rfl)
  try simp only [Act.put, List.setIfInBounds_toArray, List.set_cons_zero, List.set_cons_succ]
  refine calm_pure (v := ?cv137) (by rfl) (fun w' => ?ch137) ?cr137
  case ch137 => (go_simp; first | done | with_reducible rfl)
  try simp only [Act.put, List.setIfInBounds_toArray, List.set_cons_zero, List.set_cons_succ]
  refine calm_read (v := .bool db) (by rfl) (fun w' h => ?ch140) ?cr140
  case ch140 => (obtain ⟨hcq, hcl⟩ := (And.intro (h.1.spot 4 _ rfl) h.1.lt); go_simp)
  try simp only [Act.put, List.setIfInBounds_toArray, List.set_cons_zero, List.set_cons_succ]
  refine calm_call 41 #[.bool db] (by rfl) (fun w' => by go_simp) (fun w h => (refFlag_any db w).mono (fun e w' ⟨a, b⟩ => ⟨a, h.1.later b, h.2.trans (b.mono h.2.size)⟩)) ?_
  try simp only [Act.put, List.setIfInBounds_toArray, List.set_cons_zero, List.set_cons_succ]
  refine calm_pure (v := ?cv145) (by rfl) (fun w' => ?ch145) ?cr145
  case ch145 => (go_simp; first | done | with_reducible rfl)
  try simp only [Act.put, List.setIfInBounds_toArray, List.set_cons_zero, List.set_cons_succ]
  refine calm_pure (v := ?cv148) (by rfl) (fun w' => ?ch148) ?cr148
  case ch148 => (go_simp; first | done | with_reducible rfl)
  try simp only [Act.put, List.setIfInBounds_toArray, List.set_cons_zero, List.set_cons_succ]
  refine calm_read (v := .bool cr) (by rfl) (fun w' h => ?ch151) ?cr151
  case ch151 => (obtain ⟨hcq, hcl⟩ := (And.intro (h.1.spot 5 _ rfl) h.1.lt); go_simp)
  try simp only [Act.put, List.setIfInBounds_toArray, List.set_cons_zero, List.set_cons_succ]
  refine calm_call 41 #[.bool cr] (by rfl) (fun w' => by go_simp) (fun w h => (refFlag_any cr w).mono (fun e w' ⟨a, b⟩ => ⟨a, h.1.later b, h.2.trans (b.mono h.2.size)⟩)) ?_
  try simp only [Act.put, List.setIfInBounds_toArray, List.set_cons_zero, List.set_cons_succ]
  refine calm_pure (v := ?cv156) (by rfl) (fun w' => ?ch156) ?cr156
  case ch156 => (go_simp; first | done | with_reducible rfl)
  try simp only [Act.put, List.setIfInBounds_toArray, List.set_cons_zero, List.set_cons_succ]
  refine calm_pure (v := ?cv159) (by rfl) (fun w' => ?ch159) ?cr159
  case ch159 => (go_simp; first | done | with_reducible rfl)
  try simp only [Act.put, List.setIfInBounds_toArray, List.set_cons_zero, List.set_cons_succ]
  refine calm_read (v := .bool la) (by rfl) (fun w' h => ?ch162) ?cr162
  case ch162 => (obtain ⟨hcq, hcl⟩ := (And.intro (h.1.spot 6 _ rfl) h.1.lt); go_simp)
  try simp only [Act.put, List.setIfInBounds_toArray, List.set_cons_zero, List.set_cons_succ]
  refine calm_call 41 #[.bool la] (by rfl) (fun w' => by go_simp) (fun w h => (refFlag_any la w).mono (fun e w' ⟨a, b⟩ => ⟨a, h.1.later b, h.2.trans (b.mono h.2.size)⟩)) ?_
  try simp only [Act.put, List.setIfInBounds_toArray, List.set_cons_zero, List.set_cons_succ]
  refine calm_pure (v := ?cv167) (by rfl) (fun w' => ?ch167) ?cr167
  case ch167 => (go_simp; first | done | with_reducible rfl)
  try simp only [Act.put, List.setIfInBounds_toArray, List.set_cons_zero, List.set_cons_succ]
  refine calm_pure (v := ?cv170) (by rfl) (fun w' => ?ch170) ?cr170
  case ch170 => (go_simp; first | done | with_reducible rfl)
  try simp only [Act.put, List.setIfInBounds_toArray, List.set_cons_zero, List.set_cons_succ]
  refine calm_read (v := .int .i64 li) (by rfl) (fun w' h => ?ch173) ?cr173
  case ch173 => (obtain ⟨hcq, hcl⟩ := (And.intro (h.1.spot 7 _ rfl) h.1.lt); go_simp)
  try simp only [Act.put, List.setIfInBounds_toArray, List.set_cons_zero, List.set_cons_succ]
  refine calm_call 37 #[.int .i64 1, .int .i64 li] (by rfl) (fun w' => by go_simp) (fun w h => (refint_any 1 li w).mono (fun e w' ⟨a, b⟩ => ⟨a, h.1.later b, h.2.trans (b.mono h.2.size)⟩)) ?_
  try simp only [Act.put, List.setIfInBounds_toArray, List.set_cons_zero, List.set_cons_succ]
  refine calm_pure (v := ?cv178) (by rfl) (fun w' => ?ch178) ?cr178
  case ch178 => (go_simp; first | done | with_reducible rfl)
  try simp only [Act.put, List.setIfInBounds_toArray, List.set_cons_zero, List.set_cons_succ]
  refine calm_pure (v := ?cv181) (by rfl) (fun w' => ?ch181) ?cr181
  case ch181 => (go_simp; first | done | with_reducible rfl)
  try simp only [Act.put, List.setIfInBounds_toArray, List.set_cons_zero, List.set_cons_succ]
  intro w9 hm9
  have hb9 := Lib.hid hm9.2
  clear hm9
  go_wp2
  go_ret
  exact ⟨by rw [hlast.out]; rfl, hb9.out⟩
theorem refBytes22_any (q : Req) (s : Reqs) (W : World) (h : ReqAt W q s) (hg : goodQ q = true) : Calls Try.prog 15 #[reqV q s] W fun e w2 => e = .returned (.string (reqB q)) ∧ Below W.heap.size W w2 := by
  rcases goodQ_ops hg with ho | ho | ho | ho | ho | ho
  · exact refBytes1_any q s W h hg ho
  · exact refBytes2_any q s W h hg ho
  · exact refBytes3_any q s W ho
  · exact refBytes4_any q s W h hg ho
  · exact refBytes5_any q s W h hg ho
  · exact refBytes6_any q s W ho
end Go.Proofs.Ytcailaeebheaoaa
