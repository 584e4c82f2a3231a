/- Stage 13: the document's First and Without. No condition but sizes. -/
import Derived.Test.YtgdlcfkgdaaooaaPqr
import Derived.Test.YtgdlcfkgdaaooaaCix
namespace Go.Proofs.Ytgdlcfkgdaaooaa
open Go.RowKit Wm

/-- The first that is ahead of all, of those looked at. -/
def FirstAt (m : List Qit) (k : Nat) (i : Int) : Prop := (k = 0 ∧ i = -1) ∨ ∃ b : Nat, b < k ∧ i = (b : Int) ∧ ∀ j, j < k → qle (atQ m b) (atQ m j)
theorem FirstAt.one (m : List Qit) : FirstAt m 1 0 := .inr ⟨0, by omega, rfl, fun j hj => by
  have : j = 0 := by omega
  subst this; exact qle_refl _⟩
theorem FirstAt.new {m : List Qit} {k b : Nat} (hm : ∀ j, j < k → qle (atQ m b) (atQ m j)) (h : qahead (atQ m k) (atQ m b) = true) : FirstAt m (k + 1) (k : Int) := .inr ⟨k, by omega, rfl, fun j hj => by
  by_cases e : j = k
  · subst e; exact qle_refl _
  · exact qle_trans (qle_of_ahead h) (hm j (by omega))⟩
theorem FirstAt.old {m : List Qit} {k b : Nat} (hb : b < k) (hm : ∀ j, j < k → qle (atQ m b) (atQ m j)) (h : qahead (atQ m k) (atQ m b) = false) : FirstAt m (k + 1) (b : Int) := .inr ⟨b, by omega, rfl, fun j hj => by
  by_cases e : j = k
  · subst e; exact h
  · exact hm j (by omega)⟩
/-- What First answers, of a row without a stamp twice. -/
theorem FirstAt.best {m : List Qit} {i : Int} (h : FirstAt m m.length i) (ho : OnceQ m) : (bestQ m = none ∧ i = -1) ∨ ∃ b : Nat, ∃ hb : b < m.length, i = (b : Int) ∧ bestQ m = some m[b] := by
  rcases h with ⟨h0, rfl⟩ | ⟨b, hb, rfl, hl⟩
  · left
    rw [List.eq_nil_of_length_eq_zero h0]
    exact ⟨rfl, rfl⟩
  · right
    refine ⟨b, hb, rfl, bestQ_is ho (List.getElem_mem hb) (fun y hy => ?_)⟩
    obtain ⟨j, hj, rfl⟩ := List.mem_iff_getElem.1 hy
    have := hl j hj
    rw [atQ_get hb, atQ_get hj] at this
    exact this
section
set_option maxRecDepth 100000 in
set_option maxHeartbeats 2000000 in
theorem refFirst_any {W : World} {v : Value} {t : List Qit} (h : RefRow W v t) (hn : t.length ≤ 50000) :
    Calls Try.prog 13 #[v] W fun e W' => (∃ i, e = .returned (.int .i64 i) ∧ FirstAt t t.length i) ∧ Below W.heap.size W W' := by
  have hrow := Lib.hid (fun (W' : World) (hb : Below W.heap.size W W') => (Only.of_below (F := fun _ => False) hb).row h (fun _ _ e => e))
  rcases own_spot h with ⟨rfl, h0⟩ | ⟨g, c, rfl, hg, hc, -⟩
  · have ht : t = [] := List.eq_nil_of_length_eq_zero h0
    subst ht
    clear h h0
    go_enter Try.func13, Try.ntmps13
    go_wp2_with fail
    go_loopw [3, 8] (fun bv iv wr => bv = .int .i64 (-1) ∧ iv = .int .i64 0 ∧ W = wr) (fun _ _ _ => 0)
    case atStart => exact ⟨rfl, rfl, rfl⟩
    case round =>
      obtain ⟨rfl, rfl, rfl⟩ := hrel
      go_wp2
      go_ret
      exact ⟨⟨-1, rfl, .inl ⟨rfl, rfl⟩⟩, Below.refl _ _⟩
  · clear h
    go_enter Try.func13, Try.ntmps13
    go_wp2_with fail
    go_loopw [3, 8] (fun bv iv wr => ∃ (i : Nat) (b : Int), i ≤ t.length ∧ iv = .int .i64 i ∧ bv = .int .i64 b ∧ FirstAt t i b ∧ Below W.heap.size W wr) (fun _ iv _ => (t.length - RowKit.intOf iv).toNat)
    case atStart => exact ⟨0, -1, by omega, rfl, rfl, .inl ⟨rfl, rfl⟩, Below.refl _ _⟩
    case round =>
      obtain ⟨i, b, hi, rfl, rfl, hF, hb⟩ := hrel
      by_cases hlt : i < t.length
      · have hix := Lib.hid (fun w => run_idx_ref g t.length c i hlt w)
        have hrg := Lib.hid (rowK_range refK (hrow.out wr hb) i hlt)
        have hltI : ((i : Nat) : Int) < ((t.length : Nat) : Int) := by omega
        rw [← atQ_get hlt] at hrg
        have hi4 := Lib.hid (show (Try.prog.info? 39).map (·.size) = some (atQ t i).cells.length by kernel_rfl)
        have hi5 := Lib.hid (show (Try.prog.info? 39).map (·.size) = some (atQ t i).cells.toArray.size by kernel_rfl)
        have hone := Lib.hid (all_oneCell_toArray (refK.one (atQ t i)))
        have hcz : ∀ z : Array Value, z.size = 4 → z.size = (atQ t i).cells.toArray.size := fun z h => h
        replace hcz := Lib.hid hcz
        obtain ⟨W2, hW2⟩ : ∃ W2, W2 = wr.alloc (.cells (atQ t i).cells.toArray 39) := ⟨_, rfl⟩
        have hb2 : Below wr.heap.size wr W2 := by rw [hW2]; exact (Below.refl _ _).alloc (Nat.le_refl _) _
        have hbx : BoxAt W2 wr.heap.size (atQ t i).cells := by rw [hW2]; exact BoxAt.new wr _ _
        have hdu : W2.cell? ⟨wr.heap.size, 0, none⟩ = some (.int .i64 (atQ t i).Due) := hbx.spot 0 _ rfl
        have hst : W2.cell? ⟨wr.heap.size, 1, none⟩ = some (.int .i64 (atQ t i).Stamp) := hbx.spot 1 _ rfl
        have lx := hbx.lt
        have hb3 := hb.trans (hb2.mono hb.size)
        have hbe := Lib.hid (fun n => (show Below W.heap.size W (W2.drewN n) from hb3.trans ⟨rfl, rfl, rfl, Nat.le_refl _, fun _ _ => rfl⟩))
        replace hW2 := Lib.hid hW2
        have hrow2 := hrow.out W2 hb3
        clear hb hb2 hb3 hrow hbx
        rcases hF with ⟨h0, rfl⟩ | ⟨b, hbi, rfl, hmin⟩
        · have hbl : decide ((-1 : Int) < 0) = true := rfl
          have hnew := Lib.hid (show ∃ (i' : Nat) (b' : Int), i' ≤ t.length ∧ Value.int .i64 ((i : Int) + 1) = .int .i64 i' ∧ Value.int .i64 (i : Int) = .int .i64 b' ∧ FirstAt t i' b' from ⟨i + 1, i, by omega, by go_num, rfl, by subst h0; exact FirstAt.one t⟩)
          clear hrow2 h0
          generalize (atQ t i).Due = xd at *
          generalize (atQ t i).Stamp = xs at *
          generalize (atQ t i).cells = X at *
          go_upto_region 5 with (first
            | (refine wpList_index_run rfl 29 (.tmp 6) (.tmp 8) rfl (.slice (some ⟨g, 0, none⟩) t.length c) (.int .i64 (i : Int)) _ rfl rfl (hix.out _) ?_)
            | (refine wpList_load_midg rfl 39 (.tmp 11) rfl g (i * 4) rfl X _ hrg.out Try.underlying39 rfl hi4.out ?_)
            | (refine wpList_store_new rfl 39 (.tmp 5) (.tmp 12) rfl wr _ X.toArray rfl rfl rfl hi5.out (hcz.out _ rfl) hone.out ?_; rw [← hW2.out]))
          refine wp_region_calm (fun w' => Below W.heap.size W w') (by kernel_rfl) (by kernel_rfl) (hbe.out 1) ?_
          refine calm_pure (v := ?cv90) (by rfl) (fun w' => ?ch90) ?cr90
          case ch90 => (go_simp; first | done | with_reducible rfl)
          try simp only [Act.put, List.setIfInBounds_toArray, List.set_cons_zero, List.set_cons_succ]
          refine calm_pure (v := ?cv93) (by rfl) (fun w' => ?ch93) ?cr93
          case ch93 => (go_simp; first | done | with_reducible rfl)
          try simp only [Act.put, List.setIfInBounds_toArray, List.set_cons_zero, List.set_cons_succ]
          refine calm_pure (v := ?cv96) (by rfl) (fun w' => ?ch96) ?cr96
          case ch96 => (go_simp; first | done | with_reducible rfl)
          try simp only [Act.put, List.setIfInBounds_toArray, List.set_cons_zero, List.set_cons_succ]
          refine calm_skip (by rfl) ?_
          try simp only [Act.put, List.setIfInBounds_toArray, List.set_cons_zero, List.set_cons_succ]
          refine calm_skip (by rfl) ?_
          try simp only [Act.put, List.setIfInBounds_toArray, List.set_cons_zero, List.set_cons_succ]
          refine calm_skip (by rfl) ?_
          try simp only [Act.put, List.setIfInBounds_toArray, List.set_cons_zero, List.set_cons_succ]
          refine calm_skip (by rfl) ?_
          try simp only [Act.put, List.setIfInBounds_toArray, List.set_cons_zero, List.set_cons_succ]
          refine calm_skip (by rfl) ?_
          try simp only [Act.put, List.setIfInBounds_toArray, List.set_cons_zero, List.set_cons_succ]
          refine calm_skip (by rfl) ?_
          try simp only [Act.put, List.setIfInBounds_toArray, List.set_cons_zero, List.set_cons_succ]
          refine calm_skip (by rfl) ?_
          try simp only [Act.put, List.setIfInBounds_toArray, List.set_cons_zero, List.set_cons_succ]
          refine calm_skip (by rfl) ?_
          try simp only [Act.put, List.setIfInBounds_toArray, List.set_cons_zero, List.set_cons_succ]
          refine calm_pure (v := ?cv115) (by rfl) (fun w' => ?ch115) ?cr115
          case ch115 => (go_simp; first | done | with_reducible rfl)
          try simp only [Act.put, List.setIfInBounds_toArray, List.set_cons_zero, List.set_cons_succ]
          refine calm_pure (v := ?cv118) (by rfl) (fun w' => ?ch118) ?cr118
          case ch118 => (go_simp; first | done | with_reducible rfl)
          try simp only [Act.put, List.setIfInBounds_toArray, List.set_cons_zero, List.set_cons_succ]
          refine calm_skip (by rfl) ?_
          try simp only [Act.put, List.setIfInBounds_toArray, List.set_cons_zero, List.set_cons_succ]
          refine calm_skip (by rfl) ?_
          try simp only [Act.put, List.setIfInBounds_toArray, List.set_cons_zero, List.set_cons_succ]
          refine calm_skip (by rfl) ?_
          try simp only [Act.put, List.setIfInBounds_toArray, List.set_cons_zero, List.set_cons_succ]
          refine calm_skip (by rfl) ?_
          try simp only [Act.put, List.setIfInBounds_toArray, List.set_cons_zero, List.set_cons_succ]
          refine calm_skip (by rfl) ?_
          try simp only [Act.put, List.setIfInBounds_toArray, List.set_cons_zero, List.set_cons_succ]
          refine calm_skip (by rfl) ?_
          try simp only [Act.put, List.setIfInBounds_toArray, List.set_cons_zero, List.set_cons_succ]
          refine calm_skip (by rfl) ?_
          try simp only [Act.put, List.setIfInBounds_toArray, List.set_cons_zero, List.set_cons_succ]
          refine calm_skip (by rfl) ?_
          try simp only [Act.put, List.setIfInBounds_toArray, List.set_cons_zero, List.set_cons_succ]
          refine calm_skip (by rfl) ?_
          try simp only [Act.put, List.setIfInBounds_toArray, List.set_cons_zero, List.set_cons_succ]
          refine calm_skip (by rfl) ?_
          try simp only [Act.put, List.setIfInBounds_toArray, List.set_cons_zero, List.set_cons_succ]
          refine calm_skip (by rfl) ?_
          try simp only [Act.put, List.setIfInBounds_toArray, List.set_cons_zero, List.set_cons_succ]
          refine calm_skip (by rfl) ?_
          try simp only [Act.put, List.setIfInBounds_toArray, List.set_cons_zero, List.set_cons_succ]
          refine calm_skip (by rfl) ?_
          try simp only [Act.put, List.setIfInBounds_toArray, List.set_cons_zero, List.set_cons_succ]
          refine calm_skip (by rfl) ?_
          try simp only [Act.put, List.setIfInBounds_toArray, List.set_cons_zero, List.set_cons_succ]
          refine calm_skip (by rfl) ?_
          try simp only [Act.put, List.setIfInBounds_toArray, List.set_cons_zero, List.set_cons_succ]
          refine calm_skip (by rfl) ?_
          try simp only [Act.put, List.setIfInBounds_toArray, List.set_cons_zero, List.set_cons_succ]
          refine calm_skip (by rfl) ?_
          try simp only [Act.put, List.setIfInBounds_toArray, List.set_cons_zero, List.set_cons_succ]
          refine calm_skip (by rfl) ?_
          try simp only [Act.put, List.setIfInBounds_toArray, List.set_cons_zero, List.set_cons_succ]
          refine calm_pure (v := ?cv157) (by rfl) (fun w' => ?ch157) ?cr157
          case ch157 => (go_simp; first | done | with_reducible rfl)
          try simp only [Act.put, List.setIfInBounds_toArray, List.set_cons_zero, List.set_cons_succ]
          intro w9 hm9
          go_wp2
          obtain ⟨i', b', k1, k2, k3, k4⟩ := hnew.out
          exact ⟨⟨i', b', k1, k2, k3, k4, hm9⟩, by simp [RowKit.intOf]; omega⟩
        · have hbt : b < t.length := by omega
          have hixb := Lib.hid (fun w => run_idx_ref g t.length c b hbt w)
          have rgb := rowK_range refK hrow2 b hbt
          rw [← atQ_get hbt] at rgb
          have c0 : W2.cell? ⟨g, b * 4, none⟩ = some (.int .i64 (atQ t b).Due) := rgb 0 _ rfl
          have c1 : W2.cell? ⟨g, b * 4 + 1, none⟩ = some (.int .i64 (atQ t b).Stamp) := rgb 1 _ rfl
          have lg : g < W2.heap.size := (hrow2.lt g rfl).2
          have hbl : decide (((b : Nat) : Int) < 0) = false := decide_eq_false (by omega)
          have hnew := Lib.hid (fun (q : Bool) (hq : qahead (atQ t i) (atQ t b) = q) => (show ∃ (i' : Nat) (b' : Int), i' ≤ t.length ∧ Value.int .i64 ((i : Int) + 1) = .int .i64 i' ∧ Value.int .i64 (if q = true then (i : Int) else (b : Int)) = .int .i64 b' ∧ FirstAt t i' b' from by
            cases q with
            | true => exact ⟨i + 1, i, by omega, by go_num, rfl, FirstAt.new hmin hq⟩
            | false => exact ⟨i + 1, b, by omega, by go_num, rfl, FirstAt.old hbi hmin hq⟩))
          have hqa := qahead_iff (atQ t i) (atQ t b)
          generalize qahead (atQ t i) (atQ t b) = q at *
          have hnew1 := Lib.hid (hnew.out q rfl)
          clear hrow2 hmin rgb hnew hbt hbi
          generalize (atQ t i).Due = xd at *
          generalize (atQ t i).Stamp = xs at *
          generalize (atQ t b).Due = bd at *
          generalize (atQ t b).Stamp = bs at *
          generalize (atQ t i).cells = X at *
          rcases Int.lt_trichotomy xd bd with e | e | e
          · have hq : q = true := hqa.2 (.inl e)
            subst hq
            have t1 : decide (xd < bd) = true := decide_eq_true e
            clear e hqa
            go_upto_region 5 with (first
              | (refine wpList_index_run rfl 29 (.tmp 6) (.tmp 8) rfl (.slice (some ⟨g, 0, none⟩) t.length c) (.int .i64 (i : Int)) _ rfl rfl (hix.out _) ?_)
              | (refine wpList_load_midg rfl 39 (.tmp 11) rfl g (i * 4) rfl X _ hrg.out Try.underlying39 rfl hi4.out ?_)
              | (refine wpList_store_new rfl 39 (.tmp 5) (.tmp 12) rfl wr _ X.toArray rfl rfl rfl hi5.out (hcz.out _ rfl) hone.out ?_; rw [← hW2.out]))
            refine wp_region_calm (fun w' => w'.cell? ⟨wr.heap.size, 0, none⟩ = some (.int .i64 xd) ∧ w'.cell? ⟨wr.heap.size, 1, none⟩ = some (.int .i64 xs) ∧ wr.heap.size < w'.heap.size ∧ w'.cell? ⟨g, b * 4, none⟩ = some (.int .i64 bd) ∧ w'.cell? ⟨g, b * 4 + 1, none⟩ = some (.int .i64 bs) ∧ g < w'.heap.size ∧ Below W.heap.size W w') (by kernel_rfl) (by kernel_rfl) ⟨hdu, hst, lx, c0, c1, lg, hbe.out 1⟩ ?_
            refine calm_pure (v := ?cv195) (by rfl) (fun w' => ?ch195) ?cr195
            case ch195 => (go_simp; first | done | with_reducible rfl)
            try simp only [Act.put, List.setIfInBounds_toArray, List.set_cons_zero, List.set_cons_succ]
            refine calm_pure (v := ?cv198) (by rfl) (fun w' => ?ch198) ?cr198
            case ch198 => (go_simp; first | done | with_reducible rfl)
            try simp only [Act.put, List.setIfInBounds_toArray, List.set_cons_zero, List.set_cons_succ]
            refine calm_pure (v := ?cv201) (by rfl) (fun w' => ?ch201) ?cr201
            case ch201 => (go_simp; first | done | with_reducible rfl)
            try simp only [Act.put, List.setIfInBounds_toArray, List.set_cons_zero, List.set_cons_succ]
            refine calm_pure (v := ?cv204) (by rfl) (fun w' => ?ch204) ?cr204
            case ch204 => (go_simp; first | done | with_reducible rfl)
            try simp only [Act.put, List.setIfInBounds_toArray, List.set_cons_zero, List.set_cons_succ]
            refine calm_read (v := (.int .i64 xd)) (by rfl) (fun w' h => ?ch207) ?cr207
            case ch207 => (obtain ⟨hcq, hcl⟩ := And.intro h.1 h.2.2.1; go_simp)
            try simp only [Act.put, List.setIfInBounds_toArray, List.set_cons_zero, List.set_cons_succ]
            refine calm_pure (v := ?cv210) (by rfl) (fun w' => ?ch210) ?cr210
            case ch210 => (go_simp; first | done | with_reducible rfl)
            try simp only [Act.put, List.setIfInBounds_toArray, List.set_cons_zero, List.set_cons_succ]
            refine calm_pure (v := ?cv213) (by rfl) (fun w' => ?ch213) ?cr213
            case ch213 => (go_simp; first | done | with_reducible rfl)
            try simp only [Act.put, List.setIfInBounds_toArray, List.set_cons_zero, List.set_cons_succ]
            refine calm_index 29 _ _ (.slice (some ⟨g, 0, none⟩) t.length c) (.int .i64 (b : Int)) _ (by rfl) rfl rfl rfl hixb.out ?_
            try simp only [Act.put, List.setIfInBounds_toArray, List.set_cons_zero, List.set_cons_succ]
            refine calm_pure (v := ?cv218) (by rfl) (fun w' => ?ch218) ?cr218
            case ch218 => (go_simp; first | done | with_reducible rfl)
            try simp only [Act.put, List.setIfInBounds_toArray, List.set_cons_zero, List.set_cons_succ]
            refine calm_read (v := (.int .i64 bd)) (by rfl) (fun w' h => ?ch221) ?cr221
            case ch221 => (obtain ⟨hcq, hcl⟩ := And.intro h.2.2.2.1 h.2.2.2.2.2.1; go_simp)
            try simp only [Act.put, List.setIfInBounds_toArray, List.set_cons_zero, List.set_cons_succ]
            refine calm_pure (v := ?cv224) (by rfl) (fun w' => ?ch224) ?cr224
            case ch224 => (go_simp; first | done | with_reducible rfl)
            try simp only [Act.put, List.setIfInBounds_toArray, List.set_cons_zero, List.set_cons_succ]
            refine calm_pure (v := ?cv227) (by rfl) (fun w' => ?ch227) ?cr227
            case ch227 => (go_simp; first | done | with_reducible rfl)
            try simp only [Act.put, List.setIfInBounds_toArray, List.set_cons_zero, List.set_cons_succ]
            refine calm_pure (v := ?cv230) (by rfl) (fun w' => ?ch230) ?cr230
            case ch230 => (go_simp; first | done | with_reducible rfl)
            try simp only [Act.put, List.setIfInBounds_toArray, List.set_cons_zero, List.set_cons_succ]
            refine calm_skip (by rfl) ?_
            try simp only [Act.put, List.setIfInBounds_toArray, List.set_cons_zero, List.set_cons_succ]
            refine calm_skip (by rfl) ?_
            try simp only [Act.put, List.setIfInBounds_toArray, List.set_cons_zero, List.set_cons_succ]
            refine calm_skip (by rfl) ?_
            try simp only [Act.put, List.setIfInBounds_toArray, List.set_cons_zero, List.set_cons_succ]
            refine calm_skip (by rfl) ?_
            try simp only [Act.put, List.setIfInBounds_toArray, List.set_cons_zero, List.set_cons_succ]
            refine calm_skip (by rfl) ?_
            try simp only [Act.put, List.setIfInBounds_toArray, List.set_cons_zero, List.set_cons_succ]
            refine calm_skip (by rfl) ?_
            try simp only [Act.put, List.setIfInBounds_toArray, List.set_cons_zero, List.set_cons_succ]
            refine calm_skip (by rfl) ?_
            try simp only [Act.put, List.setIfInBounds_toArray, List.set_cons_zero, List.set_cons_succ]
            refine calm_skip (by rfl) ?_
            try simp only [Act.put, List.setIfInBounds_toArray, List.set_cons_zero, List.set_cons_succ]
            refine calm_skip (by rfl) ?_
            try simp only [Act.put, List.setIfInBounds_toArray, List.set_cons_zero, List.set_cons_succ]
            refine calm_skip (by rfl) ?_
            try simp only [Act.put, List.setIfInBounds_toArray, List.set_cons_zero, List.set_cons_succ]
            refine calm_skip (by rfl) ?_
            try simp only [Act.put, List.setIfInBounds_toArray, List.set_cons_zero, List.set_cons_succ]
            refine calm_skip (by rfl) ?_
            try simp only [Act.put, List.setIfInBounds_toArray, List.set_cons_zero, List.set_cons_succ]
            refine calm_skip (by rfl) ?_
            try simp only [Act.put, List.setIfInBounds_toArray, List.set_cons_zero, List.set_cons_succ]
            refine calm_skip (by rfl) ?_
            try simp only [Act.put, List.setIfInBounds_toArray, List.set_cons_zero, List.set_cons_succ]
            refine calm_skip (by rfl) ?_
            try simp only [Act.put, List.setIfInBounds_toArray, List.set_cons_zero, List.set_cons_succ]
            refine calm_skip (by rfl) ?_
            try simp only [Act.put, List.setIfInBounds_toArray, List.set_cons_zero, List.set_cons_succ]
            refine calm_skip (by rfl) ?_
            try simp only [Act.put, List.setIfInBounds_toArray, List.set_cons_zero, List.set_cons_succ]
            refine calm_skip (by rfl) ?_
            try simp only [Act.put, List.setIfInBounds_toArray, List.set_cons_zero, List.set_cons_succ]
            refine calm_pure (v := ?cv269) (by rfl) (fun w' => ?ch269) ?cr269
            case ch269 => (go_simp; first | done | with_reducible rfl)
            try simp only [Act.put, List.setIfInBounds_toArray, List.set_cons_zero, List.set_cons_succ]
            intro w9 hm9
            go_wp2
            obtain ⟨i', b', k1, k2, k3, k4⟩ := hnew1.out
            exact ⟨⟨i', b', k1, k2, k3, k4, hm9.2.2.2.2.2.2⟩, by simp [RowKit.intOf]; omega⟩
          · have hqs : q = decide (xs < bs) := by
              rw [Bool.eq_iff_iff, hqa, decide_eq_true_iff]
              omega
            have t1 : decide (xd < bd) = false := decide_eq_false (by omega)
            have t2 : (xd == bd) = true := beq_iff_eq.2 e
            have t3 : decide (xs < bs) = q := hqs.symm
            clear e hqa hqs
            cases q with
            | true =>
              go_upto_region 5 with (first
                | (refine wpList_index_run rfl 29 (.tmp 6) (.tmp 8) rfl (.slice (some ⟨g, 0, none⟩) t.length c) (.int .i64 (i : Int)) _ rfl rfl (hix.out _) ?_)
                | (refine wpList_load_midg rfl 39 (.tmp 11) rfl g (i * 4) rfl X _ hrg.out Try.underlying39 rfl hi4.out ?_)
                | (refine wpList_store_new rfl 39 (.tmp 5) (.tmp 12) rfl wr _ X.toArray rfl rfl rfl hi5.out (hcz.out _ rfl) hone.out ?_; rw [← hW2.out]))
              refine wp_region_calm (fun w' => w'.cell? ⟨wr.heap.size, 0, none⟩ = some (.int .i64 xd) ∧ w'.cell? ⟨wr.heap.size, 1, none⟩ = some (.int .i64 xs) ∧ wr.heap.size < w'.heap.size ∧ w'.cell? ⟨g, b * 4, none⟩ = some (.int .i64 bd) ∧ w'.cell? ⟨g, b * 4 + 1, none⟩ = some (.int .i64 bs) ∧ g < w'.heap.size ∧ Below W.heap.size W w') (by kernel_rfl) (by kernel_rfl) ⟨hdu, hst, lx, c0, c1, lg, hbe.out 1⟩ ?_
              refine calm_pure (v := ?cv290) (by rfl) (fun w' => ?ch290) ?cr290
              case ch290 => (go_simp; first | done | with_reducible rfl)
              try simp only [Act.put, List.setIfInBounds_toArray, List.set_cons_zero, List.set_cons_succ]
              refine calm_pure (v := ?cv293) (by rfl) (fun w' => ?ch293) ?cr293
              case ch293 => (go_simp; first | done | with_reducible rfl)
              try simp only [Act.put, List.setIfInBounds_toArray, List.set_cons_zero, List.set_cons_succ]
              refine calm_pure (v := ?cv296) (by rfl) (fun w' => ?ch296) ?cr296
              case ch296 => (go_simp; first | done | with_reducible rfl)
              try simp only [Act.put, List.setIfInBounds_toArray, List.set_cons_zero, List.set_cons_succ]
              refine calm_pure (v := ?cv299) (by rfl) (fun w' => ?ch299) ?cr299
              case ch299 => (go_simp; first | done | with_reducible rfl)
              try simp only [Act.put, List.setIfInBounds_toArray, List.set_cons_zero, List.set_cons_succ]
              refine calm_read (v := (.int .i64 xd)) (by rfl) (fun w' h => ?ch302) ?cr302
              case ch302 => (obtain ⟨hcq, hcl⟩ := And.intro h.1 h.2.2.1; go_simp)
              try simp only [Act.put, List.setIfInBounds_toArray, List.set_cons_zero, List.set_cons_succ]
              refine calm_pure (v := ?cv305) (by rfl) (fun w' => ?ch305) ?cr305
              case ch305 => (go_simp; first | done | with_reducible rfl)
              try simp only [Act.put, List.setIfInBounds_toArray, List.set_cons_zero, List.set_cons_succ]
              refine calm_pure (v := ?cv308) (by rfl) (fun w' => ?ch308) ?cr308
              case ch308 => (go_simp; first | done | with_reducible rfl)
              try simp only [Act.put, List.setIfInBounds_toArray, List.set_cons_zero, List.set_cons_succ]
              refine calm_index 29 _ _ (.slice (some ⟨g, 0, none⟩) t.length c) (.int .i64 (b : Int)) _ (by rfl) rfl rfl rfl hixb.out ?_
              try simp only [Act.put, List.setIfInBounds_toArray, List.set_cons_zero, List.set_cons_succ]
              refine calm_pure (v := ?cv313) (by rfl) (fun w' => ?ch313) ?cr313
              case ch313 => (go_simp; first | done | with_reducible rfl)
              try simp only [Act.put, List.setIfInBounds_toArray, List.set_cons_zero, List.set_cons_succ]
              refine calm_read (v := (.int .i64 bd)) (by rfl) (fun w' h => ?ch316) ?cr316
              case ch316 => (obtain ⟨hcq, hcl⟩ := And.intro h.2.2.2.1 h.2.2.2.2.2.1; go_simp)
              try simp only [Act.put, List.setIfInBounds_toArray, List.set_cons_zero, List.set_cons_succ]
              refine calm_pure (v := ?cv319) (by rfl) (fun w' => ?ch319) ?cr319
              case ch319 => (go_simp; first | done | with_reducible rfl)
              try simp only [Act.put, List.setIfInBounds_toArray, List.set_cons_zero, List.set_cons_succ]
              refine calm_pure (v := ?cv322) (by rfl) (fun w' => ?ch322) ?cr322
              case ch322 => (go_simp; first | done | with_reducible rfl)
              try simp only [Act.put, List.setIfInBounds_toArray, List.set_cons_zero, List.set_cons_succ]
              refine calm_pure (v := ?cv325) (by rfl) (fun w' => ?ch325) ?cr325
              case ch325 => (go_simp; first | done | with_reducible rfl)
              try simp only [Act.put, List.setIfInBounds_toArray, List.set_cons_zero, List.set_cons_succ]
              refine calm_pure (v := ?cv328) (by rfl) (fun w' => ?ch328) ?cr328
              case ch328 => (go_simp; first | done | with_reducible rfl)
              try simp only [Act.put, List.setIfInBounds_toArray, List.set_cons_zero, List.set_cons_succ]
              refine calm_read (v := (.int .i64 xd)) (by rfl) (fun w' h => ?ch331) ?cr331
              case ch331 => (obtain ⟨hcq, hcl⟩ := And.intro h.1 h.2.2.1; go_simp)
              try simp only [Act.put, List.setIfInBounds_toArray, List.set_cons_zero, List.set_cons_succ]
              refine calm_pure (v := ?cv334) (by rfl) (fun w' => ?ch334) ?cr334
              case ch334 => (go_simp; first | done | with_reducible rfl)
              try simp only [Act.put, List.setIfInBounds_toArray, List.set_cons_zero, List.set_cons_succ]
              refine calm_pure (v := ?cv337) (by rfl) (fun w' => ?ch337) ?cr337
              case ch337 => (go_simp; first | done | with_reducible rfl)
              try simp only [Act.put, List.setIfInBounds_toArray, List.set_cons_zero, List.set_cons_succ]
              refine calm_index 29 _ _ (.slice (some ⟨g, 0, none⟩) t.length c) (.int .i64 (b : Int)) _ (by rfl) rfl rfl rfl hixb.out ?_
              try simp only [Act.put, List.setIfInBounds_toArray, List.set_cons_zero, List.set_cons_succ]
              refine calm_pure (v := ?cv342) (by rfl) (fun w' => ?ch342) ?cr342
              case ch342 => (go_simp; first | done | with_reducible rfl)
              try simp only [Act.put, List.setIfInBounds_toArray, List.set_cons_zero, List.set_cons_succ]
              refine calm_read (v := (.int .i64 bd)) (by rfl) (fun w' h => ?ch345) ?cr345
              case ch345 => (obtain ⟨hcq, hcl⟩ := And.intro h.2.2.2.1 h.2.2.2.2.2.1; go_simp)
              try simp only [Act.put, List.setIfInBounds_toArray, List.set_cons_zero, List.set_cons_succ]
              refine calm_pure (v := ?cv348) (by rfl) (fun w' => ?ch348) ?cr348
              case ch348 => (go_simp; first | done | with_reducible rfl)
              try simp only [Act.put, List.setIfInBounds_toArray, List.set_cons_zero, List.set_cons_succ]
              refine calm_pure (v := ?cv351) (by rfl) (fun w' => ?ch351) ?cr351
              case ch351 => (go_simp; first | done | with_reducible rfl)
              try simp only [Act.put, List.setIfInBounds_toArray, List.set_cons_zero, List.set_cons_succ]
              refine calm_pure (v := ?cv354) (by rfl) (fun w' => ?ch354) ?cr354
              case ch354 => (go_simp; first | done | with_reducible rfl)
              try simp only [Act.put, List.setIfInBounds_toArray, List.set_cons_zero, List.set_cons_succ]
              refine calm_read (v := (.int .i64 xs)) (by rfl) (fun w' h => ?ch357) ?cr357
              case ch357 => (obtain ⟨hcq, hcl⟩ := And.intro h.2.1 h.2.2.1; go_simp)
              try simp only [Act.put, List.setIfInBounds_toArray, List.set_cons_zero, List.set_cons_succ]
              refine calm_pure (v := ?cv360) (by rfl) (fun w' => ?ch360) ?cr360
              case ch360 => (go_simp; first | done | with_reducible rfl)
              try simp only [Act.put, List.setIfInBounds_toArray, List.set_cons_zero, List.set_cons_succ]
              refine calm_pure (v := ?cv363) (by rfl) (fun w' => ?ch363) ?cr363
              case ch363 => (go_simp; first | done | with_reducible rfl)
              try simp only [Act.put, List.setIfInBounds_toArray, List.set_cons_zero, List.set_cons_succ]
              refine calm_index 29 _ _ (.slice (some ⟨g, 0, none⟩) t.length c) (.int .i64 (b : Int)) _ (by rfl) rfl rfl rfl hixb.out ?_
              try simp only [Act.put, List.setIfInBounds_toArray, List.set_cons_zero, List.set_cons_succ]
              refine calm_pure (v := ?cv368) (by rfl) (fun w' => ?ch368) ?cr368
              case ch368 => (go_simp; first | done | with_reducible rfl)
              try simp only [Act.put, List.setIfInBounds_toArray, List.set_cons_zero, List.set_cons_succ]
              refine calm_read (v := (.int .i64 bs)) (by rfl) (fun w' h => ?ch371) ?cr371
              case ch371 => (obtain ⟨hcq, hcl⟩ := And.intro h.2.2.2.2.1 h.2.2.2.2.2.1; go_simp)
              try simp only [Act.put, List.setIfInBounds_toArray, List.set_cons_zero, List.set_cons_succ]
              refine calm_pure (v := ?cv374) (by rfl) (fun w' => ?ch374) ?cr374
              case ch374 => (go_simp; first | done | with_reducible rfl)
              try simp only [Act.put, List.setIfInBounds_toArray, List.set_cons_zero, List.set_cons_succ]
              refine calm_pure (v := ?cv377) (by rfl) (fun w' => ?ch377) ?cr377
              case ch377 => (go_simp; first | done | with_reducible rfl)
              try simp only [Act.put, List.setIfInBounds_toArray, List.set_cons_zero, List.set_cons_succ]
              refine calm_pure (v := ?cv380) (by rfl) (fun w' => ?ch380) ?cr380
              case ch380 => (go_simp; first | done | with_reducible rfl)
              try simp only [Act.put, List.setIfInBounds_toArray, List.set_cons_zero, List.set_cons_succ]
              intro w9 hm9
              go_wp2
              obtain ⟨i', b', k1, k2, k3, k4⟩ := hnew1.out
              exact ⟨⟨i', b', k1, k2, k3, k4, hm9.2.2.2.2.2.2⟩, by simp [RowKit.intOf]; omega⟩
            | false =>
              go_upto_region 5 with (first
                | (refine wpList_index_run rfl 29 (.tmp 6) (.tmp 8) rfl (.slice (some ⟨g, 0, none⟩) t.length c) (.int .i64 (i : Int)) _ rfl rfl (hix.out _) ?_)
                | (refine wpList_load_midg rfl 39 (.tmp 11) rfl g (i * 4) rfl X _ hrg.out Try.underlying39 rfl hi4.out ?_)
                | (refine wpList_store_new rfl 39 (.tmp 5) (.tmp 12) rfl wr _ X.toArray rfl rfl rfl hi5.out (hcz.out _ rfl) hone.out ?_; rw [← hW2.out]))
              refine wp_region_calm (fun w' => w'.cell? ⟨wr.heap.size, 0, none⟩ = some (.int .i64 xd) ∧ w'.cell? ⟨wr.heap.size, 1, none⟩ = some (.int .i64 xs) ∧ wr.heap.size < w'.heap.size ∧ w'.cell? ⟨g, b * 4, none⟩ = some (.int .i64 bd) ∧ w'.cell? ⟨g, b * 4 + 1, none⟩ = some (.int .i64 bs) ∧ g < w'.heap.size ∧ Below W.heap.size W w') (by kernel_rfl) (by kernel_rfl) ⟨hdu, hst, lx, c0, c1, lg, hbe.out 1⟩ ?_
              refine calm_pure (v := ?cv393) (by rfl) (fun w' => ?ch393) ?cr393
              case ch393 => (go_simp; first | done | with_reducible rfl)
              try simp only [Act.put, List.setIfInBounds_toArray, List.set_cons_zero, List.set_cons_succ]
              refine calm_pure (v := ?cv396) (by rfl) (fun w' => ?ch396) ?cr396
              case ch396 => (go_simp; first | done | with_reducible rfl)
              try simp only [Act.put, List.setIfInBounds_toArray, List.set_cons_zero, List.set_cons_succ]
              refine calm_pure (v := ?cv399) (by rfl) (fun w' => ?ch399) ?cr399
              case ch399 => (go_simp; first | done | with_reducible rfl)
              try simp only [Act.put, List.setIfInBounds_toArray, List.set_cons_zero, List.set_cons_succ]
              refine calm_pure (v := ?cv402) (by rfl) (fun w' => ?ch402) ?cr402
              case ch402 => (go_simp; first | done | with_reducible rfl)
              try simp only [Act.put, List.setIfInBounds_toArray, List.set_cons_zero, List.set_cons_succ]
              refine calm_read (v := (.int .i64 xd)) (by rfl) (fun w' h => ?ch405) ?cr405
              case ch405 => (obtain ⟨hcq, hcl⟩ := And.intro h.1 h.2.2.1; go_simp)
              try simp only [Act.put, List.setIfInBounds_toArray, List.set_cons_zero, List.set_cons_succ]
              refine calm_pure (v := ?cv408) (by rfl) (fun w' => ?ch408) ?cr408
              case ch408 => (go_simp; first | done | with_reducible rfl)
              try simp only [Act.put, List.setIfInBounds_toArray, List.set_cons_zero, List.set_cons_succ]
              refine calm_pure (v := ?cv411) (by rfl) (fun w' => ?ch411) ?cr411
              case ch411 => (go_simp; first | done | with_reducible rfl)
              try simp only [Act.put, List.setIfInBounds_toArray, List.set_cons_zero, List.set_cons_succ]
              refine calm_index 29 _ _ (.slice (some ⟨g, 0, none⟩) t.length c) (.int .i64 (b : Int)) _ (by rfl) rfl rfl rfl hixb.out ?_
              try simp only [Act.put, List.setIfInBounds_toArray, List.set_cons_zero, List.set_cons_succ]
              refine calm_pure (v := ?cv416) (by rfl) (fun w' => ?ch416) ?cr416
              case ch416 => (go_simp; first | done | with_reducible rfl)
              try simp only [Act.put, List.setIfInBounds_toArray, List.set_cons_zero, List.set_cons_succ]
              refine calm_read (v := (.int .i64 bd)) (by rfl) (fun w' h => ?ch419) ?cr419
              case ch419 => (obtain ⟨hcq, hcl⟩ := And.intro h.2.2.2.1 h.2.2.2.2.2.1; go_simp)
              try simp only [Act.put, List.setIfInBounds_toArray, List.set_cons_zero, List.set_cons_succ]
              refine calm_pure (v := ?cv422) (by rfl) (fun w' => ?ch422) ?cr422
              case ch422 => (go_simp; first | done | with_reducible rfl)
              try simp only [Act.put, List.setIfInBounds_toArray, List.set_cons_zero, List.set_cons_succ]
              refine calm_pure (v := ?cv425) (by rfl) (fun w' => ?ch425) ?cr425
              case ch425 => (go_simp; first | done | with_reducible rfl)
              try simp only [Act.put, List.setIfInBounds_toArray, List.set_cons_zero, List.set_cons_succ]
              refine calm_pure (v := ?cv428) (by rfl) (fun w' => ?ch428) ?cr428
              case ch428 => (go_simp; first | done | with_reducible rfl)
              try simp only [Act.put, List.setIfInBounds_toArray, List.set_cons_zero, List.set_cons_succ]
              refine calm_pure (v := ?cv431) (by rfl) (fun w' => ?ch431) ?cr431
              case ch431 => (go_simp; first | done | with_reducible rfl)
              try simp only [Act.put, List.setIfInBounds_toArray, List.set_cons_zero, List.set_cons_succ]
              refine calm_read (v := (.int .i64 xd)) (by rfl) (fun w' h => ?ch434) ?cr434
              case ch434 => (obtain ⟨hcq, hcl⟩ := And.intro h.1 h.2.2.1; go_simp)
              try simp only [Act.put, List.setIfInBounds_toArray, List.set_cons_zero, List.set_cons_succ]
              refine calm_pure (v := ?cv437) (by rfl) (fun w' => ?ch437) ?cr437
              case ch437 => (go_simp; first | done | with_reducible rfl)
              try simp only [Act.put, List.setIfInBounds_toArray, List.set_cons_zero, List.set_cons_succ]
              refine calm_pure (v := ?cv440) (by rfl) (fun w' => ?ch440) ?cr440
              case ch440 => (go_simp; first | done | with_reducible rfl)
              try simp only [Act.put, List.setIfInBounds_toArray, List.set_cons_zero, List.set_cons_succ]
              refine calm_index 29 _ _ (.slice (some ⟨g, 0, none⟩) t.length c) (.int .i64 (b : Int)) _ (by rfl) rfl rfl rfl hixb.out ?_
              try simp only [Act.put, List.setIfInBounds_toArray, List.set_cons_zero, List.set_cons_succ]
              refine calm_pure (v := ?cv445) (by rfl) (fun w' => ?ch445) ?cr445
              case ch445 => (go_simp; first | done | with_reducible rfl)
              try simp only [Act.put, List.setIfInBounds_toArray, List.set_cons_zero, List.set_cons_succ]
              refine calm_read (v := (.int .i64 bd)) (by rfl) (fun w' h => ?ch448) ?cr448
              case ch448 => (obtain ⟨hcq, hcl⟩ := And.intro h.2.2.2.1 h.2.2.2.2.2.1; go_simp)
              try simp only [Act.put, List.setIfInBounds_toArray, List.set_cons_zero, List.set_cons_succ]
              refine calm_pure (v := ?cv451) (by rfl) (fun w' => ?ch451) ?cr451
              case ch451 => (go_simp; first | done | with_reducible rfl)
              try simp only [Act.put, List.setIfInBounds_toArray, List.set_cons_zero, List.set_cons_succ]
              refine calm_pure (v := ?cv454) (by rfl) (fun w' => ?ch454) ?cr454
              case ch454 => (go_simp; first | done | with_reducible rfl)
              try simp only [Act.put, List.setIfInBounds_toArray, List.set_cons_zero, List.set_cons_succ]
              refine calm_pure (v := ?cv457) (by rfl) (fun w' => ?ch457) ?cr457
              case ch457 => (go_simp; first | done | with_reducible rfl)
              try simp only [Act.put, List.setIfInBounds_toArray, List.set_cons_zero, List.set_cons_succ]
              refine calm_read (v := (.int .i64 xs)) (by rfl) (fun w' h => ?ch460) ?cr460
              case ch460 => (obtain ⟨hcq, hcl⟩ := And.intro h.2.1 h.2.2.1; go_simp)
              try simp only [Act.put, List.setIfInBounds_toArray, List.set_cons_zero, List.set_cons_succ]
              refine calm_pure (v := ?cv463) (by rfl) (fun w' => ?ch463) ?cr463
              case ch463 => (go_simp; first | done | with_reducible rfl)
              try simp only [Act.put, List.setIfInBounds_toArray, List.set_cons_zero, List.set_cons_succ]
              refine calm_pure (v := ?cv466) (by rfl) (fun w' => ?ch466) ?cr466
              case ch466 => (go_simp; first | done | with_reducible rfl)
              try simp only [Act.put, List.setIfInBounds_toArray, List.set_cons_zero, List.set_cons_succ]
              refine calm_index 29 _ _ (.slice (some ⟨g, 0, none⟩) t.length c) (.int .i64 (b : Int)) _ (by rfl) rfl rfl rfl hixb.out ?_
              try simp only [Act.put, List.setIfInBounds_toArray, List.set_cons_zero, List.set_cons_succ]
              refine calm_pure (v := ?cv471) (by rfl) (fun w' => ?ch471) ?cr471
              case ch471 => (go_simp; first | done | with_reducible rfl)
              try simp only [Act.put, List.setIfInBounds_toArray, List.set_cons_zero, List.set_cons_succ]
              refine calm_read (v := (.int .i64 bs)) (by rfl) (fun w' h => ?ch474) ?cr474
              case ch474 => (obtain ⟨hcq, hcl⟩ := And.intro h.2.2.2.2.1 h.2.2.2.2.2.1; go_simp)
              try simp only [Act.put, List.setIfInBounds_toArray, List.set_cons_zero, List.set_cons_succ]
              refine calm_pure (v := ?cv477) (by rfl) (fun w' => ?ch477) ?cr477
              case ch477 => (go_simp; first | done | with_reducible rfl)
              try simp only [Act.put, List.setIfInBounds_toArray, List.set_cons_zero, List.set_cons_succ]
              refine calm_pure (v := ?cv480) (by rfl) (fun w' => ?ch480) ?cr480
              case ch480 => (go_simp; first | done | with_reducible rfl)
              try simp only [Act.put, List.setIfInBounds_toArray, List.set_cons_zero, List.set_cons_succ]
              refine calm_pure (v := ?cv483) (by rfl) (fun w' => ?ch483) ?cr483
              case ch483 => (go_simp; first | done | with_reducible rfl)
              try simp only [Act.put, List.setIfInBounds_toArray, List.set_cons_zero, List.set_cons_succ]
              intro w9 hm9
              go_wp2
              obtain ⟨i', b', k1, k2, k3, k4⟩ := hnew1.out
              exact ⟨⟨i', b', k1, k2, k3, k4, hm9.2.2.2.2.2.2⟩, by simp [RowKit.intOf]; omega⟩
          · have hq : q = false := by
              rw [Bool.eq_false_iff]
              intro hc
              have := hqa.1 hc
              omega
            subst hq
            have t1 : decide (xd < bd) = false := decide_eq_false (by omega)
            have t2 : (xd == bd) = false := beq_eq_false_iff_ne.2 (by omega)
            clear e hqa
            go_upto_region 5 with (first
              | (refine wpList_index_run rfl 29 (.tmp 6) (.tmp 8) rfl (.slice (some ⟨g, 0, none⟩) t.length c) (.int .i64 (i : Int)) _ rfl rfl (hix.out _) ?_)
              | (refine wpList_load_midg rfl 39 (.tmp 11) rfl g (i * 4) rfl X _ hrg.out Try.underlying39 rfl hi4.out ?_)
              | (refine wpList_store_new rfl 39 (.tmp 5) (.tmp 12) rfl wr _ X.toArray rfl rfl rfl hi5.out (hcz.out _ rfl) hone.out ?_; rw [← hW2.out]))
            refine wp_region_calm (fun w' => w'.cell? ⟨wr.heap.size, 0, none⟩ = some (.int .i64 xd) ∧ w'.cell? ⟨wr.heap.size, 1, none⟩ = some (.int .i64 xs) ∧ wr.heap.size < w'.heap.size ∧ w'.cell? ⟨g, b * 4, none⟩ = some (.int .i64 bd) ∧ w'.cell? ⟨g, b * 4 + 1, none⟩ = some (.int .i64 bs) ∧ g < w'.heap.size ∧ Below W.heap.size W w') (by kernel_rfl) (by kernel_rfl) ⟨hdu, hst, lx, c0, c1, lg, hbe.out 1⟩ ?_
            refine calm_pure (v := ?cv504) (by rfl) (fun w' => ?ch504) ?cr504
            case ch504 => (go_simp; first | done | with_reducible rfl)
            try simp only [Act.put, List.setIfInBounds_toArray, List.set_cons_zero, List.set_cons_succ]
            refine calm_pure (v := ?cv507) (by rfl) (fun w' => ?ch507) ?cr507
            case ch507 => (go_simp; first | done | with_reducible rfl)
            try simp only [Act.put, List.setIfInBounds_toArray, List.set_cons_zero, List.set_cons_succ]
            refine calm_pure (v := ?cv510) (by rfl) (fun w' => ?ch510) ?cr510
            case ch510 => (go_simp; first | done | with_reducible rfl)
            try simp only [Act.put, List.setIfInBounds_toArray, List.set_cons_zero, List.set_cons_succ]
            refine calm_pure (v := ?cv513) (by rfl) (fun w' => ?ch513) ?cr513
            case ch513 => (go_simp; first | done | with_reducible rfl)
            try simp only [Act.put, List.setIfInBounds_toArray, List.set_cons_zero, List.set_cons_succ]
            refine calm_read (v := (.int .i64 xd)) (by rfl) (fun w' h => ?ch516) ?cr516
            case ch516 => (obtain ⟨hcq, hcl⟩ := And.intro h.1 h.2.2.1; go_simp)
            try simp only [Act.put, List.setIfInBounds_toArray, List.set_cons_zero, List.set_cons_succ]
            refine calm_pure (v := ?cv519) (by rfl) (fun w' => ?ch519) ?cr519
            case ch519 => (go_simp; first | done | with_reducible rfl)
            try simp only [Act.put, List.setIfInBounds_toArray, List.set_cons_zero, List.set_cons_succ]
            refine calm_pure (v := ?cv522) (by rfl) (fun w' => ?ch522) ?cr522
            case ch522 => (go_simp; first | done | with_reducible rfl)
            try simp only [Act.put, List.setIfInBounds_toArray, List.set_cons_zero, List.set_cons_succ]
            refine calm_index 29 _ _ (.slice (some ⟨g, 0, none⟩) t.length c) (.int .i64 (b : Int)) _ (by rfl) rfl rfl rfl hixb.out ?_
            try simp only [Act.put, List.setIfInBounds_toArray, List.set_cons_zero, List.set_cons_succ]
            refine calm_pure (v := ?cv527) (by rfl) (fun w' => ?ch527) ?cr527
            case ch527 => (go_simp; first | done | with_reducible rfl)
            try simp only [Act.put, List.setIfInBounds_toArray, List.set_cons_zero, List.set_cons_succ]
            refine calm_read (v := (.int .i64 bd)) (by rfl) (fun w' h => ?ch530) ?cr530
            case ch530 => (obtain ⟨hcq, hcl⟩ := And.intro h.2.2.2.1 h.2.2.2.2.2.1; go_simp)
            try simp only [Act.put, List.setIfInBounds_toArray, List.set_cons_zero, List.set_cons_succ]
            refine calm_pure (v := ?cv533) (by rfl) (fun w' => ?ch533) ?cr533
            case ch533 => (go_simp; first | done | with_reducible rfl)
            try simp only [Act.put, List.setIfInBounds_toArray, List.set_cons_zero, List.set_cons_succ]
            refine calm_pure (v := ?cv536) (by rfl) (fun w' => ?ch536) ?cr536
            case ch536 => (go_simp; first | done | with_reducible rfl)
            try simp only [Act.put, List.setIfInBounds_toArray, List.set_cons_zero, List.set_cons_succ]
            refine calm_pure (v := ?cv539) (by rfl) (fun w' => ?ch539) ?cr539
            case ch539 => (go_simp; first | done | with_reducible rfl)
            try simp only [Act.put, List.setIfInBounds_toArray, List.set_cons_zero, List.set_cons_succ]
            refine calm_pure (v := ?cv542) (by rfl) (fun w' => ?ch542) ?cr542
            case ch542 => (go_simp; first | done | with_reducible rfl)
            try simp only [Act.put, List.setIfInBounds_toArray, List.set_cons_zero, List.set_cons_succ]
            refine calm_read (v := (.int .i64 xd)) (by rfl) (fun w' h => ?ch545) ?cr545
            case ch545 => (obtain ⟨hcq, hcl⟩ := And.intro h.1 h.2.2.1; go_simp)
            try simp only [Act.put, List.setIfInBounds_toArray, List.set_cons_zero, List.set_cons_succ]
            refine calm_pure (v := ?cv548) (by rfl) (fun w' => ?ch548) ?cr548
            case ch548 => (go_simp; first | done | with_reducible rfl)
            try simp only [Act.put, List.setIfInBounds_toArray, List.set_cons_zero, List.set_cons_succ]
            refine calm_pure (v := ?cv551) (by rfl) (fun w' => ?ch551) ?cr551
            case ch551 => (go_simp; first | done | with_reducible rfl)
            try simp only [Act.put, List.setIfInBounds_toArray, List.set_cons_zero, List.set_cons_succ]
            refine calm_index 29 _ _ (.slice (some ⟨g, 0, none⟩) t.length c) (.int .i64 (b : Int)) _ (by rfl) rfl rfl rfl hixb.out ?_
            try simp only [Act.put, List.setIfInBounds_toArray, List.set_cons_zero, List.set_cons_succ]
            refine calm_pure (v := ?cv556) (by rfl) (fun w' => ?ch556) ?cr556
            case ch556 => (go_simp; first | done | with_reducible rfl)
            try simp only [Act.put, List.setIfInBounds_toArray, List.set_cons_zero, List.set_cons_succ]
            refine calm_read (v := (.int .i64 bd)) (by rfl) (fun w' h => ?ch559) ?cr559
            case ch559 => (obtain ⟨hcq, hcl⟩ := And.intro h.2.2.2.1 h.2.2.2.2.2.1; go_simp)
            try simp only [Act.put, List.setIfInBounds_toArray, List.set_cons_zero, List.set_cons_succ]
            refine calm_pure (v := ?cv562) (by rfl) (fun w' => ?ch562) ?cr562
            case ch562 => (go_simp; first | done | with_reducible rfl)
            try simp only [Act.put, List.setIfInBounds_toArray, List.set_cons_zero, List.set_cons_succ]
            refine calm_pure (v := ?cv565) (by rfl) (fun w' => ?ch565) ?cr565
            case ch565 => (go_simp; first | done | with_reducible rfl)
            try simp only [Act.put, List.setIfInBounds_toArray, List.set_cons_zero, List.set_cons_succ]
            refine calm_skip (by rfl) ?_
            try simp only [Act.put, List.setIfInBounds_toArray, List.set_cons_zero, List.set_cons_succ]
            refine calm_skip (by rfl) ?_
            try simp only [Act.put, List.setIfInBounds_toArray, List.set_cons_zero, List.set_cons_succ]
            refine calm_skip (by rfl) ?_
            try simp only [Act.put, List.setIfInBounds_toArray, List.set_cons_zero, List.set_cons_succ]
            refine calm_skip (by rfl) ?_
            try simp only [Act.put, List.setIfInBounds_toArray, List.set_cons_zero, List.set_cons_succ]
            refine calm_skip (by rfl) ?_
            try simp only [Act.put, List.setIfInBounds_toArray, List.set_cons_zero, List.set_cons_succ]
            refine calm_skip (by rfl) ?_
            try simp only [Act.put, List.setIfInBounds_toArray, List.set_cons_zero, List.set_cons_succ]
            refine calm_skip (by rfl) ?_
            try simp only [Act.put, List.setIfInBounds_toArray, List.set_cons_zero, List.set_cons_succ]
            refine calm_skip (by rfl) ?_
            try simp only [Act.put, List.setIfInBounds_toArray, List.set_cons_zero, List.set_cons_succ]
            refine calm_pure (v := ?cv584) (by rfl) (fun w' => ?ch584) ?cr584
            case ch584 => (go_simp; first | done | with_reducible rfl)
            try simp only [Act.put, List.setIfInBounds_toArray, List.set_cons_zero, List.set_cons_succ]
            refine calm_pure (v := ?cv587) (by rfl) (fun w' => ?ch587) ?cr587
            case ch587 => (go_simp; first | done | with_reducible rfl)
            try simp only [Act.put, List.setIfInBounds_toArray, List.set_cons_zero, List.set_cons_succ]
            intro w9 hm9
            go_wp2
            obtain ⟨i', b', k1, k2, k3, k4⟩ := hnew1.out
            exact ⟨⟨i', b', k1, k2, k3, k4, hm9.2.2.2.2.2.2⟩, by simp [RowKit.intOf]; omega⟩
      · obtain rfl : i = t.length := by omega
        clear hrow
        go_wp2
        go_ret
        exact ⟨⟨b, rfl, hF⟩, hb⟩
end
end Go.Proofs.Ytgdlcfkgdaaooaa
