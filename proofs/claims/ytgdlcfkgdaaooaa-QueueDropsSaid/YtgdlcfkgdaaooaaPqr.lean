/- Stage 13: the document's Find, First and Without on a row of the law's own. No condition but sizes. -/
import Derived.Test.YtgdlcfkgdaaooaaPqp
import Derived.Test.YtgdlcfkgdaaooaaPqi
import Derived.Test.YtgdlcfkgdaaooaaRwk
import Derived.Test.YtgdlcfkgdaaooaaCalb
import Derived.Test.YtgdlcfkgdaaooaaRes
import Derived.Test.YtgdlcfkgdaaooaaStep
import Derived.Test.YtgdlcfkgdaaooaaNeed
import Derived.Test.YtgdlcfkgdaaooaaYld
import Derived.Test.YtgdlcfkgdaaooaaIdx
import Derived.Lib.Hide
import Derived.BigQuiet
import Derived.Deep.QuietTactic
import Derived.Deep.DeepCutAuto
import Derived.Laws.StructEq
namespace Go.Proofs.Ytgdlcfkgdaaooaa
open Go.RowKit Wm

theorem refK : CellsK Qit.cells 4 := ⟨fun _ => rfl, fun x v hv => by
  unfold Qit.cells at hv
  simp at hv
  rcases hv with rfl | rfl | rfl | rfl <;> rfl, by decide⟩
/-- A row of the law's own. -/
abbrev RefRow (W : World) (v : Value) (m : List Qit) : Prop := W.ownsRow 0 39 4 v m.length (rowK Qit.cells m)
theorem run_idx_ref (g n c i : Nat) (h : i < n) (w : World) : (Instr.indexAt 29 (.slice (some ⟨g, 0, none⟩) n c) (.int .i64 (i : Int))).run Try.prog w = .ok (.pointer (some ⟨g, i * 4, none⟩)) w := by
  have := run_idx_K (P := Try.prog) (K := 4) (ty := 29) (e := 39) (by kernel_rfl) (by kernel_rfl) (by kernel_rfl) g 0 n c i h w
  rwa [Nat.zero_add] at this
theorem infoRef : InfoK Try.prog 39 4 32 := InfoK.mk' (by kernel_rfl)
def posR (t : List Qit) (s : Int) : Nat := t.findIdx fun x => x.Stamp == s
def idxR (t : List Qit) (s : Int) : Int := if posR t s < t.length then ((posR t s : Nat) : Int) else -1
theorem idxR_none {t : List Qit} {s : Int} (h : ∀ i (hi : i < t.length), ((t[i]).Stamp == s) = false) : idxR t s = -1 := by
  unfold idxR posR
  rw [if_neg]
  intro hlt
  have := List.findIdx_getElem (w := hlt)
  rw [h _ hlt] at this
  cases this
theorem idxR_at {t : List Qit} {s : Int} {i : Nat} (hi : i < t.length) (h : ((t[i]).Stamp == s) = true) (hn : ∀ j (hj : j < t.length), j < i → ((t[j]).Stamp == s) = false) : idxR t s = (i : Int) := by
  have e : posR t s = i := by
    unfold posR
    rw [List.findIdx_eq hi]
    exact ⟨h, fun j hj => hn j (by omega) hj⟩
  unfold idxR
  rw [e, if_pos hi]
theorem posR_lt {t : List Qit} {s : Int} : posR t s < t.length ↔ hasQ t s = true := by
  unfold posR hasQ
  rw [List.findIdx_lt_length, List.any_eq_true]
theorem posR_stamp {t : List Qit} {s : Int} (h : posR t s < t.length) : (t[posR t s]).Stamp = s := beq_iff_eq.1 (List.findIdx_getElem (w := h))
theorem drop_mid {A B : List Qit} {x : Qit} (h : OnceQ (A ++ x :: B)) : dropQ (A ++ x :: B) x.Stamp = A ++ B := by
  unfold OnceQ at h
  rw [List.map_append, List.map_cons, List.nodup_append, List.nodup_cons] at h
  obtain ⟨_, ⟨h3, _⟩, h4⟩ := h
  have n1 : dropQ A x.Stamp = A := dropQ_not (fun e => h4 _ e _ (by simp) rfl)
  have n2 : dropQ B x.Stamp = B := dropQ_not h3
  rw [dropQ_app, show x :: B = [x] ++ B from rfl, dropQ_app, dropQ_one, n1, n2]
  rfl
/-- All but one, of a row without a stamp twice. -/
theorem without_drop {m : List Qit} (h : OnceQ m) (i : Nat) (hi : i < m.length) : m.take i ++ m.drop (i + 1) = dropQ m (m[i]).Stamp := by
  have e : m = m.take i ++ m[i] :: m.drop (i + 1) := by rw [← List.drop_eq_getElem_cons hi, List.take_append_drop]
  have h2 := h
  rw [e] at h2
  have h3 := drop_mid h2
  rw [← e] at h3
  exact h3.symm
section
set_option maxRecDepth 100000 in
set_option maxHeartbeats 1000000 in
theorem refFind_any {W : World} {v : Value} {t : List Qit} (h : RefRow W v t) (hn : t.length ≤ 50000) (s : Int) :
    Calls Try.prog 8 #[v, .int .i64 s] W fun e W' => e = .returned (.int .i64 (idxR t s)) ∧ Below W.heap.size W W' := by
  have hat := Lib.hid (fun (i : Nat) (hi : i < t.length) => idxR_at (s := s) hi)
  have hno := Lib.hid (idxR_none (t := t) (s := s))
  generalize hr : idxR t s = r at *
  clear hr
  have hrow := Lib.hid (fun (W' : World) (hb : Below W.heap.size W W') => (Only.of_below (F := fun _ => False) hb).row h (fun _ _ e => e))
  rcases own_spot h with ⟨rfl, h0⟩ | ⟨g, c, rfl, hg, hc, -⟩
  · have ht : t = [] := List.eq_nil_of_length_eq_zero h0
    subst ht
    have hr1 := Lib.hid (hno.out (fun i hi => by simp at hi))
    clear hat hno h h0
    go_enter Try.func8, Try.ntmps8
    go_wp2_with fail
    go_loopw [9] (fun iv wr => iv = .int .i64 0 ∧ W = wr) (fun _ _ => 0)
    case atStart => exact ⟨rfl, rfl⟩
    case round =>
      obtain ⟨rfl, rfl⟩ := hrel
      go_wp2
      go_ret
      exact ⟨by rw [hr1.out]; rfl, Below.refl _ _⟩
  · clear h
    go_enter Try.func8, Try.ntmps8
    go_wp2_with fail
    go_loopw [9] (fun iv wr => ∃ i : Nat, i ≤ t.length ∧ iv = .int .i64 i ∧ (∀ j (hj : j < t.length), j < i → ((t[j]).Stamp == s) = false) ∧ Below W.heap.size W wr) (fun iv _ => (t.length - RowKit.intOf iv).toNat)
    case atStart => exact ⟨0, by omega, rfl, fun j hj h => by omega, Below.refl _ _⟩
    case round =>
      obtain ⟨i, hi, rfl, hne, hb⟩ := hrel
      by_cases hlt : i < t.length
      · have hix := Lib.hid (fun w => run_idx_ref g t.length c i hlt w)
        have hrg := Lib.hid (rowK_range refK (hrow.out wr hb) i hlt)
        have hat1 := Lib.hid (hat.out i hlt)
        have hltI : ((i : Nat) : Int) < ((t.length : Nat) : Int) := by omega
        have hi4 := Lib.hid (show (Try.prog.info? 39).map (·.size) = some (t[i]).cells.length by kernel_rfl)
        have hi5 := Lib.hid (show (Try.prog.info? 39).map (·.size) = some (t[i]).cells.toArray.size by kernel_rfl)
        have hone := Lib.hid (all_oneCell_toArray (refK.one t[i]))
        have hcz : ∀ z : Array Value, z.size = 4 → z.size = (t[i]).cells.toArray.size := fun z h => h
        replace hcz := Lib.hid hcz
        have hnx := Lib.hid (fun (hq : ((t[i]).Stamp == s) = false) (j : Nat) (hj : j < t.length) (hji : j < i + 1) => (show ((t[j]).Stamp == s) = false from by
          by_cases e : j = i
          · subst e; exact hq
          · exact hne j hj (by omega)))
        replace hne := Lib.hid hne
        obtain ⟨W2, hW2⟩ : ∃ W2, W2 = wr.alloc (.cells (t[i]).cells.toArray 39) := ⟨_, rfl⟩
        have hb2 : Below wr.heap.size wr W2 := by rw [hW2]; exact (Below.refl _ _).alloc (Nat.le_refl _) _
        have hst : W2.cell? ⟨wr.heap.size, 1, none⟩ = some (.int .i64 (t[i]).Stamp) := by rw [hW2]; exact (BoxAt.new wr (t[i]).cells _).spot 1 _ rfl
        have lx : wr.heap.size < W2.heap.size := by rw [hW2]; simp
        have hbe := Lib.hid (hb.trans (hb2.mono hb.size))
        replace hW2 := Lib.hid hW2
        generalize (t[i]).cells = X at *
        clear hb hb2 hrow hat hno
        cases hq : ((t[i]).Stamp == s) with
        | true =>
          have hrr := Lib.hid (hat1.out hq hne.out)
          clear hat1 hnx hne
          generalize (t[i]).Stamp = st at *
          go_wp2_with (first
            | (refine wpList_index_run rfl 29 (.tmp 7) (.tmp 9) rfl (.slice (some ⟨g, 0, none⟩) t.length c) (.int .i64 (i : Int)) _ rfl rfl (hix.out _) ?_)
            | (refine wpList_load_midg rfl 39 (.tmp 12) rfl g (i * 4) rfl X _ hrg.out Try.underlying39 rfl hi4.out ?_)
            | (refine wpList_store_new rfl 39 (.tmp 6) (.tmp 13) rfl wr _ X.toArray rfl rfl rfl hi5.out (hcz.out _ rfl) hone.out ?_; rw [← hW2.out]))
          go_ret
          exact ⟨by rw [hrr.out]; rfl, hbe.out⟩
        | false =>
          have hnx1 := Lib.hid (hnx.out hq)
          clear hat1 hnx hne
          generalize (t[i]).Stamp = st at *
          go_wp2_with (first
            | (refine wpList_index_run rfl 29 (.tmp 7) (.tmp 9) rfl (.slice (some ⟨g, 0, none⟩) t.length c) (.int .i64 (i : Int)) _ rfl rfl (hix.out _) ?_)
            | (refine wpList_load_midg rfl 39 (.tmp 12) rfl g (i * 4) rfl X _ hrg.out Try.underlying39 rfl hi4.out ?_)
            | (refine wpList_store_new rfl 39 (.tmp 6) (.tmp 13) rfl wr _ X.toArray rfl rfl rfl hi5.out (hcz.out _ rfl) hone.out ?_; rw [← hW2.out]))
          exact ⟨⟨i + 1, by omega, by go_num, hnx1.out, hbe.out⟩, by simp [RowKit.intOf]; omega⟩
      · obtain rfl : i = t.length := by omega
        have hr1 := Lib.hid (hno.out (fun j hj => hne j hj hj))
        clear hat hno hne hrow
        go_wp2
        go_ret
        exact ⟨by rw [hr1.out]; rfl, hb⟩
end
end Go.Proofs.Ytgdlcfkgdaaooaa
