/- Stage 13, landed: the queue's own calls; the landed queue keeps all that the walks ask of it. No condition but sizes. -/
import Derived.Test.YtgdlcfkgdaaooaaPqh
import Derived.Test.YtgdlcfkgdaaooaaPqi
import Derived.Shelf.Abstract
namespace Go.Proofs.Ytgdlcfkgdaaooaa
open Go.RowKit Wm

def QuKind : Kind (List Qit) := fun F W p m => ∃ v t, QuV W p v t ∧ t.Perm m ∧ HeapF (atQ t) t.length ∧ OnceQ m ∧ m.length ≤ 20000 ∧ ∀ k, F k ↔ footQ p v k
theorem quKind_kind : IsKind QuKind where
  near := fun F W p m h k hk => by
    obtain ⟨v, t, hV, _, _, _, _, hF⟩ := h
    exact hV.near k ((hF k).1 hk)
  keep := fun F G W W' p m h hO hG => by
    obtain ⟨v, t, hV, h1, h2, h3, h4, hF⟩ := h
    exact ⟨v, t, hV.keep hO (fun k hk => hG k ((hF k).2 hk)), h1, h2, h3, h4, hF⟩
theorem PostQ.post {F : Nat → Prop} {W W' : World} {p : Nat} {v : Value} {t m : List Qit} (h : PostQ W p v t W') (hp : t.Perm m) (hH : HeapF (atQ t) t.length) (ho : OnceQ m) (hl : m.length ≤ 20000) (hF : ∀ k, F k ↔ footQ p v k) : PostO QuKind F p m W W' := by
  obtain ⟨v', h1, h2, h3⟩ := h
  exact ⟨footQ p v', ⟨v', t, h1, hp, hH, ho, hl, fun _ => Iff.rfl⟩, h2.mono (fun j _ e => (hF j).2 e), fun k hk e => (hF k).2 (h3 k hk e)⟩
section
set_option maxRecDepth 100000 in
set_option maxHeartbeats 1000000 in
theorem quPut_any (F : Nat → Prop) (W : World) (p : Nat) (m : List Qit) (x : Qit) (h : QuKind F W p m) (hlen : m.length ≤ 10000) (hx : x.Stamp ∉ m.map Qit.Stamp) :
    Calls Try.prog 9 #[.pointer (some ⟨p, 0, none⟩), itemV x] W fun e W' => e = .returned (.tuple #[]) ∧ PostO QuKind F p (m ++ [x]) W W' := by
  obtain ⟨v, t, hV, hp, hH, ho, hl, hF⟩ := h
  have htl : t.length = m.length := hp.length_eq
  have hend := Lib.hid (fun W0 W' (hb : Below W.heap.size W W0) (h : HeapPost W0 p v (t ++ [x]) W') => (show PostO QuKind F p (m ++ [x]) W W' from by
    obtain ⟨t', h1, h2, v', h3, h4, h5⟩ := h
    exact PostQ.post ⟨v', h3, (Only.of_below hb).trans h4 (fun _ _ e => e), fun k hk e => h5 k (Nat.lt_of_lt_of_le hk hb.size) e⟩ (h1.trans (hp.append_right [x])) h2 (ho.put hx) (by simp; omega) hF))
  have hcall := Lib.hid (fun W0 (hb : Below W.heap.size W W0) => qHPush_any (hV.later hb) (by omega) hH x)
  have lp := hV.lp
  have hkeep := Lib.hid (fun X W0 W' (hr : W0.rangeAt W.heap.size 0 X) (hb : Below W.heap.size W W0) (hz : W.heap.size < W0.heap.size) (h : HeapPost W0 p v (t ++ [x]) W') => (show W'.rangeAt W.heap.size 0 X from by
    obtain ⟨t', -, -, v', -, h4, -⟩ := h
    exact fun j u hj => (h4.cell (p := ⟨W.heap.size, 0 + j, none⟩) hz (fun e => by have := hV.near _ e; exact Nat.lt_irrefl _ this)).trans (hr j u hj)))
  have hbx := Lib.hid (BoxAt.new W x.cells 34)
  have hi := Lib.hid (show (Try.prog.info? 34).map (·.size) = some x.cells.length by kernel_rfl)
  unfold itemV
  clear hV hp hH ho hl hF htl hlen hx
  have hS : ∀ W', Below W.heap.size W W' → ∀ X, BoxAt W' W.heap.size X → W'.rangeAt W.heap.size 0 X ∧ Below W.heap.size W W' ∧ W.heap.size < W'.heap.size := fun W' hb X h => ⟨h.range, hb, h.lt⟩
  have hbl : Below W.heap.size W (W.alloc (.cells x.cells.toArray 34)) := (Below.refl _ _).alloc (Nat.le_refl _) _
  have hS0 := Lib.hid (hS _ hbl.drew _ (hbx.out.later (Below.refl _ _).drew))
  clear hS
  go_enter Try.func9, Try.ntmps9
  generalize x.cells = X at *
  go_wp2_with fail
  refine wp_region_need (fun w' => w'.rangeAt W.heap.size 0 X) [0, 1, 2, 3, 4, 5] (by kernel_rfl) ?_
  refine need_takeL (i := 0) (v := ?cv45) rfl rfl (by kernel_rfl) (by kernel_rfl) (by kernel_rfl) (fun _ _ _ h => h) (Or.inl ⟨by rfl, ?ch45⟩) hS0.out.1 ?cr45
  case ch45 => (intro w' hSw; (try dsimp only at hSw); go_simp; first | done | with_reducible rfl)
  try simp only [Act.put, List.setIfInBounds_toArray, List.set_cons_zero, List.set_cons_succ]
  refine need_takeL (i := 1) (v := ?cv48) rfl rfl (by kernel_rfl) (by kernel_rfl) (by kernel_rfl) (fun _ _ _ h => h) (Or.inl ⟨by rfl, ?ch48⟩) hS0.out.1 ?cr48
  case ch48 => (intro w' hSw; (try dsimp only at hSw); go_simp; first | done | with_reducible rfl)
  try simp only [Act.put, List.setIfInBounds_toArray, List.set_cons_zero, List.set_cons_succ]
  refine need_takeL (i := 2) (v := ?cv51) rfl rfl (by kernel_rfl) (by kernel_rfl) (by kernel_rfl) (fun _ _ _ h => h) (Or.inl ⟨by rfl, ?ch51⟩) hS0.out.1 ?cr51
  case ch51 => (intro w' hSw; (try dsimp only at hSw); go_simp; first | done | with_reducible rfl)
  try simp only [Act.put, List.setIfInBounds_toArray, List.set_cons_zero, List.set_cons_succ]
  refine need_takeL (i := 3) (v := ?cv54) rfl rfl (by kernel_rfl) (by kernel_rfl) (by kernel_rfl) (fun _ _ _ h => h) (Or.inl ⟨by rfl, ?ch54⟩) hS0.out.1 ?cr54
  case ch54 => (intro w' hSw; (try dsimp only at hSw); go_simp; first | done | with_reducible rfl)
  try simp only [Act.put, List.setIfInBounds_toArray, List.set_cons_zero, List.set_cons_succ]
  refine need_takeL (i := 4) rfl rfl (by kernel_rfl) (by kernel_rfl) (by kernel_rfl) (fun _ _ _ h => h) (yields_loads rfl (W.heap.size) (0) rfl (X) _ (fun w' hSw => hSw) Try.underlying34 rfl hi.out) hS0.out.1 ?_
  try simp only [Act.put, List.setIfInBounds_toArray, List.set_cons_zero, List.set_cons_succ]
  refine need_takeL (i := 5) (v := ?cv59) rfl rfl (by kernel_rfl) (by kernel_rfl) (by kernel_rfl) (fun _ _ _ h => h) (Or.inl ⟨by rfl, ?ch59⟩) hS0.out.1 ?cr59
  case ch59 => (intro w' hSw; (try dsimp only at hSw); go_simp; first | done | with_reducible rfl)
  try simp only [Act.put, List.setIfInBounds_toArray, List.set_cons_zero, List.set_cons_succ]
  refine need_turnL (i := 6) rfl (by kernel_rfl) (by rfl) (fun K' hK' => ?_)
  go_simp
  refine (hcall.out _ hS0.out.2.1).mono ?_
  rintro e w2 ⟨rfl, hpo⟩
  refine hK' _ _ (fun _ => hkeep.out X _ _ hS0.out.1 hS0.out.2.1 hS0.out.2.2 hpo) ?_
  clear hK' K' hkeep
  try simp only [Act.put, List.setIfInBounds_toArray, List.set_cons_zero, List.set_cons_succ]
  refine need_done (by kernel_rfl) ?_ _
  have hfin := Lib.hid (hend.out _ _ hS0.out.2.1 hpo)
  clear hend hcall hS0 hbx hi hpo
  go_wp2
  go_end0
  exact ⟨rfl, hfin.out⟩
set_option maxRecDepth 100000 in
theorem quDrop1 (x : Qit) (s : Int) (B : Nat) (W : World) (hB : W.cell? ⟨B, 0, none⟩ = some (.int .i64 s)) (lB : B < W.heap.size) :
    Calls Try.prog 18 #[.agg x.cells.toArray, .pointer (some ⟨B, 0, none⟩)] W fun e W' => e = .returned (.bool (x.Stamp == s)) ∧ Below W.heap.size W W' := by
  obtain ⟨d, st, id⟩ := x
  dsimp only [Qit.cells]
  have hne : B ≠ W.heap.size := by omega
  go_enter Try.func18, Try.ntmps18
  go_wp2
  go_ret
  exact ⟨rfl, (Below.refl _ _).alloc (Nat.le_refl _) _⟩
def posQ (t : List Qit) (s : Int) : Nat := t.findIdx fun x => x.Stamp == s
def idxQ (t : List Qit) (s : Int) : Int := if posQ t s < t.length then ((posQ t s : Nat) : Int) else -1
theorem idxQ_none {t : List Qit} {s : Int} (h : ∀ i (hi : i < t.length), ((t[i]).Stamp == s) = false) : idxQ t s = -1 := by
  unfold idxQ posQ
  rw [if_neg]
  intro hlt
  have := List.findIdx_getElem (w := hlt)
  rw [h _ hlt] at this
  cases this
theorem idxQ_at {t : List Qit} {s : Int} {i : Nat} (hi : i < t.length) (h : ((t[i]).Stamp == s) = true) (hn : ∀ j (hj : j < t.length), j < i → ((t[j]).Stamp == s) = false) : idxQ t s = (i : Int) ∧ posQ t s = i := by
  have e : posQ t s = i := by
    unfold posQ
    rw [List.findIdx_eq hi]
    exact ⟨h, fun j hj => hn j (by omega) hj⟩
  unfold idxQ
  rw [e, if_pos hi]
  exact ⟨rfl, rfl⟩
set_option maxRecDepth 100000 in
set_option maxHeartbeats 1000000 in
theorem quIndex_any {W : World} {p : Nat} {v : Value} {t : List Qit} (h : QuV W p v t) (hn : t.length ≤ 50000) (s : Int) (B : Nat) (hB : W.cell? ⟨B, 0, none⟩ = some (.int .i64 s)) (lB : B < W.heap.size) :
    Calls Try.prog 17 #[v, .func (.func 18) #[] #[.pointer (some ⟨B, 0, none⟩)]] W fun e W' => e = .returned (.int .i64 (idxQ t s)) ∧ Below W.heap.size W W' := by
  have hat := Lib.hid (fun (i : Nat) (hi : i < t.length) => idxQ_at (s := s) hi)
  have hno := Lib.hid (idxQ_none (t := t) (s := s))
  have eg : ∀ args w, (callFunc 18 args).run Try.prog w = .ok (.enter 18 args) w := enters_of Try.func18 (by kernel_rfl) rfl
  have hcl := Lib.hid (fun (W' : World) (hb : Below W.heap.size W W') (x : Qit) => quDrop1 x s B W' ((hb.cell (p := ⟨B, 0, none⟩) lB).trans hB) (Nat.lt_of_lt_of_le lB hb.size))
  have hrow := Lib.hid (fun (W' : World) (hb : Below W.heap.size W W') => (h.later hb).own)
  have hsl := h.slice
  generalize hr : idxQ t s = r at *
  clear h hr hB
  rcases hsl with ⟨rfl, rfl⟩ | ⟨g, c, rfl, hg, hc, -⟩
  · have hr1 := Lib.hid (hno.out (fun i hi => by simp at hi))
    clear hat hno
    go_enter Try.func17, Try.ntmps17
    go_wp2_with fail
    go_loopw [8] (fun iv wr => iv = .int .i64 0 ∧ W = wr) (fun _ _ => 0)
    case atStart => exact ⟨rfl, rfl⟩
    case round =>
      obtain ⟨rfl, rfl⟩ := hrel
      go_wp2
      go_ret
      exact ⟨by rw [hr1.out]; rfl, Below.refl _ _⟩
  · go_enter Try.func17, Try.ntmps17
    go_wp2_with fail
    go_loopw [8] (fun iv wr => ∃ i : Nat, i ≤ t.length ∧ iv = .int .i64 i ∧ (∀ j (hj : j < t.length), j < i → ((t[j]).Stamp == s) = false) ∧ Below W.heap.size W wr) (fun iv _ => (t.length - RowKit.intOf iv).toNat)
    case atStart => exact ⟨0, by omega, rfl, fun j hj h => by omega, Below.refl _ _⟩
    case round =>
      obtain ⟨i, hi, rfl, hne, hb⟩ := hrel
      by_cases hlt : i < t.length
      · have hix := Lib.hid (fun w => run_idx_qit g t.length c i hlt w)
        have hrg := Lib.hid (rowK_range qitK (hrow.out wr hb) i hlt)
        have hc1 := hcl.out wr hb t[i]
        have hat1 := Lib.hid (hat.out i hlt)
        have hltI : ((i : Nat) : Int) < ((t.length : Nat) : Int) := by omega
        have hi4 := Lib.hid (show (Try.prog.info? 34).map (·.size) = some (t[i]).cells.length by kernel_rfl)
        have hnx := Lib.hid (fun (hq : ((t[i]).Stamp == s) = false) (j : Nat) (hj : j < t.length) (hji : j < i + 1) => (show ((t[j]).Stamp == s) = false from by
          by_cases e : j = i
          · subst e; exact hq
          · exact hne j hj (by omega)))
        replace hne := Lib.hid hne
        generalize hq : ((t[i]).Stamp == s) = q at *
        replace hc1 := Lib.hid hc1
        generalize (t[i]).cells = X at *
        clear hq hat hno hrow hcl
        cases q with
        | true =>
          go_wp2_with (first
            | (refine wpList_index_run rfl _ _ _ rfl (.slice (some ⟨g, 0, none⟩) t.length c) (.int .i64 (i : Int)) _ rfl rfl (hix.out _) ?_)
            | (refine wpList_load_midg rfl _ _ rfl g (i * 4) rfl X _ hrg.out Try.underlying34 rfl hi4.out ?_))
          refine hc1.out.mono ?_
          rintro e w2 ⟨rfl, hb2⟩
          have hfin := Lib.hid (hb.trans (hb2.mono hb.size))
          have hrr := Lib.hid (hat1.out (by trivial) hne.out).1
          clear hb hb2 hc1 hat1 hrg hnx hne
          go_wp2
          go_ret
          exact ⟨by rw [hrr.out]; rfl, hfin.out⟩
        | false =>
          go_wp2_with (first
            | (refine wpList_index_run rfl _ _ _ rfl (.slice (some ⟨g, 0, none⟩) t.length c) (.int .i64 (i : Int)) _ rfl rfl (hix.out _) ?_)
            | (refine wpList_load_midg rfl _ _ rfl g (i * 4) rfl X _ hrg.out Try.underlying34 rfl hi4.out ?_))
          refine hc1.out.mono ?_
          rintro e w2 ⟨rfl, hb2⟩
          have hfin := Lib.hid (hb.trans (hb2.mono hb.size))
          clear hb hb2 hc1 hat1 hrg hne
          go_wp2_with fail
          exact ⟨⟨i + 1, by omega, by go_num, hnx.out (by trivial), hfin.out⟩, by simp [RowKit.intOf]; omega⟩
      · obtain rfl : i = t.length := by omega
        have hr1 := Lib.hid (hno.out (fun j hj => hne j hj hj))
        clear hat hno hne hrow hcl
        go_wp2
        go_ret
        exact ⟨by rw [hr1.out]; rfl, hb⟩
end
end Go.Proofs.Ytgdlcfkgdaaooaa
