/- Stage 11: ProbeDoes' walk. No condition but the landed package's. -/
import Derived.Test.YtpopbdladlahjaaRg
namespace Go.Proofs.Ytpopbdladlahjaa
open Go.RowKit Go.Sort Wm

/-- The landed table that isn't there. -/
structure LandedTbNil : Prop where
  get : ∀ W (k : Nat), k < big → Calls Try.prog 10 #[.pointer none, numV k] W fun e W' => e = .returned (.tuple #[.int .i64 0, .bool false]) ∧ Below W.heap.size W W'
  put : ∀ W (k : Nat) (v : Int), k < big → -9223372036854775808 ≤ v → v ≤ 9223372036854775807 → Calls Try.prog 11 #[.pointer none, numV k, .int .i64 v] W fun e W' => e = .returned (.bool false) ∧ Below W.heap.size W W'
  drop : ∀ W (k : Nat), k < big → Calls Try.prog 12 #[.pointer none, numV k] W fun e W' => e = .returned (.bool false) ∧ Below W.heap.size W W'
  len : ∀ W, Calls Try.prog 9 #[.pointer none] W fun e W' => e = .returned (.int .i64 0) ∧ Below W.heap.size W W'
  cells : ∀ W, Calls Try.prog 13 #[.pointer none] W fun e W' => e = .returned (.int .i64 0) ∧ Below W.heap.size W W'
theorem getT_at : ∀ (m : Tbl), OnceT m → ∀ (i : Nat) (h : i < m.length), getT m (m[i]).1 = some (m[i]).2
  | [], _, _, h => absurd h (Nat.not_lt_zero _)
  | (a, u) :: r, ho, 0, _ => by
    show getT ((a, u) :: r) a = some u
    unfold getT
    rw [if_pos rfl]
  | (a, u) :: r, ho, i + 1, h => by
    have ha : a ∉ r.map Prod.fst := (List.nodup_cons.1 ho).1
    have hi : i < r.length := by simpa using h
    have hne : ¬ a = (r[i]).1 := fun e => ha (by rw [e]; exact List.mem_map_of_mem (List.getElem_mem hi))
    show getT ((a, u) :: r) (r[i]).1 = some (r[i]).2
    unfold getT
    rw [if_neg hne]
    exact getT_at r (List.nodup_cons.1 ho).2 i hi
theorem callT_names (m : Tbl) (c : Pcall) : ∀ x ∈ (callT m c).map Prod.fst, x = c.Key ∨ x ∈ m.map Prod.fst := by
  intro x hx
  unfold callT at hx
  split at hx
  · rw [putT_names] at hx
    split at hx
    · exact .inr hx
    · rcases List.mem_append.1 hx with h | h
      · exact .inr h
      · exact .inl (List.mem_singleton.1 h)
  · split at hx
    · exact .inr ((dropT_sub m c.Key).subset hx)
    · exact .inr hx
theorem run_big (l : List Pcall) : ∀ (m : Tbl), (∀ c ∈ l, c.Key < big) → (∀ x ∈ m.map Prod.fst, x < big) → ∀ x ∈ (l.foldl callT m).map Prod.fst, x < big := by
  induction l with
  | nil => intro m _ h; exact h
  | cons c r ih =>
    intro m hc h
    refine ih (callT m c) (fun c' hc' => hc c' (List.mem_cons_of_mem _ hc')) (fun x hx => ?_)
    rcases callT_names m c x hx with rfl | h2
    · exact hc c (List.mem_cons_self ..)
    · exact h x h2
theorem runT_big {l : List Pcall} (hl : ∀ c ∈ l, c.Wf) (k : Nat) : ∀ i (h : i < (runT (l.take k)).length), ((runT (l.take k))[i]).1 < big := fun i h =>
  run_big (l.take k) [] (fun c hc => (hl c (List.mem_of_mem_take hc)).Key) (fun x hx => by cases hx) _ (List.mem_map_of_mem (List.getElem_mem h))
theorem tbRef_new (W : World) : ∃ G, TbRef G (W.alloc (.cells #[.slice none 0 0, .slice none 0 0] 30)) W.heap.size [] ∧ ∀ k, G k → k = W.heap.size := by
  refine ⟨footT W.heap.size (.slice none 0 0) (.slice none 0 0), ⟨.slice none 0 0, .slice none 0 0, ?_, fun _ => Iff.rfl⟩, fun k hk => ?_⟩
  · refine ⟨by simp [go_sem], by simp [go_sem], fun j => by simp [go_sem], by simp, ⟨rfl, .inl ⟨rfl, rfl⟩⟩, ⟨rfl, .inl ⟨rfl, rfl⟩⟩, (fun e => by cases e), (fun e => by cases e), (fun k e => by cases e)⟩
  · rcases hk with e | e | e
    · exact e
    · cases e
    · cases e
theorem On2.start {Tb : Kind Tbl} (K : IsKind Tb) {w wr : World} {p : Nat} {m : Tbl} (h : On Tb w wr p m) : On2 Tb TbRef w (wr.alloc (.cells #[.slice none 0 0, .slice none 0 0] 30)) p m wr.heap.size [] := by
  obtain ⟨⟨F, h1, h2⟩, h3⟩ := h
  obtain ⟨G, g1, g2⟩ := tbRef_new wr
  have hb : Below wr.heap.size wr (wr.alloc (.cells #[.slice none 0 0, .slice none 0 0] 30)) := (Below.refl _ _).alloc (Nat.le_refl _) _
  exact ⟨⟨F, G, K.later h1 hb, g1, fun k hf hg => Nat.lt_irrefl _ (by have := K.near _ _ _ _ h1 k hf; rw [g2 k hg] at this; exact this), h2, fun k hg => by rw [g2 k hg]; exact h3.size⟩, h3.trans (hb.mono h3.size)⟩
/-- What is seen of the document's table. -/
structure Seen (W : World) (q : Nat) (m : Tbl) (ao bo : Option Addr) (ca cb : Nat) : Prop where
  c0 : W.cell? ⟨q, 0, none⟩ = some (.slice ao m.length ca)
  c1 : W.cell? ⟨q, 1, none⟩ = some (.slice bo m.length cb)
  lt : q < W.heap.size
  at_ : ∀ i (h : i < m.length), ∃ g z, ao = some ⟨g, 0, none⟩ ∧ bo = some ⟨z, 0, none⟩ ∧ g < W.heap.size ∧ z < W.heap.size ∧ W.cell? ⟨g, i * 2, none⟩ = some (.int .u64 ((hiN (m[i]).1 : Nat) : Int)) ∧ W.cell? ⟨g, i * 2 + 1, none⟩ = some (.int .u64 ((loN (m[i]).1 : Nat) : Int)) ∧ W.cell? ⟨z, i, none⟩ = some (.int .i64 (m[i]).2)
theorem Seen.later {W W' : World} {q : Nat} {m : Tbl} {ao bo : Option Addr} {ca cb : Nat} (h : Seen W q m ao bo ca cb) (hb : Below W.heap.size W W') : Seen W' q m ao bo ca cb := by
  refine ⟨(hb.cell (p := ⟨q, 0, none⟩) h.lt).trans h.c0, (hb.cell (p := ⟨q, 1, none⟩) h.lt).trans h.c1, Nat.lt_of_lt_of_le h.lt hb.size, fun i hi => ?_⟩
  obtain ⟨g, z, e1, e2, hg, hz, x0, x1, x2⟩ := h.at_ i hi
  exact ⟨g, z, e1, e2, Nat.lt_of_lt_of_le hg hb.size, Nat.lt_of_lt_of_le hz hb.size, (hb.cell (p := ⟨g, i * 2, none⟩) hg).trans x0, (hb.cell (p := ⟨g, i * 2 + 1, none⟩) hg).trans x1, (hb.cell (p := ⟨z, i, none⟩) hz).trans x2⟩
theorem TbRef.seen {G : Nat → Prop} {W : World} {q : Nat} {m : Tbl} (h : TbRef G W q m) : ∃ ao bo ca cb, Seen W q m ao bo ca cb := by
  obtain ⟨vk, va, hV, -⟩ := h
  have l0 : (m.map Prod.fst).length = m.length := List.length_map ..
  have l1 : (m.map Prod.snd).length = m.length := List.length_map ..
  have h0 := own_slice hV.o0
  have h1 := own_slice hV.o1
  rw [l0] at h0
  rw [l1] at h1
  rcases h0 with ⟨rfl, hz⟩ | ⟨g, ca, rfl, hg, _, hcl, -⟩
  · rcases h1 with ⟨rfl, -⟩ | ⟨z, cb, rfl, hz2, _, hcz, -⟩
    · exact ⟨none, none, 0, 0, by rw [hz]; exact hV.c0, by rw [hz]; exact hV.c1, hV.lt, fun i hi => by omega⟩
    · exact ⟨none, some ⟨z, 0, none⟩, 0, cb, by rw [hz]; exact hV.c0, hV.c1, hV.lt, fun i hi => by omega⟩
  · rcases h1 with ⟨rfl, hz⟩ | ⟨z, cb, rfl, hz2, _, hcz, -⟩
    · exact ⟨some ⟨g, 0, none⟩, none, ca, 0, hV.c0, by rw [hz]; exact hV.c1, hV.lt, fun i hi => by omega⟩
    · refine ⟨some ⟨g, 0, none⟩, some ⟨z, 0, none⟩, ca, cb, hV.c0, hV.c1, hV.lt, fun i hi => ?_⟩
      have hi0 : i < (m.map Prod.fst).length := by rw [l0]; exact hi
      have e0 := rowN_at (m.map Prod.fst) i 0 hi0 (by omega)
      have e1 := rowN_at (m.map Prod.fst) i 1 hi0 (by omega)
      rw [List.getElem_map] at e0 e1
      refine ⟨g, z, rfl, rfl, hg, hz2, hcl _ _ e0, hcl _ _ e1, hcz _ _ ?_⟩
      unfold rowZ
      rw [List.getElem?_map, List.getElem?_map, List.getElem?_eq_getElem hi]
      rfl
section
variable {Tb : Kind Tbl}
set_option maxRecDepth 100000 in
set_option maxHeartbeats 4000000 in
theorem probeDoes_any (K : LandedTb Tb) (Z : LandedTbNil) (ao : Option Addr) (cap : Nat) (l : List Pcall) (hl : ∀ c ∈ l, c.Wf) (hlen : l.length ≤ 140737488351232) (w : World) (hA : PcallsAt w ao l) :
    Calls Try.prog 3 #[.slice ao l.length cap] w fun e w' => e = .returned (.bool true) ∧ Below w.heap.size w w' := by
  have hal := Lib.hid (probeAlive_any K)
  by_cases hbig : 400 < l.length
  · have hb : decide (400 < ((l.length : Nat) : Int)) = true := decide_eq_true (by omega)
    go_enter Try.func3, Try.ntmps3
    go_wp2_with fail
    refine (hal.out _).mono ?_
    rintro e w1 ⟨rfl, hb1⟩
    go_wp2
    go_ret
    exact ⟨rfl, hb1⟩
  · have hb : decide (400 < ((l.length : Nat) : Int)) = false := decide_eq_false (by omega)
    have hrun : ∀ k, (runT (l.take k)).length ≤ 1000 := fun k => by
      have h1 := runT_length (l.take k)
      have h2 : (l.take k).length ≤ l.length := by rw [List.length_take]; omega
      omega
    have hnext : ∀ k (h : k < l.length), runT (l.take (k + 1)) = callT (runT (l.take k)) l[k] := fun k h => by
      rw [← runT_snoc, ← List.take_append_getElem h]
    replace hnext := Lib.hid hnext
    replace hrun := Lib.hid hrun
    have hbig' := Lib.hid hbig
    have hz := fun W => Z.get W 0 (by rw [big_eq]; omega)
    have hz1 := fun W => Z.put W 0 1 (by rw [big_eq]; omega) (by omega) (by omega)
    have hz2 := fun W => Z.drop W 0 (by rw [big_eq]; omega)
    have hz3 := Z.len
    have hz4 := Z.cells
    have e0 : numV 0 = .agg #[.int .u64 0, .int .u64 0] := rfl
    rw [e0] at hz hz1 hz2
    replace hz := Lib.hid hz
    replace hz1 := Lib.hid hz1
    replace hz2 := Lib.hid hz2
    replace hz3 := Lib.hid hz3
    replace hz4 := Lib.hid hz4
    clear hbig e0 Z
    go_enter Try.func3, Try.ntmps3
    go_wp2_with fail
    refine (hal.out _).mono ?_
    rintro e w1 ⟨rfl, hb1⟩
    go_wp2_with fail
    refine (K.new _).mono ?_
    rintro e w2 hm
    obtain ⟨p, _, rfl, -⟩ := id hm
    have hT0 := On2.start K.toIsKind (On.made hb1 hm)
    clear hm
    go_wp2_with fail
    go_loopw [24] (fun iv wr => ∃ k : Nat, k ≤ l.length ∧ iv = .int .i64 k ∧ On2 Tb TbRef w wr p (runT (l.take k)) w2.heap.size (runT (l.take k))) (fun iv _ => (l.length - RowKit.intOf iv).toNat)
    case atStart => exact ⟨0, by omega, rfl, hT0⟩
    case round =>
      clear hT0
      obtain ⟨k, hk, rfl, hT⟩ := hrel
      by_cases hlt : k < l.length
      · have hbw := hT.below
        obtain ⟨b, off, rfl, hbl, hc⟩ := (hA.below hbw (Nat.le_refl _)).spot k hlt
        have hx := hl _ (List.getElem_mem hlt)
        have hn := hnext.out k hlt
        have hlen1 := hrun.out k
        have hfin := Lib.hid (fun (w9 : World) (hT : On2 Tb TbRef w w9 p (runT (l.take (k + 1))) w2.heap.size (runT (l.take (k + 1)))) => show (∃ k1 : Nat, k1 ≤ l.length ∧ (Value.int .i64 ((k : Int) + 1)) = .int .i64 k1 ∧ On2 Tb TbRef w w9 p (runT (l.take k1)) w2.heap.size (runT (l.take k1))) ∧ (l.length - RowKit.intOf (.int .i64 ((k : Int) + 1))).toNat < (l.length - RowKit.intOf (.int .i64 (k : Int))).toNat from
          ⟨⟨k + 1, by omega, by go_num, hT⟩, by simp [RowKit.intOf]; omega⟩)
        rw [hn] at hfin
        generalize l[k] = x at *
        generalize runT (l.take k) = m at *
        have kd := Lib.hid (fun W (h : On2 Tb TbRef w W p m w2.heap.size m) => does_any K h hlen1 x hx)
        rw [pcallV_eq] at kd
        generalize callT m x = m2 at *
        have klen := Lib.hid (fun W (h : On2 Tb TbRef w W p m2 w2.heap.size m2) => (show Calls Try.prog 9 #[.pointer (some ⟨p, 0, none⟩)] W fun e W' => e = .returned (.int .i64 ((m2.length : Nat) : Int)) ∧ Below W.heap.size W W' from by
          obtain ⟨⟨F, G, h1, _⟩, _⟩ := h
          exact K.len F W p m2 h1))
        have hsn := Lib.hid (fun W (h : On2 Tb TbRef w W p m2 w2.heap.size m2) => (show ∃ ao bo ca cb, Seen W w2.heap.size m2 ao bo ca cb from by
          obtain ⟨⟨F, G, _, h2, _⟩, _⟩ := h
          exact h2.seen))
        obtain ⟨kind, kk, at'⟩ := x
        dsimp only [Pcall.cells] at hc kd
        have c0 := hc 0 _ rfl
        have c1 := hc 1 _ rfl
        have c2 := hc 2 _ rfl
        have c3 := hc 3 _ rfl
        dsimp only [Nat.add_zero] at c0 c1 c2 c3
        have hal2 : Below wr.heap.size wr ((wr.alloc (.cells #[.int .i64 kind, .int .u64 ((hiN kk : Nat) : Int), .int .u64 ((loN kk : Nat) : Int), .int .i64 at'] 35)).drew) := ((Below.refl _ _).alloc (Nat.le_refl _) _).drew
        have hT2 := hT.later K.toIsKind tbRef_kind hal2
        have hxb := BoxAt.new wr [.int .i64 kind, .int .u64 ((hiN kk : Nat) : Int), .int .u64 ((loN kk : Nat) : Int), .int .i64 at'] 35
        have hlat := Lib.hid (fun W W2 (h : On2 Tb TbRef w W p m2 w2.heap.size m2) (hb : Below W.heap.size W W2) => h.later K.toIsKind tbRef_kind hb)
        clear hc hT hnext hrun hl hA hlen1 hx hal2 hbig' hal hb1 hbw hn hz hz1 hz2 hz3 hz4
        go_wp2_with fail
        refine wp_region_need (fun _ => True) [0, 1] (by kernel_rfl) ?_
        refine need_takeL (i := 0) (v := ?cv184) rfl rfl (by kernel_rfl) (by kernel_rfl) (by kernel_rfl) (fun _ _ _ h => h) (Or.inl ⟨by rfl, ?ch184⟩) trivial ?cr184
        case ch184 => (intro w' hSw; (try dsimp only at hSw); go_simp; first | done | with_reducible rfl)
        try simp only [Act.put, List.setIfInBounds_toArray, List.set_cons_zero, List.set_cons_succ]
        refine need_takeL (i := 1) (v := ?cv187) rfl rfl (by kernel_rfl) (by kernel_rfl) (by kernel_rfl) (fun _ _ _ h => h) (Or.inl ⟨by rfl, ?ch187⟩) trivial ?cr187
        case ch187 => (intro w' hSw; (try dsimp only at hSw); go_simp; first | done | with_reducible rfl)
        try simp only [Act.put, List.setIfInBounds_toArray, List.set_cons_zero, List.set_cons_succ]
        refine need_turnL (i := 2) rfl (by kernel_rfl) (by rfl) (fun K' hK' => ?_)
        go_simp
        refine hK' _ _ (fun _ => trivial) ?_
        clear hK' K'
        try simp only [Act.put, List.setIfInBounds_toArray, List.set_cons_zero, List.set_cons_succ]
        refine need_turnL (i := 3) rfl (by kernel_rfl) (by rfl) (fun K' hK' => ?_)
        go_simp
        refine (kd.out _ hT2).mono ?_
        rintro e w5 ⟨rfl, hT5⟩
        refine hK' _ _ (fun _ => trivial) ?_
        clear hK' K'
        try simp only [Act.put, List.setIfInBounds_toArray, List.set_cons_zero, List.set_cons_succ]
        refine need_turnL (i := 4) rfl (by kernel_rfl) (by rfl) (fun K' hK' => ?_)
        go_simp
        refine hK' _ _ (fun _ => trivial) ?_
        clear hK' K'
        try simp only [Act.put, List.setIfInBounds_toArray, List.set_cons_zero, List.set_cons_succ]
        refine need_turnL (i := 5) rfl (by kernel_rfl) (by rfl) (fun K' hK' => ?_)
        go_simp
        refine hK' _ _ (fun _ => trivial) ?_
        clear hK' K'
        try simp only [Act.put, List.setIfInBounds_toArray, List.set_cons_zero, List.set_cons_succ]
        obtain ⟨ao, bo, ca, cb, hse⟩ := hsn.out _ hT5
        refine need_more (S2 := fun w' => w'.cell? ⟨w2.heap.size, 0, none⟩ = some (.slice ao m2.length ca) ∧ w2.heap.size < w'.heap.size) (need2 := [0, 1, 6, 8, 9, 10, 11, 12]) (fun _ _ => trivial) (by decide) _ _ _ _ ?_
        have hS5 : w5.cell? ⟨w2.heap.size, 0, none⟩ = some (.slice ao m2.length ca) ∧ w2.heap.size < w5.heap.size := ⟨hse.c0, hse.lt⟩
        refine need_takeL (i := 6) (v := ?cv215) rfl rfl (by kernel_rfl) (by kernel_rfl) (by kernel_rfl) (fun _ _ _ h => h) (Or.inl ⟨by rfl, ?ch215⟩) hS5 ?cr215
        case ch215 => (intro w' hSw; (try dsimp only at hSw); go_simp; first | done | with_reducible rfl)
        try simp only [Act.put, List.setIfInBounds_toArray, List.set_cons_zero, List.set_cons_succ]
        refine need_takeL (i := 8) (v := ?cv218) rfl rfl (by kernel_rfl) (by kernel_rfl) (by kernel_rfl) (fun _ _ _ h => h) (Or.inl ⟨by rfl, ?ch218⟩) hS5 ?cr218
        case ch218 => (intro w' hSw; (try dsimp only at hSw); go_simp; first | done | with_reducible rfl)
        try simp only [Act.put, List.setIfInBounds_toArray, List.set_cons_zero, List.set_cons_succ]
        refine need_takeL (i := 9) (v := ?cv221) rfl rfl (by kernel_rfl) (by kernel_rfl) (by kernel_rfl) (fun _ _ _ h => h) (Or.inl ⟨by rfl, ?ch221⟩) hS5 ?cr221
        case ch221 => (intro w' hSw; (try dsimp only at hSw); go_simp; first | done | with_reducible rfl)
        try simp only [Act.put, List.setIfInBounds_toArray, List.set_cons_zero, List.set_cons_succ]
        refine need_takeL (i := 10) (v := ?cv224) rfl rfl (by kernel_rfl) (by kernel_rfl) (by kernel_rfl) (fun _ _ _ h => h) (Or.inl ⟨by rfl, ?ch224⟩) hS5 ?cr224
        case ch224 => (intro w' hSw; (try dsimp only at hSw); go_simp; first | done | with_reducible rfl)
        try simp only [Act.put, List.setIfInBounds_toArray, List.set_cons_zero, List.set_cons_succ]
        refine need_takeL (i := 11) (v := ?cv227) rfl rfl (by kernel_rfl) (by kernel_rfl) (by kernel_rfl) (fun _ _ _ h => h) (Or.inl ⟨by rfl, ?ch227⟩) hS5 ?cr227
        case ch227 => (intro w' hSw; (try dsimp only at hSw); go_simp; first | done | with_reducible rfl)
        try simp only [Act.put, List.setIfInBounds_toArray, List.set_cons_zero, List.set_cons_succ]
        refine need_takeL (i := 12) (v := ?cv230) rfl rfl (by kernel_rfl) (by kernel_rfl) (by kernel_rfl) (fun _ _ _ h => h) (Or.inl ⟨by rfl, ?ch230⟩) hS5 ?cr230
        case ch230 => (intro w' hSw; (try dsimp only at hSw); go_simp; first | done | with_reducible rfl)
        try simp only [Act.put, List.setIfInBounds_toArray, List.set_cons_zero, List.set_cons_succ]
        refine need_turnL (i := 7) rfl (by kernel_rfl) (by rfl) (fun K' hK' => ?_)
        go_simp
        refine (klen.out _ hT5).mono ?_
        rintro e w6 ⟨rfl, hb6⟩
        have hS6 : w6.cell? ⟨w2.heap.size, 0, none⟩ = some (.slice ao m2.length ca) ∧ w2.heap.size < w6.heap.size := ⟨(hse.later hb6).c0, (hse.later hb6).lt⟩
        have hT6 := hlat.out _ _ hT5 hb6
        refine hK' _ _ (fun _ => hS6) ?_
        clear hK' K'
        try simp only [Act.put, List.setIfInBounds_toArray, List.set_cons_zero, List.set_cons_succ]
        refine need_turnL (i := 13) rfl (by kernel_rfl) (by rfl) (fun K' hK' => ?_)
        go_simp
        refine hK' _ _ (fun _ => hS6) ?_
        clear hK' K'
        try simp only [Act.put, List.setIfInBounds_toArray, List.set_cons_zero, List.set_cons_succ]
        refine need_turnL (i := 14) rfl (by kernel_rfl) (by rfl) (fun K' hK' => ?_)
        go_simp
        refine hK' _ _ (fun _ => hS6) ?_
        clear hK' K'
        try simp only [Act.put, List.setIfInBounds_toArray, List.set_cons_zero, List.set_cons_succ]
        refine need_done (by kernel_rfl) ?_ _
        clear kd klen hsn hlat hse hS5 hS6 hT5 hb6 hT2 hxb c0 c1 c2 c3
        go_wp2_with fail
        exact hfin.out _ hT6
      · obtain rfl : k = l.length := by omega
        have honce := runT_once (l.take l.length)
        have hks := runT_big hl l.length
        have hlm := hrun.out l.length
        generalize runT (l.take l.length) = m at *
        have hbw := hT.below
        obtain ⟨⟨F, G, hF, hG, -⟩, -⟩ := hT
        obtain ⟨ao, bo, ca, cb, hse⟩ := hG.seen
        have hgt := Lib.hid (fun i (h : i < m.length) => getT_at m honce i h)
        have kget := Lib.hid (fun W' (hb : Below wr.heap.size wr W') (kk : Nat) (hk : kk < big) => K.get F W' p m kk (K.toIsKind.later hF hb) hk)
        replace hks := Lib.hid hks
        obtain ⟨wq, hwq⟩ : ∃ wq, wq = wr := ⟨wr, rfl⟩
        subst hwq
        clear hnext hrun hl hA hbig' hal hb1 hF hG honce
        have s0 := hse.c0
        have sl := hse.lt
        go_wp2_with fail
        go_loopw [49] (fun iv w5 => ∃ i : Nat, i ≤ m.length ∧ iv = .int .i64 i ∧ Below wq.heap.size wq w5) (fun iv _ => (m.length - RowKit.intOf iv).toNat)
        case atStart => exact ⟨0, by omega, rfl, Below.refl _ _⟩
        case round =>
          clear s0 sl
          obtain ⟨i, hi, rfl, hb5⟩ := hrel
          by_cases hil : i < m.length
          · have hse5 := hse.later hb5
            obtain ⟨g, z, rfl, rfl, hg, hz5, x0, x1, x2⟩ := hse5.at_ i hil
            have hgi := hgt.out i hil
            have hki := hks.out i hil
            have kg := Lib.hid (fun W' (hb : Below wq.heap.size wq W') => kget.out W' hb _ hki)
            rw [hgi] at kg
            generalize (m[i]).1 = kk at *
            generalize (m[i]).2 = vv at *
            have ilt : ((i : Nat) : Int) < ((m.length : Nat) : Int) := by omega
            have hal5 : Below wq.heap.size wq (wr.alloc (.cells #[.int .u64 ((hiN kk : Nat) : Int), .int .u64 ((loN kk : Nat) : Int)] 33)) := hb5.alloc hb5.size _
            unfold numV at kg
            go_wp2_with fail
            refine (kg.out _ hal5).mono ?_
            rintro e w6 ⟨rfl, hb6⟩
            have hb7 := hal5.trans (hb6.mono hal5.size)
            have hse7 := hse.later hb7
            have y1 := hse7.c1
            have yl := hse7.lt
            have hbz := (hal5.size)
            have hz7 : z < w6.heap.size := Nat.lt_of_lt_of_le hz5 (Nat.le_trans (by simp) hb6.size)
            have y2 : w6.cell? ⟨z, i, none⟩ = some (.int .i64 vv) := (hb6.cell (p := ⟨z, i, none⟩) (Nat.lt_of_lt_of_le hz5 (by simp))).trans ((((Below.refl _ _).alloc (Nat.le_refl _) _ : Below wr.heap.size wr (wr.alloc (.cells #[.int .u64 ((hiN kk : Nat) : Int), .int .u64 ((loN kk : Nat) : Int)] 33))).cell (p := ⟨z, i, none⟩) hz5).trans x2)
            clear kg kget hgt hks hse hse5 hse7 x0 x1 x2 hal5 hb5 hb6 hbz hg hz5
            go_wp2_with fail
            exact ⟨⟨i + 1, by omega, by go_num, hb7⟩, by simp [RowKit.intOf]; omega⟩
          · obtain rfl : i = m.length := by omega
            go_wp2_with fail
            refine (hz.out _).mono ?_
            rintro e v1 ⟨rfl, q1⟩
            have q := hbw.trans (hb5.mono hbw.size) |>.trans (q1.mono (by have := hbw.size; have := hb5.size; omega))
            go_wp2_with fail
            refine (hz1.out _).mono ?_
            rintro e v2 ⟨rfl, q2⟩
            replace q := q.trans (q2.mono q.size)
            go_wp2_with fail
            refine (hz2.out _).mono ?_
            rintro e v3 ⟨rfl, q3⟩
            replace q := q.trans (q3.mono q.size)
            go_wp2_with fail
            refine (hz3.out _).mono ?_
            rintro e v4 ⟨rfl, q4⟩
            replace q := q.trans (q4.mono q.size)
            go_wp2_with fail
            refine (hz4.out _).mono ?_
            rintro e v5 ⟨rfl, q5⟩
            replace q := q.trans (q5.mono q.size)
            go_wp2
            go_ret
            exact ⟨rfl, q⟩
end
end Go.Proofs.Ytpopbdladlahjaa
