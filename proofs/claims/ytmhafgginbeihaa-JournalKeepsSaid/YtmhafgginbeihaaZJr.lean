/- JournalKeeps' own small functions: great, text, tail. No condition but sizes. -/
import Derived.Test.YtmhafgginbeihaaZJp
import Derived.Test.YtmhafgginbeihaaZJs
import Derived.WalkSpells
import Derived.WalkLawsBesides
namespace Go.Proofs.Ytmhafgginbeihaa
open Go.RowKit Go.Sort Cr

/-- 'append' under a guard that holds, by its run. -/
theorem wpList_append_guarded {P : Program} (w : World) {ops : Array Oper} {rest : List Oper} {o : Oper} {a : Act} {Q : Exit → Act → World → Prop} (hw : Region.wanted o (yielded ops a.tmps) = true) (s x : Operand) (t tn : TypeId)
    (ho : o.op = .call { callee := .builtin .append, args := #[s, x], argTypes := #[t, tn] }) (vs vx : Value) (hs : a.eval s = vs) (hx : a.eval x = vx)
    (v' : Value) (w' : World) (hr : (Builtin.append_ #[t, tn] o.type #[vs, vx]).run P w = .ok v' w') (h : wpList P ops Q rest (a.put o.dst v') w') : wpList P ops Q (o :: rest) a w :=
  wpList_step fun K hK => by simp only [hw, if_true]; exact Lib.wp_append_run w s x t tn ho vs vx hs hx v' w' hr (hK _ _ h)

/-- What may be played. -/
structure Plays (l : List StepJ) : Prop where
  few : l.length ≤ 60
  size : ∀ k (h : k < l.length), l[k].Kind = 0 → 0 ≤ l[k].N ∧ l[k].N ≤ 4096
def GreatPost (l : List StepJ) (w : World) (e : Ending) (w' : World) : Prop := ∃ b, e = .returned (.bool b) ∧ (b = false → Plays l) ∧ Below w.heap.size w w'
def TextPost (n : Nat) (w : World) (e : Ending) (w' : World) : Prop := ∃ t : ByteArray, t.size = n ∧ e = .returned (.string t) ∧ Below w.heap.size w w'
set_option maxRecDepth 100000 in
set_option maxHeartbeats 1000000 in
theorem greatj_any (ao : Option Addr) (cap : Nat) (l : List StepJ) (hw : ∀ x ∈ l, x.Wf) (hlen : l.length ≤ 140737488351232) (w : World) (hS : StepJsAt w ao l) :
    Calls Try.prog 9 #[.slice ao l.length cap] w (GreatPost l w) := by
  go_enter Try.func9, Try.ntmps9
  go_wp2
  go_loopw [3, 8] (fun n i wr => ∃ (k : Nat) (z : Int), k ≤ l.length ∧ i = .int .i64 k ∧ n = .int .i64 z ∧ 0 ≤ z ∧ z ≤ 4096 * (k : Int) ∧ (∀ m (h : m < l.length), m < k → l[m].Kind = 0 → 0 ≤ l[m].N ∧ l[m].N ≤ 4096) ∧ Below w.heap.size w wr) (fun _ i _ => (l.length - RowKit.intOf i).toNat)
  case atStart => exact ⟨0, 0, by omega, rfl, rfl, by omega, by omega, fun m _ hm => by omega, Below.refl _ _⟩
  case round =>
    obtain ⟨k, z, hk, rfl, rfl, hz0, hz1, hall, hb⟩ := hrel
    by_cases hlt : k < l.length
    · obtain ⟨b, off, rfl, hbl, hc⟩ := (hS.below hb (Nat.le_refl _)).spot k hlt
      have hx := hw _ (List.getElem_mem hlt)
      have hall2 : (l[k].Kind = 0 → 0 ≤ l[k].N ∧ l[k].N ≤ 4096) → ∀ m (h : m < l.length), m < k + 1 → l[m].Kind = 0 → 0 ≤ l[m].N ∧ l[m].N ≤ 4096 := fun h1 m h hm => by
        by_cases e : m = k
        · subst e; exact h1
        · exact hall m h (by omega)
      have hxN := hx.N
      clear hx hall
      generalize l[k] = x at *
      have c0 := hc 0 _ rfl
      have c1 := hc 1 _ rfl
      have c2 := hc 2 _ rfl
      have c3 := hc 3 _ rfl
      have c4 := hc 4 _ rfl
      have c5 := hc 5 _ rfl
      dsimp only [Nat.add_zero] at c0
      clear hc
      replace hall2 := Lib.hid hall2
      by_cases hkd : x.Kind = 0
      · have hkb : (x.Kind == 0) = true := beq_iff_eq.2 hkd
        by_cases hn : 0 ≤ x.N ∧ x.N ≤ 4096
        · obtain ⟨n0, n1⟩ := hn
          have hwr : IntKind.i64.wrap (z + x.N) = z + x.N := by rw [IntKind.wrap_i64]; omega
          go_wp2
          exact ⟨⟨k + 1, z + x.N, by omega, by go_num, rfl, by omega, by omega, hall2.out (fun _ => ⟨n0, n1⟩), hb.alloc hb.size _⟩, by simp [RowKit.intOf]; omega⟩
        · have hn' : x.N < 0 ∨ (0 ≤ x.N ∧ 4096 < x.N) := by omega
          clear hn
          rcases hn' with q | ⟨q, q2⟩
          all_goals
            go_wp2
            go_ret
            exact ⟨true, rfl, (fun e => by cases e), hb.alloc hb.size _⟩
      · have hkb : (x.Kind == 0) = false := beq_eq_false_iff_ne.2 hkd
        go_wp2
        exact ⟨⟨k + 1, z, by omega, by go_num, rfl, by omega, by omega, hall2.out (fun e => absurd e hkd), hb.alloc hb.size _⟩, by simp [RowKit.intOf]; omega⟩
    · obtain rfl : k = l.length := by omega
      by_cases h60 : (60 : Int) < (l.length : Int)
      · go_wp2
        go_ret
        exact ⟨true, rfl, (fun e => by cases e), hb⟩
      · have hP : Plays l := ⟨by omega, fun m h => hall m h h⟩
        replace hP := Lib.hid hP
        clear hall
        go_wp2
        go_ret
        exact ⟨_, rfl, (fun _ => hP.out), hb⟩
theorem byte_inf : (Try.prog.info? 5).map (fun i => (i.zero, i.size, i.bytes)) = some (some (.int .u8 0), 1, 1) := by kernel_rfl
theorem make_bytes (n : Nat) (hn : n ≤ 4096) (w : World) : (Instr.makeSlice 66 (.int .i64 ((n : Nat) : Int)) (.int .i64 ((n : Nat) : Int))).run Try.prog w = .ok (.slice (some ⟨w.heap.size, 0, none⟩) n n) (w.alloc (.cells (madeCells #[.int .u8 0] n) 5)) := by
  obtain ⟨i0, hi0, hz0, hz1, hz2⟩ := info_parts byte_inf
  have := run_make (P := Try.prog) w 66 5 i0 _ Try.underlying66 hi0 hz0 .i64 .i64 ((n : Nat) : Int) ((n : Nat) : Int) (by omega) (by omega) (by rw [hz2]; omega) (by omega)
  rw [this, hz1, Int.toNat_natCast, Nat.mul_one]
  rfl
/-- A row of bytes in the making. -/
structure Tx (w wr : World) (n : Nat) : Prop where
  old : ∀ j, j < n → ∃ u : UInt8, wr.cell? ⟨w.heap.size, j, none⟩ = some (.int .u8 ((u.toNat : Nat) : Int))
  fz : ∀ j, wr.frozen? ⟨w.heap.size, j, none⟩ = false
  below : Below w.heap.size w wr
  lt : w.heap.size < wr.heap.size
theorem Tx.start (w : World) (n : Nat) : Tx w (w.alloc (.cells (madeCells #[.int .u8 0] n) 5)) n := by
  refine ⟨fun j hj => ⟨0, ?_⟩, fun j => by simp [go_sem], (Below.refl _ _).alloc (Nat.le_refl _) _, by simp⟩
  have e : (madeCells #[.int .u8 0] n)[j]? = some (.int .u8 0) := by
    unfold madeCells
    simp [hj, Nat.mod_one]
  simpa [go_sem] using e
theorem Tx.put {w wr : World} {n : Nat} (h : Tx w wr n) {k : Nat} (hk : k < n) (x : Int) (hx : 0 ≤ x ∧ x < 256) : Tx w (wr.setCell ⟨w.heap.size, k, none⟩ (.int .u8 x)) n := by
  obtain ⟨u0, hu0⟩ := h.old k hk
  refine ⟨fun j hj => ?_, fun j => by simpa using h.fz j, h.below.setCell (Nat.le_refl _) _, by simpa using h.lt⟩
  by_cases e : j = k
  · subst e
    refine ⟨UInt8.ofNat x.toNat, ?_⟩
    rw [World.cell?_setCell_same _ _ _ hu0]
    have : ((UInt8.ofNat x.toNat).toNat : Int) = x := by
      rw [UInt8.toNat_ofNat_of_lt' (by show x.toNat < 256; omega)]; omega
    rw [this]
  · rw [World.cell?_setCell_other _ _ _ _ (fun e2 => by injection e2 with _ e2 _; omega)]
    exact h.old j hj
theorem Tx.text {w wr : World} {n : Nat} (h : Tx w wr n) : ∃ t : ByteArray, t.size = n ∧ (convert 66 9 (.slice (some ⟨w.heap.size, 0, none⟩) n n)).run Try.prog wr = .ok (.string t) wr := by
  obtain ⟨f, hf⟩ := Go.Deep.choose_lt h.old
  have hlen : ((List.range n).map f).length = n := by simp
  have := run_convert_bytes_back (P := Try.prog) wr 66 9 5 ⟨w.heap.size, 0, none⟩ n ((List.range n).map f) Try.underlying66 Try.underlying5 Try.underlying9 (fun j hj => by
    have hj2 : j < n := by rw [hlen] at hj; exact hj
    have := hf j hj2
    have e : ((List.range n).map f)[j]'hj = f j := by simp
    rw [e]
    simp only [Addr.add]
    split
    · rename_i h0; subst h0; simpa using this
    · simpa using this)
  rw [hlen] at this
  exact ⟨⟨((List.range n).map f).toArray⟩, by show ((List.range n).map f).toArray.size = n; simp, this⟩
/-- Two rows compared. -/
theorem same_any (ao : Option Addr) (cap n : Nat) (l : List ByteArray) (ao' : Option Addr) (cap' n' : Nat) (l' : List ByteArray) (hl : l.length = n) (hl' : l'.length = n') (hn : n ≤ 140737488351232) (w : World) (h : StrsAt w ao l) (h' : StrsAt w ao' l') :
    Calls Try.prog 25 #[.slice ao n cap, .slice ao' n' cap'] w fun e w' => e = .returned (.bool (sameB l l')) ∧ Below w.heap.size w w' := by
  by_cases e : n = n'
  · subst e
    exact refsame_eq ao cap n l ao' cap' l' hl hl' hn w h h'
  · refine (refsame_ne ao cap n ao' cap' n' e w).mono ?_
    rintro e2 w' ⟨rfl, rfl⟩
    exact ⟨by rw [same_len (by omega)], Below.refl _ _⟩
set_option maxRecDepth 100000 in
set_option maxHeartbeats 1000000 in
theorem text_any (n : Nat) (hn : n ≤ 4096) (c : Nat) (_hc : c < 256) (w : World) :
    Calls Try.prog 12 #[.int .i64 ((n : Nat) : Int), .int .u8 ((c : Nat) : Int)] w (TextPost n w) := by
  have hmk := make_bytes n hn w
  have hT0 := Tx.start w n
  generalize w.alloc (.cells (madeCells #[.int .u8 0] n) 5) = W1 at *
  go_enter Try.func12, Try.ntmps12
  go_wp2
  go_loopw [11] (fun i wr => ∃ k : Nat, k ≤ n ∧ i = .int .i64 k ∧ Tx w wr n) (fun i _ => (n - RowKit.intOf i).toNat)
  case atStart => exact ⟨0, by omega, rfl, hT0⟩
  case round =>
    clear hT0 hmk
    obtain ⟨k, hk, rfl, hT⟩ := hrel
    by_cases hlt : k < n
    · obtain ⟨u0, hu0⟩ := hT.old k hlt
      have hf0 := hT.fz k
      go_wp2
      exact ⟨⟨k + 1, by omega, by go_num, hT.put hlt _ (by omega)⟩, by simp [RowKit.intOf]; omega⟩
    · obtain rfl : k = n := by omega
      obtain ⟨t, hts, hcv⟩ := hT.text
      go_wp2
      go_ret
      exact ⟨t, hts, rfl, hT.below⟩
set_option maxRecDepth 100000 in
set_option maxHeartbeats 1000000 in
theorem tail_any (ao : Option Addr) (cap : Nat) (got : List ByteArray) (ao' : Option Addr) (cap' : Nat) (want : List ByteArray) (more : ByteArray) (may : Bool) (hg : got.length ≤ 1000) (hw : want.length ≤ 1000) (w : World) (h1 : StrsAt w ao got) (h2 : StrsAt w ao' want) :
    Calls Try.prog 20 #[.slice ao got.length cap, .slice ao' want.length cap', .string more, .bool may] w fun e w' => e = .returned (.bool (sameB got want || (may && sameB got (want ++ [more])))) ∧ Below w.heap.size w w' := by
  have hsm := Lib.hid (same_any ao cap got.length got ao' cap' want.length want rfl rfl (by omega) w h1 h2)
  generalize sameB got want = b at *
  go_enter Try.func20, Try.ntmps20
  go_wp2_with fail
  refine hsm.out.mono ?_
  rintro e w1 ⟨rfl, hb1⟩
  clear hsm
  cases b
  · cases may
    · go_wp2_with fail
      go_ret
      exact ⟨rfl, hb1⟩
    · obtain ⟨ao7, cap7, w11, ha7, hr7, hb7⟩ := app_new w1 ao' cap' want (h2.later hb1) hw
      obtain ⟨ao8, cap8, w12, ha8, hr8, hb8⟩ := app_last w11 w1.heap.size hb7.size ao7 want.length cap7 want rfl hr7 more hw
      have hS8 := strs_of_row hr8 (by simp)
      have hbx := hb7.trans hb8
      have hss := same_any ao cap got.length got ao8 cap8 (want.length + 1) (want ++ [more]) rfl (by simp) (by omega) w12 ((h1.later hb1).later hbx) hS8
      have hfin := hb1.trans (hbx.mono hb1.size)
      obtain ⟨b2, hb2⟩ : ∃ b2, sameB got (want ++ [more]) = b2 := ⟨_, rfl⟩
      rw [hb2] at hss
      replace hb2 := Lib.hid hb2
      replace hss := Lib.hid hss
      clear h1 h2 hr7 hb7 hr8 hb8 hS8 hbx hb1
      have tok : True := trivial
      go_wp2_with (first | (clear tok; at_builtin; refine wpList_append_guarded _ rfl _ _ _ _ rfl _ _ rfl rfl _ _ ha7 ?_; clear ha7) | (at_builtin; refine wpList_append_guarded _ rfl _ _ _ _ rfl _ _ rfl rfl _ _ ha8 ?_; clear ha8))
      refine hss.out.mono ?_
      rintro e w13 ⟨rfl, hb13⟩
      go_wp2_with fail
      go_ret
      exact ⟨by rw [hb2.out]; simp, hfin.trans (hb13.mono hfin.size)⟩
  · go_wp2_with fail
    go_ret
    exact ⟨rfl, hb1⟩
end Go.Proofs.Ytmhafgginbeihaa
