/- Stage 6: the document's Frame, Sectors and Same walked. -/
import Derived.Test.YtmhafgginbeihaaZJd
import Derived.BigQuiet
import Derived.WalkSmall
namespace Go.Proofs.Ytmhafgginbeihaa
open Go.RowKit Go.Sort Cr

set_option maxRecDepth 100000 in
set_option maxHeartbeats 1000000 in
theorem refframe_any (q : Int) (s : ByteArray) (hs : s.size ≤ 1099511627776) (w : World) : Calls Try.prog 41 #[.int .i64 q, .string s] w fun e w' => e = .returned (.string (frameB q s)) ∧ Below w.heap.size w w' := by
  have c1 := Lib.hid (refint_any 8 q)
  have c2 := Lib.hid (refint_any 4 ((s.size : Nat) : Int))
  have hf := Lib.hid (show frameB q s = intB 8 q ++ intB 4 ((s.size : Nat) : Int) ++ s from by unfold frameB; rw [ByteArray.append_assoc])
  have s1 := int8_size q
  have s2 := int4_size ((s.size : Nat) : Int)
  generalize intB 8 q = a at *
  generalize intB 4 ((s.size : Nat) : Int) = b at *
  have s3 : (a ++ b).size = 12 := by rw [ByteArray.size_append]; omega
  go_enter Try.func41, Try.ntmps41
  go_wp2_with fail
  refine (c1.out _).mono ?_
  rintro e w1 ⟨rfl, hb⟩
  go_wp2_with fail
  refine (c2.out _).mono ?_
  rintro e w2 ⟨rfl, hb2⟩
  replace hb := hb.trans (hb2.mono hb.size)
  go_wp2
  go_ret
  exact ⟨by rw [hf.out]; rfl, hb⟩
/-- A row of texts of one's own, new behind a world. -/
structure NewRow (w wr : World) (f : Nat → ByteArray) (k : Nat) (v : Value) : Prop where
  row : wr.ownsRow 0 9 1 v k (rowS ((List.range k).map f))
  far : ∀ g, v.ownBlock = some g → w.heap.size ≤ g
  below : Below w.heap.size w wr
theorem NewRow.start (w : World) (f : Nat → ByteArray) {wr : World} (hb : Below w.heap.size w wr) : NewRow w wr f 0 (.slice none 0 0) :=
  ⟨World.ownsRow_nil _ _ _ _, fun g hg => by simp [Value.ownBlock] at hg, hb⟩
theorem NewRow.later {w wr w2 : World} {f : Nat → ByteArray} {k : Nat} {v : Value} (h : NewRow w wr f k v) (hb : Below wr.heap.size wr w2) : NewRow w w2 f k v :=
  ⟨(Only.of_below (F := fun _ => False) hb).row h.row (fun _ _ e => e), h.far, h.below.trans (hb.mono h.below.size)⟩
theorem NewRow.push {w wr : World} {f : Nat → ByteArray} {k : Nat} {v : Value} (h : NewRow w wr f k v) (hk : k ≤ 100000) :
    ∃ g cap w', (Builtin.append_ #[28, 28] 28 #[v, .slice (some ⟨wr.heap.size, 0, none⟩) 1 1]).run Try.prog (wr.alloc (.cells #[.string (f k)] 9)) = .ok (.slice (some ⟨g, 0, none⟩) (k + 1) cap) w' ∧
      NewRow w w' f (k + 1) (.slice (some ⟨g, 0, none⟩) (k + 1) cap) := by
  obtain ⟨hr, h5, hbl⟩ := h
  obtain ⟨g, cap, w', hrun, ho, hgr, hat⟩ := app_one Try.underlying28 str_info rfl (by omega) wr v k _ hr (.string (f k)) rfl hk
  have hO : Only (fun i => v.ownBlock = some i) wr w' := (Only.of_below ((Below.refl _ _).alloc (Nat.le_refl _) _)).trans (Only.of_grown (F := fun i => v.ownBlock = some i) hgr (fun i _ hi => hi)) (fun _ _ e => e)
  refine ⟨g, cap, w', hrun, ?_, fun i hi => ?_, hbl.trans (hO.to_below hbl.size (fun i hi => h5 i hi))⟩
  · have e : rowS ((List.range (k + 1)).map f) = rowS ((List.range k).map f) ++ [.string (f k)] := by unfold rowS; rw [List.range_succ, List.map_append, List.map_append]; rfl
    rw [e]; exact ho
  · have hi2 : g = i := by simpa [Value.ownBlock] using hi
    subst hi2
    rcases hat with e | e
    · exact h5 g e
    · have := hbl.size; omega
/-- Of a row of one's own what a slice's cells are. -/
theorem row_strs {wr : World} {v : Value} {l : List ByteArray} (h : wr.ownsRow 0 9 1 v l.length (rowS l)) : ∃ ao cap, v = .slice ao l.length cap ∧ StrsAt wr ao l := by
  obtain ⟨ao, cap, rfl, h1⟩ := row_slice h
  refine ⟨ao, cap, rfl, ⟨fun k hk => ?_⟩⟩
  obtain ⟨g, x, rfl, hlt, hx, hc, _⟩ := h1 k hk
  refine ⟨g, 0, rfl, hlt, ?_⟩
  unfold rowS at hx
  rw [List.getElem?_map, List.getElem?_eq_getElem hk] at hx
  obtain rfl := Option.some.inj hx
  rw [Nat.zero_add]
  exact hc
/-- The sectors of a record. -/
def secsOf (q N : Int) (s : ByteArray) (i : Nat) : ByteArray := secB N ((i : Nat) : Int) (partS (frameB q s) i)
set_option maxRecDepth 100000 in
set_option maxHeartbeats 1000000 in
theorem refsectors_any (q N : Int) (s : ByteArray) (hs : s.size ≤ 1048576) (w : World) : Calls Try.prog 23 #[.int .i64 q, .int .i64 N, .string s] w fun e w' => ∃ v, e = .returned v ∧ NewRow w w' (secsOf q N s) (cntR s.size) v := by
  have c1 := Lib.hid (refframe_any q s (by omega))
  have hfs := frameB_size q s
  have c2 := Lib.hid (refcount_any (frameB q s).size (by omega))
  have hcn : countN (frameB q s).size = cntR s.size := by rw [hfs]; rfl
  rw [hcn] at c2
  have hc : cntR s.size ≤ 20000 := countN_stop _ 20000 (by omega) (by omega)
  have c3 := fun i (hi : i ≤ 1099511627776) => refpart_any (frameB q s) (by omega) i hi
  replace c3 := Lib.hid c3
  have c4 := Lib.hid (fun (i : Nat) W => refsec_any N ((i : Nat) : Int) (partS (frameB q s) i) (partS_le _ _) W)
  have hso := Lib.hid (show ∀ i : Nat, secsOf q N s i = secB N ((i : Nat) : Int) (partS (frameB q s) i) from fun _ => rfl)
  clear hfs hcn
  generalize secsOf q N s = f at *
  generalize frameB q s = fr at *
  generalize cntR s.size = c at *
  go_enter Try.func23, Try.ntmps23
  go_wp2_with fail
  refine (c1.out _).mono ?_
  rintro e w1 ⟨rfl, hb⟩
  have hN0 := NewRow.start w f hb
  clear hb c1
  go_wp2
  go_loopw [8, 9] (fun v i wr => ∃ k : Nat, k ≤ c ∧ i = .int .i64 k ∧ NewRow w wr f k v) (fun _ i _ => (c - RowKit.intOf i).toNat)
  case atStart => exact ⟨0, by omega, rfl, hN0⟩
  case round =>
    clear hN0
    obtain ⟨k, hk, rfl, hN⟩ := hrel
    by_cases hlt : k < c
    · have hPu := Lib.hid (fun W v (h : NewRow w W f k v) => h.push (by omega))
      rw [hso.out k] at hPu
      have d3 := Lib.hid (c3.out k (by omega))
      have d4 := Lib.hid (c4.out k)
      have hkc : (k : Int) < (c : Int) := by omega
      go_wp2_with fail
      refine (c2.out _).mono ?_
      rintro e w2 ⟨rfl, rfl⟩
      go_wp2_with fail
      with_reducible refine (d3.out _).mono ?_
      rintro e w2 ⟨rfl, rfl⟩
      go_wp2_with fail
      refine (d4.out _).mono ?_
      rintro e w3 ⟨rfl, hb⟩
      replace hN := hN.later hb
      obtain ⟨g, cap2, w5, hrun, hN5⟩ := hPu.out _ _ hN
      generalize secB N ((k : Nat) : Int) (partS fr k) = x at *
      clear hN hPu d3 d4 hb
      go_wp2_with (at_builtin; refine Lib.wpList_append_run _ rfl _ _ _ _ rfl _ _ rfl rfl _ _ hrun ?_)
      exact ⟨⟨k + 1, by omega, by go_num, hN5⟩, by simp [RowKit.intOf]; omega⟩
    · obtain rfl : k = c := by omega
      go_wp2_with fail
      refine (c2.out _).mono ?_
      rintro e w2 ⟨rfl, rfl⟩
      go_wp2
      go_ret
      exact ⟨_, by rfl, hN⟩
theorem texts_beq (x y : ByteArray) : (x.toList == y.toList) = decide (x = y) := by
  by_cases h : x = y
  · subst h
    rw [decide_eq_true rfl, beq_iff_eq]
  · rw [decide_eq_false h, beq_eq_false_iff_ne]
    intro e
    rw [ByteArray.toList_eq, ByteArray.toList_eq] at e
    exact h (ByteArray.ext (Array.toList_inj.mp e))
/-- Are two rows the same? -/
def sameB (l l' : List ByteArray) : Bool := decide (l = l')
theorem same_len {l l' : List ByteArray} (h : l.length ≠ l'.length) : sameB l l' = false := decide_eq_false (fun e => h (by rw [e]))
theorem same_not {l l' : List ByteArray} (k : Nat) (h1 : k < l.length) (h2 : k < l'.length) (h : l[k] ≠ l'[k]) : sameB l l' = false := decide_eq_false (fun e => h (by subst e; rfl))
theorem same_yes {l l' : List ByteArray} (h0 : l.length = l'.length) (h : ∀ k (h1 : k < l.length), l[k] = l'[k]'(by omega)) : sameB l l' = true := decide_eq_true (List.ext_getElem h0 (fun k h1 _ => h k h1))
set_option maxRecDepth 100000 in
set_option maxHeartbeats 1000000 in
theorem refsame_ne (ao : Option Addr) (cap n : Nat) (ao' : Option Addr) (cap' n' : Nat) (h : n ≠ n') (w : World) :
    Calls Try.prog 25 #[.slice ao n cap, .slice ao' n' cap'] w fun e w' => e = .returned (.bool false) ∧ w = w' := by
  have n1 : (((n : Nat) : Int) == ((n' : Nat) : Int)) = false := beq_eq_false_iff_ne.2 (by omega)
  replace h := Lib.hid h
  go_enter Try.func25, Try.ntmps25
  go_wp2
  go_ret
  exact ⟨rfl, rfl⟩
set_option maxRecDepth 100000 in
set_option maxHeartbeats 1000000 in
theorem refsame_eq (ao : Option Addr) (cap n : Nat) (l : List ByteArray) (ao' : Option Addr) (cap' : Nat) (l' : List ByteArray) (hl : l.length = n) (hl' : l'.length = n) (hn : n ≤ 140737488351232) (w : World) (h : StrsAt w ao l) (h' : StrsAt w ao' l') :
    Calls Try.prog 25 #[.slice ao n cap, .slice ao' n cap'] w fun e w' => e = .returned (.bool (sameB l l')) ∧ Below w.heap.size w w' := by
  replace hl := Lib.hid hl
  replace hl' := Lib.hid hl'
  go_enter Try.func25, Try.ntmps25
  go_wp2
  go_loopw [13] (fun i wr => ∃ k : Nat, k ≤ n ∧ i = .int .i64 k ∧ (∀ m (h1 : m < l.length) (h2 : m < l'.length), m < k → l[m] = l'[m]) ∧ Below w.heap.size w wr) (fun i _ => (n - RowKit.intOf i).toNat)
  case atStart => exact ⟨0, by omega, rfl, fun m _ _ hm => by omega, Below.refl _ _⟩
  case round =>
    obtain ⟨k, hk, rfl, hsame, hb⟩ := hrel
    replace hsame := Lib.hid hsame
    by_cases hlt : k < n
    · obtain ⟨b, off, rfl, hbl, hc⟩ := (h.below hb (Nat.le_refl _)).spot k (by rw [hl.out]; exact hlt)
      obtain ⟨b', off', rfl, hbl', hc'⟩ := (h'.below hb (Nat.le_refl _)).spot k (by rw [hl'.out]; exact hlt)
      have hlk := hl.out
      have hlk' := hl'.out
      by_cases he : l[k]'(by omega) = l'[k]'(by omega)
      · have hnext : ∀ m (h1 : m < l.length) (h2 : m < l'.length), m < k + 1 → l[m] = l'[m] := fun m h1 h2 hm => by
          by_cases e : m = k
          · subst e; exact he
          · exact hsame.out m h1 h2 (by omega)
        rw [he] at hc
        replace hnext := Lib.hid hnext
        clear he
        generalize l'[k]'(by omega) = x at *
        go_wp2
        go_quiet (fail)
        go_wp2
        exact ⟨⟨k + 1, by omega, by go_num, hnext.out, below_drewN hb _⟩, by simp [RowKit.intOf]; omega⟩
      · have hno := Lib.hid (same_not k (by omega) (by omega) he)
        have hne := texts_beq (l[k]'(by omega)) (l'[k]'(by omega))
        rw [decide_eq_false he] at hne
        replace he := Lib.hid he
        generalize l[k]'(by omega) = x at *
        generalize l'[k]'(by omega) = y at *
        go_wp2
        go_quiet (fail)
        go_wp2
        go_ret
        exact ⟨by rw [hno.out]; rfl, below_drewN hb _⟩
    · obtain rfl : k = n := by omega
      have hyes := Lib.hid (same_yes (hl.out.trans hl'.out.symm) (fun m h1 => hsame.out m h1 (by have := hl.out; have := hl'.out; omega) (by have := hl.out; omega)))
      go_wp2
      go_ret
      exact ⟨by rw [hyes.out]; rfl, hb⟩
end Go.Proofs.Ytmhafgginbeihaa
