/- The landed writer: what its calls answer, and what they leave. No condition but sizes. -/
import Derived.Test.YtfdanlfiaoedfaaZTp
import Derived.Test.YtfdanlfiaoedfaaZPl
import Derived.Lib.AppendStr
import Derived.RegionTactic
import Derived.Lib.MinMax
namespace Go.Proofs.Ytfdanlfiaoedfaa
open Go.RowKit Wm Go.Lib

/-- A writer's block, and its row of bytes. -/
structure WrV (W : World) (p : Nat) (bs : ByteArray) (v : Value) : Prop where
  c : W.cell? ⟨p, 0, none⟩ = some v
  fz : W.frozen? ⟨p, 0, none⟩ = false
  lt : p < W.heap.size
  own : W.ownsRow 0 5 1 v bs.size (strCells bs)
  d : v.ownBlock ≠ some p
def footW (p : Nat) (v : Value) (k : Nat) : Prop := k = p ∨ v.ownBlock = some k
def WrIs (F : Nat → Prop) (W : World) (p : Nat) (bs : ByteArray) : Prop := ∃ v, WrV W p bs v ∧ (∀ k, footW p v k → F k) ∧ ∀ k, F k → k < W.heap.size
theorem WrV.only {G : Nat → Prop} {W W' : World} {p : Nat} {bs : ByteArray} {v : Value} (h : WrV W p bs v) (hO : Only G W W') (hd : ∀ k, footW p v k → ¬ G k) : WrV W' p bs v :=
  ⟨by rw [hO.cell (p := ⟨p, 0, none⟩) h.lt (hd p (.inl rfl))]; exact h.c, by rw [hO.frozen (p := ⟨p, 0, none⟩) h.lt (hd p (.inl rfl))]; exact h.fz,
    Nat.lt_of_lt_of_le h.lt hO.size, hO.row h.own (fun g e => hd g (.inr e)), h.d⟩
theorem wrIs_near (F : Nat → Prop) (W : World) (p : Nat) (bs : ByteArray) (h : WrIs F W p bs) (k : Nat) (hk : F k) : k < W.heap.size := h.choose_spec.2.2 k hk
theorem wrIs_keep (F G : Nat → Prop) (W W' : World) (p : Nat) (bs : ByteArray) (h : WrIs F W p bs) (hO : Only G W W') (hd : ∀ k, F k → ¬ G k) : WrIs F W' p bs := by
  obtain ⟨v, h1, h2, h3⟩ := h
  exact ⟨v, h1.only hO (fun k hk => hd k (h2 k hk)), h2, fun k hk => Nat.lt_of_lt_of_le (h3 k hk) hO.size⟩
theorem wrIs_new (W : World) : WrIs (fun k => k = W.heap.size) (W.alloc (.cells #[.slice none 0 0] 65)) W.heap.size ByteArray.empty :=
  ⟨.slice none 0 0, ⟨by simp [go_sem], by simp [go_sem], by simp, World.ownsRow_nil _ _ _ _, by simp [Value.ownBlock]⟩, fun k hk => by
    rcases hk with e | e
    · exact e
    · simp [Value.ownBlock] at e, fun k hk => by rw [hk]; simp⟩
theorem byte_info : (Try.prog.info? 5).map (fun i => (i.zero, i.size, i.bytes)) = some (some (.int .u8 0), 1, 1) := by kernel_rfl
/-- Where what was appended to lies then. -/
theorem app_str_at (W : World) (v : Value) (n : Nat) (xs : List Value) (hown : W.ownsRow 0 5 1 v n xs) (s : ByteArray) (hn : n + s.size ≤ 1000000) :
    ∃ ao cap w', (Builtin.append_ #[55, 9] 55 #[v, .string s]).run Try.prog W = .ok (.slice ao (n + s.size) cap) w' ∧
      w'.ownsRow 0 5 1 (.slice ao (n + s.size) cap) (n + s.size) (xs ++ strCells s) ∧ W.grownBy w' v.ownBlock ∧
      ∀ g, (Value.slice ao (n + s.size) cap).ownBlock = some g → v.ownBlock = some g ∨ W.heap.size ≤ g := by
  obtain ⟨i0, hi0, hz0, hz1, hz2⟩ := info_parts byte_info
  have key : ∃ v' w', (Builtin.append_ #[55, 9] 55 #[v, .string s]).run Try.prog W = .ok v' w' ∧
      w'.ownsRow 0 5 1 v' (n + s.size) (xs ++ strCells s) ∧ W.grownBy w' v.ownBlock ∧ ∀ g, v'.ownBlock = some g → v.ownBlock = some g ∨ W.heap.size ≤ g := by
    have h63 : n + s.size ≤ maxLen := by unfold maxLen; omega
    have hA := fun b hb ho => run_append_own_string (P := Try.prog) W b 55 9 55 5 i0 Try.underlying55 Try.underlying9 hi0 hz0 hz1 hz2 v n xs ho s h63 (by omega) hb
    rcases hown.2 with ⟨rfl, rfl⟩ | ⟨g, cap, cur, rfl, hbg, hg, hnc, hcm, hcs, htake⟩
    · obtain ⟨v', w', h1, h2, h3, _⟩ := hA W.heap.size (Nat.le_refl _) ⟨hown.1, .inl ⟨rfl, rfl⟩⟩
      obtain ⟨v2, w2, k1, k2, k3, _⟩ := hA 0 (Nat.zero_le _) hown
      have := h1.symm.trans k1
      injection this with e1 e2
      subst e1 e2
      exact ⟨v', w', h1, k2, k3, fun g hg => .inr (h2.lt g hg).1⟩
    · obtain ⟨v2, w2, k1, k2, k3, _⟩ := hA 0 (Nat.zero_le _) hown
      have hxl : xs.length = n := by simpa using hown.1
      by_cases hroom : n + s.size ≤ cap
      · have hr := run_append_room_string (P := Try.prog) W 55 9 55 5 i0 Try.underlying55 Try.underlying9 hi0 hz1 g n cap cur hg s hroom (by omega)
        have := k1.symm.trans hr
        injection this with e1 e2
        subst e1
        exact ⟨_, w2, k1, k2, k3, fun j hj => .inl hj⟩
      · have hr := run_append_grow_string (P := Try.prog) W 55 9 55 5 i0 (.int .u8 0) Try.underlying55 Try.underlying9 hi0 hz0 ⟨g, 0, none⟩ n cap xs (by rw [hz1]; omega) (hown.cells (g := g) rfl) s (by omega) (by omega)
          (by rw [hz2]; exact growslice_fits (by omega) (by omega))
        have := k1.symm.trans hr
        injection this with e1 e2
        subst e1
        exact ⟨_, w2, k1, k2, k3, fun j hj => .inr (by
          have hj2 : W.heap.size = j := by simpa [Value.ownBlock] using hj
          omega)⟩
  obtain ⟨v', w', h1, h2, h3, h4⟩ := key
  obtain ⟨ao, cap, rfl, _⟩ := row_slice h2
  exact ⟨ao, cap, w', h1, h2, h3, h4⟩
theorem strCells_app (a b : ByteArray) : strCells (a ++ b) = strCells a ++ strCells b := by
  unfold strCells
  rw [ByteArray.data_append, Array.toList_append, List.map_append]
/-- Bytes put behind. -/
theorem WrV.more {W : World} {p : Nat} {bs : ByteArray} {v : Value} (h : WrV W p bs v) (s : ByteArray) (hb : bs.size ≤ 800000) (hs : s.size ≤ 100000) :
    ∃ ao cap w', (Builtin.append_ #[55, 9] 55 #[v, .string s]).run Try.prog W = .ok (.slice ao (bs.size + s.size) cap) w' ∧
      w'.cell? ⟨p, 0, none⟩ = some v ∧ w'.frozen? ⟨p, 0, none⟩ = false ∧ p < w'.heap.size ∧
      WrV (w'.setCell ⟨p, 0, none⟩ (.slice ao (bs.size + s.size) cap)) p (bs ++ s) (.slice ao (bs.size + s.size) cap) ∧
      Only (footW p v) W (w'.setCell ⟨p, 0, none⟩ (.slice ao (bs.size + s.size) cap)) ∧
      ∀ k, k < W.heap.size → footW p (.slice ao (bs.size + s.size) cap) k → footW p v k := by
  obtain ⟨ao, cap, w', h1, h2, h3, h4⟩ := app_str_at W v bs.size _ h.own s (by omega)
  have hO : Only (fun j => v.ownBlock = some j) W w' := Only.of_grown (F := fun j => v.ownBlock = some j) h3 (fun j _ hj => hj)
  have hc : w'.cell? ⟨p, 0, none⟩ = some v := by rw [hO.cell (p := ⟨p, 0, none⟩) h.lt h.d]; exact h.c
  have hd : (Value.slice ao (bs.size + s.size) cap).ownBlock ≠ some p := fun e => by
    rcases h4 p e with e2 | e2
    · exact h.d e2
    · have := h.lt; omega
  have hl : p < w'.heap.size := Nat.lt_of_lt_of_le h.lt hO.size
  have hS : Only (fun j => j = p) w' (w'.setCell ⟨p, 0, none⟩ (.slice ao (bs.size + s.size) cap)) := Only.setCell (F := fun j => j = p) (Only.refl _ _) (p := ⟨p, 0, none⟩) (fun _ => rfl) _
  refine ⟨ao, cap, w', h1, hc, by rw [hO.frozen (p := ⟨p, 0, none⟩) h.lt h.d]; exact h.fz, hl, ⟨World.cell?_setCell_same _ _ _ hc, ?_, by simpa using hl, ?_, hd⟩, (hO.mono (fun j _ hj => .inr hj)).setCell (fun _ => .inl rfl) _, fun k hk hf => ?_⟩
  · have : w'.frozen? ⟨p, 0, none⟩ = false := by rw [hO.frozen (p := ⟨p, 0, none⟩) h.lt h.d]; exact h.fz
    simpa using this
  · rw [ByteArray.size_append, strCells_app]
    exact hS.row h2 (fun g e e2 => hd (by rw [e, e2]))
  · rcases hf with e | e
    · exact .inl e
    · rcases h4 k e with e2 | e2
      · exact .inr e2
      · omega
/-- What is left of a call that puts. -/
theorem WrV.post {F : Nat → Prop} {W W' : World} {p : Nat} {bs s : ByteArray} {v v' : Value} (hF : ∀ k, footW p v k → F k) (h : WrV W' p (bs ++ s) v') (hO : Only (footW p v) W W') (hn : ∀ k, k < W.heap.size → footW p v' k → footW p v k) :
    WrPost WrIs F p (bs ++ s) W W' :=
  ⟨footW p v', ⟨v', h, fun _ e => e, fun k hk => by
    rcases hk with e | e
    · rw [e]; exact h.lt
    · exact (h.own.lt k e).2⟩, hO.mono (fun j _ hj => hF j hj), fun k hk hf => hF k (hn k hk hf)⟩

set_option maxRecDepth 100000 in
set_option maxHeartbeats 1000000 in
theorem wrRaw_any (F : Nat → Prop) (W : World) (p : Nat) (bs s : ByteArray) (h : WrIs F W p bs) (hb : bs.size ≤ 800000) (hs : s.size ≤ 100000) :
    Calls Try.prog 76 #[.pointer (some ⟨p, 0, none⟩), .string s] W fun e W' => e = .returned (.tuple #[]) ∧ WrPost WrIs F p (bs ++ s) W W' := by
  obtain ⟨v, hV, hF, hlt⟩ := h
  obtain ⟨ao, cap, w', h1, h2, h3, h4, h5, h6, h7⟩ := hV.more s hb hs
  obtain ⟨ao0, k0, rfl, -⟩ := row_slice hV.own
  have hP := Lib.hid (WrV.post hF h5 h6 h7)
  have c0 := hV.c
  have f0 := hV.fz
  have l0 := hV.lt
  clear hV hF hlt h5 h6 h7
  go_enter Try.func76, Try.ntmps76
  go_wp2_with (at_builtin; refine Lib.wpList_append_run _ rfl _ _ _ _ rfl _ _ rfl rfl _ _ h1 ?_)
  go_end0
  exact ⟨rfl, hP.out⟩
theorem WrPost.mono0 {F : Nat → Prop} {p : Nat} {bs : ByteArray} {W0 W W' : World} (hb : Below W0.heap.size W0 W) (h : WrPost WrIs F p bs W W') : WrPost WrIs F p bs W0 W' := by
  obtain ⟨F', h1, h2, h3⟩ := h
  exact ⟨F', h1, (Only.of_below (F := F) hb).trans h2 (fun _ _ e => e), fun k hk e => h3 k (Nat.lt_of_lt_of_le hk hb.size) e⟩
theorem wrIs_later {F : Nat → Prop} {W W' : World} {p : Nat} {bs : ByteArray} (h : WrIs F W p bs) (hb : Below W.heap.size W W') : WrIs F W' p bs :=
  wrIs_keep F (fun _ => False) W W' p bs h (Only.of_below hb) (fun _ _ e => e)

set_option maxRecDepth 100000 in
set_option maxHeartbeats 1000000 in
theorem wrNum_any (F : Nat → Prop) (W : World) (p : Nat) (bs : ByteArray) (n : Nat) (h : WrIs F W p bs) (hb : bs.size ≤ 800000) :
    Calls Try.prog 57 #[.pointer (some ⟨p, 0, none⟩), numV n] W fun e W' => e = .returned (.tuple #[]) ∧ WrPost WrIs F p (bs ++ numB n) W W' := by
  have hby := Lib.hid (fun w => bytes_any n w)
  have hs : (numB n).size = 16 := numB_size n
  have hr := Lib.hid (fun W1 h1 => wrRaw_any F W1 p bs (numB n) h1 hb (by omega))
  have hN := Lib.hid (show numB n = ⟨(bytesL n).toArray⟩ from rfl)
  go_enter Try.func57, Try.ntmps57
  go_wp2_with fail
  refine (hby.out _).mono ?_
  rintro e W1 ⟨rfl, hb1⟩
  have hb2 : Below W.heap.size W W1 := ((Below.refl _ _).alloc (Nat.le_refl _) _).trans (hb1.mono (by simp))
  have h1 := wrIs_later h hb2
  rw [← hN.out]
  clear hb1
  go_wp2_with fail
  refine (hr.out _ h1).mono ?_
  rintro e W2 ⟨rfl, hP⟩
  go_wp2
  go_end0
  exact ⟨rfl, hP.mono0 hb2⟩
set_option maxRecDepth 100000 in
set_option maxHeartbeats 1000000 in
theorem wrFlag_any (F : Nat → Prop) (W : World) (p : Nat) (bs : ByteArray) (b : Bool) (h : WrIs F W p bs) (hb : bs.size ≤ 800000) :
    Calls Try.prog 78 #[.pointer (some ⟨p, 0, none⟩), .bool b] W fun e W' => e = .returned (.tuple #[]) ∧ WrPost WrIs F p (bs ++ yesB b) W W' := by
  have h1 : (⟨#[1]⟩ : ByteArray).size = 1 := rfl
  have h0 : (⟨#[0]⟩ : ByteArray).size = 1 := rfl
  have hr1 := Lib.hid (wrRaw_any F W p bs ⟨#[1]⟩ h hb (by omega))
  have hr0 := Lib.hid (wrRaw_any F W p bs ⟨#[0]⟩ h hb (by omega))
  clear h0 h1
  cases b
  · go_enter Try.func78, Try.ntmps78
    go_wp2_with fail
    refine hr0.out.mono ?_
    rintro e W2 ⟨rfl, hP⟩
    go_wp2
    go_end0
    exact ⟨rfl, hP⟩
  · go_enter Try.func78, Try.ntmps78
    go_wp2_with fail
    refine hr1.out.mono ?_
    rintro e W2 ⟨rfl, hP⟩
    go_wp2
    go_end0
    exact ⟨rfl, hP⟩
/-- A row of bytes read as a text. -/
theorem row_text {W : World} {v : Value} {bs : ByteArray} (h : W.ownsRow 0 5 1 v bs.size (strCells bs)) :
    (convert 55 9 v).run Try.prog W = .ok (.string bs) W := by
  rcases h.2 with ⟨rfl, h0⟩ | ⟨g, cap, cur, rfl, hbg, hg, hnc, hcm, hcs, htake⟩
  · have := run_convert_bytes_nil (P := Try.prog) W 55 5 Try.underlying55 Try.underlying5 0 0 9 Try.underlying9
    rw [this]
    have e : bs = ByteArray.empty := by
      apply ByteArray.ext
      apply Array.eq_empty_of_size_eq_zero
      exact h0
    rw [e]
  · have := run_convert_bytes_back (P := Try.prog) W 55 9 5 ⟨g, 0, none⟩ cap bs.data.toList Try.underlying55 Try.underlying5 Try.underlying9 (fun j hj => by
      refine h.cells (g := g) rfl j _ ?_
      unfold strCells
      rw [List.getElem?_map, List.getElem?_eq_getElem hj]
      rfl)
    exact this
set_option maxRecDepth 100000 in
theorem wrStr_any (F : Nat → Prop) (W : World) (p : Nat) (bs : ByteArray) (h : WrIs F W p bs) (_hb : bs.size ≤ 1000000) :
    Calls Try.prog 27 #[.pointer (some ⟨p, 0, none⟩)] W fun e W' => e = .returned (.string bs) ∧ Below W.heap.size W W' := by
  obtain ⟨v, hV, hF, hlt⟩ := h
  have hT := row_text hV.own
  obtain ⟨ao0, k0, rfl, -⟩ := row_slice hV.own
  have c0 := hV.c
  clear hV hF hlt
  go_enter Try.func27, Try.ntmps27
  go_wp2
  go_ret
  exact ⟨rfl, Below.refl _ _⟩

/-- The nearest size. -/
theorem nearest_any (size : Int) (W : World) :
    Calls Try.prog 75 #[.int .i64 size] W fun e W' => e = .returned (.int .i64 ((sizeK size : Nat) : Int)) ∧ W = W' := by
  have hk := Lib.hid (show max 1 (min size 8) = ((sizeK size : Nat) : Int) by unfold sizeK; omega)
  go_enter Try.func75, Try.ntmps75
  go_wp2
  rw [hk.out]
  go_ret
  exact ⟨rfl, rfl⟩
/-- Byte j of a number that may be below 0. -/
theorem byte_shift (n : Int) (j : Nat) (h : j < 8) : (n / 2 ^ (8 * j)) % 256 = (((byteN (u64N n) j).toNat : Nat) : Int) := by
  rw [byteN_toNat]
  have e := u64N_int n
  generalize u64N n = U at *
  match j, h with
  | 0, _ => simp; omega
  | 1, _ => simp; omega
  | 2, _ => simp; omega
  | 3, _ => simp; omega
  | 4, _ => simp; omega
  | 5, _ => simp; omega
  | 6, _ => simp; omega
  | 7, _ => simp; omega
/-- What lies in memory while a number's bytes are laid. -/
structure Ib (w wr : World) (n : Int) (k : Nat) : Prop where
  old : ∀ j, j < 8 → ∃ v, wr.cell? ⟨w.heap.size, j, none⟩ = some v
  fz : ∀ j, wr.frozen? ⟨w.heap.size, j, none⟩ = false
  put : ∀ j, j < k → wr.cell? ⟨w.heap.size, j, none⟩ = some (.int .u8 (((byteN (u64N n) j).toNat : Nat) : Int))
  below : Below w.heap.size w wr
theorem Ib.next {w wr : World} {n : Int} {k : Nat} (h : Ib w wr n k) (hk : k < 8) (x : Int) (hx : x = (((byteN (u64N n) k).toNat : Nat) : Int)) :
    Ib w (wr.setCell ⟨w.heap.size, k, none⟩ (.int .u8 x)) n (k + 1) := by
  obtain ⟨u, hu⟩ := h.old k hk
  refine ⟨fun j hj => ?_, fun j => by simpa using h.fz j, fun j hj => ?_, h.below.setCell (Nat.le_refl _) _⟩
  · by_cases e : j = k
    · subst e; exact ⟨_, World.cell?_setCell_same _ _ _ hu⟩
    · rw [cell_set_far (by omega)]; exact h.old j hj
  · by_cases e : j = k
    · subst e; rw [World.cell?_setCell_same _ _ _ hu, hx]
    · rw [cell_set_far (by omega)]; exact h.put j (by omega)
theorem Ib.text {w wr : World} {n : Int} (h : Ib w wr n 8) (k : Nat) (hk : k ≤ 8) :
    (convert 55 9 (.slice (some ⟨w.heap.size, 0, none⟩) k 8)).run Try.prog wr = .ok (.string (textP (u64N n) k)) wr := by
  have hl : ((List.range k).map (byteN (u64N n))).length = k := by simp
  have := run_convert_bytes_back (P := Try.prog) wr 55 9 5 ⟨w.heap.size, 0, none⟩ 8 ((List.range k).map (byteN (u64N n))) Try.underlying55 Try.underlying5 Try.underlying9 (fun j hj => by
    have hj2 : j < k := by rw [hl] at hj; exact hj
    have := h.put j (by omega)
    have e : ((List.range k).map (byteN (u64N n)))[j]'hj = byteN (u64N n) j := by simp
    rw [e]
    simp only [Addr.add]
    split
    · rename_i h0; subst h0; simpa using this
    · simpa using this)
  rw [hl] at this
  exact this
theorem run_slice8 (s : Nat) (W : World) (k : Nat) (hk : k ≤ 8) :
    (Instr.sliceAt 115 (.pointer (some ⟨s, 0, none⟩)) none (some (.int .i64 ((k : Nat) : Int))) none).run Try.prog W = .ok (.slice (some ⟨s, 0, none⟩) k 8) W := by
  have h8 : Try.prog.arrayLen 115 = 8 := by kernel_rfl
  rw [run_sliceAt_array_h (P := Try.prog) W 115 ⟨s, 0, none⟩ (by kernel_rfl) .i64 ((k : Nat) : Int) (by omega) (by rw [h8]; omega), h8]
  have hs : ∀ W, (sizeOf (Try.prog.elem 115)).run Try.prog W = .ok 1 W := fun W => by kernel_rfl
  rw [hs]
  simp [Result.andThen, slicedAt, Addr.add]
set_option maxRecDepth 100000 in
set_option maxHeartbeats 1000000 in
theorem wrInt_any (F : Nat → Prop) (W : World) (p : Nat) (bs : ByteArray) (size n : Int) (h : WrIs F W p bs) (hb : bs.size ≤ 800000) (_h1 : -9223372036854775808 ≤ n) (_h2 : n ≤ 9223372036854775807) :
    Calls Try.prog 51 #[.pointer (some ⟨p, 0, none⟩), .int .i64 size, .int .i64 n] W fun e W' => e = .returned (.tuple #[]) ∧ WrPost WrIs F p (bs ++ intB size n) W W' := by
  have hk := sizeK_le size
  have hsz := intB_size size n
  have hB := Lib.hid (show intB size n = textP (u64N n) (sizeK size) from rfl)
  have hne := Lib.hid (fun w => nearest_any size w)
  have hr := Lib.hid (fun W1 h1 => wrRaw_any F W1 p bs (intB size n) h1 hb (by omega))
  go_enter Try.func51, Try.ntmps51
  go_wp2
  go_loopw [8] (fun i wr => ∃ k : Nat, k ≤ 8 ∧ i = .int .i64 k ∧ Ib W wr n k) (fun i _ => (8 - RowKit.intOf i).toNat)
  case atStart =>
    refine ⟨0, by omega, rfl, ⟨fun j hj => ⟨.int .u8 0, ?_⟩, fun j => by simp [go_sem], fun j hj => by omega, (Below.refl _ _).alloc (Nat.le_refl _) _⟩⟩
    simp only [go_sem]
    have e : (#[.int .u8 0, .int .u8 0, .int .u8 0, .int .u8 0, .int .u8 0, .int .u8 0, .int .u8 0, .int .u8 0] : Array Value) = (List.replicate 8 (.int .u8 0)).toArray := rfl
    rw [e, List.getElem?_toArray, List.getElem?_replicate, if_pos hj]
  case round =>
    obtain ⟨k, hk8, rfl, hS⟩ := hrel
    by_cases hlt : k < 8
    · obtain ⟨v0, t0⟩ := hS.old k hlt
      have f0 := hS.fz k
      go_wp2
      refine ⟨⟨k + 1, by omega, by go_num, hS.next hlt _ ?_⟩, by simp [RowKit.intOf]; omega⟩
      rw [← byte_shift n k hlt]
    · obtain rfl : k = 8 := by omega
      have htx := hS.text (sizeK size) hk.2
      have hsl := fun W2 => run_slice8 W.heap.size W2 (sizeK size) hk.2
      have hbl := hS.below
      have hw := wrIs_later h hbl
      rw [← hB.out] at htx
      clear hS
      go_wp2_with fail
      refine (hne.out _).mono ?_
      rintro e W1 ⟨rfl, rfl⟩
      go_wp2_with fail
      refine (hr.out _ hw).mono ?_
      rintro e W2 ⟨rfl, hP⟩
      go_wp2
      go_end0
      exact ⟨rfl, hP.mono0 hbl⟩
/-- The landed writer keeps what the walks ask. -/
theorem landedWr : LandedWr WrIs where
  near := wrIs_near
  keep := wrIs_keep
  new := wrIs_new
  int := fun F W p bs size n h hb h1 h2 => wrInt_any F W p bs size n h (by omega) h1 h2
  num := fun F W p bs n h hb _ => wrNum_any F W p bs n h (by omega)
  flag := fun F W p bs b h hb => wrFlag_any F W p bs b h (by omega)
  raw := fun F W p bs s h hb hs => wrRaw_any F W p bs s h (by omega) (by omega)
  str := fun F W p bs h hb => wrStr_any F W p bs h (by omega)
end Go.Proofs.Ytfdanlfiaoedfaa
