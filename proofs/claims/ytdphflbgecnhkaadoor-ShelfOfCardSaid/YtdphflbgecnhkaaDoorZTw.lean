/- The landed writer: what its calls answer, and what they leave. No condition but sizes. -/
import Derived.Test.YtdphflbgecnhkaaDoorZTl
import Derived.Test.YtdphflbgecnhkaaDoorZPc
import Derived.Lib.AppendStr
import Derived.RegionTactic
import Derived.Lib.MinMax
namespace Go.Proofs.YtdphflbgecnhkaaDoor
open Go.RowKit Wm Go.Lib

/-- A writer's block, and its row of bytes. -/
structure WrV (W : World) (p : Nat) (bs : ByteArray) (v : Value) : Prop where
  c : W.cell? ⟨p, 0, none⟩ = some v
  fz : W.frozen? ⟨p, 0, none⟩ = false
  lt : p < W.heap.size
  own : W.ownsRow 0 5 1 v bs.size (strCells bs)
  d : v.ownBlock ≠ some p
def footW (p : Nat) (v : Value) (k : Nat) : Prop := k = p ∨ v.ownBlock = some k
def WrIs (F : Nat → Prop) (W : World) (p : Nat) (bs : ByteArray) : Prop := ∃ v, WrV W p bs v ∧ (∀ k, footW p v k → F k) ∧ ∀ k, F k → k < W.heap.size
theorem WrV.only {G : Nat → Prop} {W W' : World} {p : Nat} {bs : ByteArray} {v : Value} (h : WrV W p bs v) (hO : Only G W W') (hd : ∀ k, footW p v k → ¬ G k) : WrV W' p bs v :=
  ⟨by rw [hO.cell (p := ⟨p, 0, none⟩) h.lt (hd p (.inl rfl))]; exact h.c, by rw [hO.frozen (p := ⟨p, 0, none⟩) h.lt (hd p (.inl rfl))]; exact h.fz,
    Nat.lt_of_lt_of_le h.lt hO.size, hO.row h.own (fun g e => hd g (.inr e)), h.d⟩
theorem wrIs_keep (F G : Nat → Prop) (W W' : World) (p : Nat) (bs : ByteArray) (h : WrIs F W p bs) (hO : Only G W W') (hd : ∀ k, F k → ¬ G k) : WrIs F W' p bs := by
  obtain ⟨v, h1, h2, h3⟩ := h
  exact ⟨v, h1.only hO (fun k hk => hd k (h2 k hk)), h2, fun k hk => Nat.lt_of_lt_of_le (h3 k hk) hO.size⟩
theorem byte_info : (Tryd.prog.info? 5).map (fun i => (i.zero, i.size, i.bytes)) = some (some (.int .u8 0), 1, 1) := by kernel_rfl
/-- Where what was appended to lies then. -/
theorem app_str_at (W : World) (v : Value) (n : Nat) (xs : List Value) (hown : W.ownsRow 0 5 1 v n xs) (s : ByteArray) (hn : n + s.size ≤ 1000000) :
    ∃ ao cap w', (Builtin.append_ #[40, 9] 40 #[v, .string s]).run Tryd.prog W = .ok (.slice ao (n + s.size) cap) w' ∧
      w'.ownsRow 0 5 1 (.slice ao (n + s.size) cap) (n + s.size) (xs ++ strCells s) ∧ W.grownBy w' v.ownBlock ∧
      ∀ g, (Value.slice ao (n + s.size) cap).ownBlock = some g → v.ownBlock = some g ∨ W.heap.size ≤ g := by
  obtain ⟨i0, hi0, hz0, hz1, hz2⟩ := info_parts byte_info
  have key : ∃ v' w', (Builtin.append_ #[40, 9] 40 #[v, .string s]).run Tryd.prog W = .ok v' w' ∧
      w'.ownsRow 0 5 1 v' (n + s.size) (xs ++ strCells s) ∧ W.grownBy w' v.ownBlock ∧ ∀ g, v'.ownBlock = some g → v.ownBlock = some g ∨ W.heap.size ≤ g := by
    have h63 : n + s.size ≤ maxLen := by unfold maxLen; omega
    have hA := fun b hb ho => run_append_own_string (P := Tryd.prog) W b 40 9 40 5 i0 Tryd.underlying40 Tryd.underlying9 hi0 hz0 hz1 hz2 v n xs ho s h63 (by omega) hb
    rcases hown.2 with ⟨rfl, rfl⟩ | ⟨g, cap, cur, rfl, hbg, hg, hnc, hcm, hcs, htake⟩
    · obtain ⟨v', w', h1, h2, h3, _⟩ := hA W.heap.size (Nat.le_refl _) ⟨hown.1, .inl ⟨rfl, rfl⟩⟩
      obtain ⟨v2, w2, k1, k2, k3, _⟩ := hA 0 (Nat.zero_le _) hown
      have := h1.symm.trans k1
      injection this with e1 e2
      subst e1 e2
      exact ⟨v', w', h1, k2, k3, fun g hg => .inr (h2.lt g hg).1⟩
    · obtain ⟨v2, w2, k1, k2, k3, _⟩ := hA 0 (Nat.zero_le _) hown
      have hxl : xs.length = n := by simpa using hown.1
      by_cases hroom : n + s.size ≤ cap
      · have hr := run_append_room_string (P := Tryd.prog) W 40 9 40 5 i0 Tryd.underlying40 Tryd.underlying9 hi0 hz1 g n cap cur hg s hroom (by omega)
        have := k1.symm.trans hr
        injection this with e1 e2
        subst e1
        exact ⟨_, w2, k1, k2, k3, fun j hj => .inl hj⟩
      · have hr := run_append_grow_string (P := Tryd.prog) W 40 9 40 5 i0 (.int .u8 0) Tryd.underlying40 Tryd.underlying9 hi0 hz0 ⟨g, 0, none⟩ n cap xs (by rw [hz1]; omega) (hown.cells (g := g) rfl) s (by omega) (by omega)
          (by rw [hz2]; exact growslice_fits (by omega) (by omega))
        have := k1.symm.trans hr
        injection this with e1 e2
        subst e1
        exact ⟨_, w2, k1, k2, k3, fun j hj => .inr (by
          have hj2 : W.heap.size = j := by simpa [Value.ownBlock] using hj
          omega)⟩
  obtain ⟨v', w', h1, h2, h3, h4⟩ := key
  obtain ⟨ao, cap, rfl, _⟩ := row_slice h2
  exact ⟨ao, cap, w', h1, h2, h3, h4⟩
theorem strCells_app (a b : ByteArray) : strCells (a ++ b) = strCells a ++ strCells b := by
  unfold strCells
  rw [ByteArray.data_append, Array.toList_append, List.map_append]
/-- Bytes put behind. -/
theorem WrV.more {W : World} {p : Nat} {bs : ByteArray} {v : Value} (h : WrV W p bs v) (s : ByteArray) (hb : bs.size ≤ 800000) (hs : s.size ≤ 100000) :
    ∃ ao cap w', (Builtin.append_ #[40, 9] 40 #[v, .string s]).run Tryd.prog W = .ok (.slice ao (bs.size + s.size) cap) w' ∧
      w'.cell? ⟨p, 0, none⟩ = some v ∧ w'.frozen? ⟨p, 0, none⟩ = false ∧ p < w'.heap.size ∧
      WrV (w'.setCell ⟨p, 0, none⟩ (.slice ao (bs.size + s.size) cap)) p (bs ++ s) (.slice ao (bs.size + s.size) cap) ∧
      Only (footW p v) W (w'.setCell ⟨p, 0, none⟩ (.slice ao (bs.size + s.size) cap)) ∧
      ∀ k, k < W.heap.size → footW p (.slice ao (bs.size + s.size) cap) k → footW p v k := by
  obtain ⟨ao, cap, w', h1, h2, h3, h4⟩ := app_str_at W v bs.size _ h.own s (by omega)
  have hO : Only (fun j => v.ownBlock = some j) W w' := Only.of_grown (F := fun j => v.ownBlock = some j) h3 (fun j _ hj => hj)
  have hc : w'.cell? ⟨p, 0, none⟩ = some v := by rw [hO.cell (p := ⟨p, 0, none⟩) h.lt h.d]; exact h.c
  have hd : (Value.slice ao (bs.size + s.size) cap).ownBlock ≠ some p := fun e => by
    rcases h4 p e with e2 | e2
    · exact h.d e2
    · have := h.lt; omega
  have hl : p < w'.heap.size := Nat.lt_of_lt_of_le h.lt hO.size
  have hS : Only (fun j => j = p) w' (w'.setCell ⟨p, 0, none⟩ (.slice ao (bs.size + s.size) cap)) := Only.setCell (F := fun j => j = p) (Only.refl _ _) (p := ⟨p, 0, none⟩) (fun _ => rfl) _
  refine ⟨ao, cap, w', h1, hc, by rw [hO.frozen (p := ⟨p, 0, none⟩) h.lt h.d]; exact h.fz, hl, ⟨World.cell?_setCell_same _ _ _ hc, ?_, by simpa using hl, ?_, hd⟩, (hO.mono (fun j _ hj => .inr hj)).setCell (fun _ => .inl rfl) _, fun k hk hf => ?_⟩
  · have : w'.frozen? ⟨p, 0, none⟩ = false := by rw [hO.frozen (p := ⟨p, 0, none⟩) h.lt h.d]; exact h.fz
    simpa using this
  · rw [ByteArray.size_append, strCells_app]
    exact hS.row h2 (fun g e e2 => hd (by rw [e, e2]))
  · rcases hf with e | e
    · exact .inl e
    · rcases h4 k e with e2 | e2
      · exact .inr e2
      · omega
/-- What is left of a call that puts. -/
theorem WrV.post {F : Nat → Prop} {W W' : World} {p : Nat} {bs s : ByteArray} {v v' : Value} (hF : ∀ k, footW p v k → F k) (h : WrV W' p (bs ++ s) v') (hO : Only (footW p v) W W') (hn : ∀ k, k < W.heap.size → footW p v' k → footW p v k) :
    WrPost WrIs F p (bs ++ s) W W' :=
  ⟨footW p v', ⟨v', h, fun _ e => e, fun k hk => by
    rcases hk with e | e
    · rw [e]; exact h.lt
    · exact (h.own.lt k e).2⟩, hO.mono (fun j _ hj => hF j hj), fun k hk hf => hF k (hn k hk hf)⟩

theorem wrIs_later {F : Nat → Prop} {W W' : World} {p : Nat} {bs : ByteArray} (h : WrIs F W p bs) (hb : Below W.heap.size W W') : WrIs F W' p bs :=
  wrIs_keep F (fun _ => False) W W' p bs h (Only.of_below hb) (fun _ _ e => e)

/-- What lies in memory while a number's bytes are laid. -/
structure Ib (w wr : World) (n : Int) (k : Nat) : Prop where
  old : ∀ j, j < 8 → ∃ v, wr.cell? ⟨w.heap.size, j, none⟩ = some v
  fz : ∀ j, wr.frozen? ⟨w.heap.size, j, none⟩ = false
  put : ∀ j, j < k → wr.cell? ⟨w.heap.size, j, none⟩ = some (.int .u8 (((byteN (u64N n) j).toNat : Nat) : Int))
  below : Below w.heap.size w wr
theorem Ib.next {w wr : World} {n : Int} {k : Nat} (h : Ib w wr n k) (hk : k < 8) (x : Int) (hx : x = (((byteN (u64N n) k).toNat : Nat) : Int)) :
    Ib w (wr.setCell ⟨w.heap.size, k, none⟩ (.int .u8 x)) n (k + 1) := by
  obtain ⟨u, hu⟩ := h.old k hk
  refine ⟨fun j hj => ?_, fun j => by simpa using h.fz j, fun j hj => ?_, h.below.setCell (Nat.le_refl _) _⟩
  · by_cases e : j = k
    · subst e; exact ⟨_, World.cell?_setCell_same _ _ _ hu⟩
    · rw [cell_set_far (by omega)]; exact h.old j hj
  · by_cases e : j = k
    · subst e; rw [World.cell?_setCell_same _ _ _ hu, hx]
    · rw [cell_set_far (by omega)]; exact h.put j (by omega)
theorem Ib.text {w wr : World} {n : Int} (h : Ib w wr n 8) (k : Nat) (hk : k ≤ 8) :
    (convert 40 9 (.slice (some ⟨w.heap.size, 0, none⟩) k 8)).run Tryd.prog wr = .ok (.string (textP (u64N n) k)) wr := by
  have hl : ((List.range k).map (byteN (u64N n))).length = k := by simp
  have := run_convert_bytes_back (P := Tryd.prog) wr 40 9 5 ⟨w.heap.size, 0, none⟩ 8 ((List.range k).map (byteN (u64N n))) Tryd.underlying40 Tryd.underlying5 Tryd.underlying9 (fun j hj => by
    have hj2 : j < k := by rw [hl] at hj; exact hj
    have := h.put j (by omega)
    have e : ((List.range k).map (byteN (u64N n)))[j]'hj = byteN (u64N n) j := by simp
    rw [e]
    simp only [Addr.add]
    split
    · rename_i h0; subst h0; simpa using this
    · simpa using this)
  rw [hl] at this
  exact this
end Go.Proofs.YtdphflbgecnhkaaDoor
