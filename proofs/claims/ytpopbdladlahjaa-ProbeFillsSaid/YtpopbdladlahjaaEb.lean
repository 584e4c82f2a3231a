/- The landed table in memory; its small calls. No condition but sizes. -/
import Derived.Test.YtpopbdladlahjaaEa
import Derived.Test.YtpopbdladlahjaaRb
import Derived.Test.YtpopbdladlahjaaRz
import Derived.Test.YtpopbdladlahjaaStep
import Derived.Deep.MidRow
import Derived.StillTailTactics
import Derived.BigRegion
import Derived.Deep.QuietTactic
import Derived.BigQuiet
import Derived.IntWalk
namespace Go.Proofs.Ytpopbdladlahjaa
open Go.RowKit Go.Sort Wm

theorem Only.setCells {F : Nat → Prop} {a : World} {g : Nat} (hp : g < a.heap.size → F g) : ∀ (vs : List Value) (o : Nat) (b : World), Only F a b → Only F a (b.setCells g o vs)
  | [], _, _, h => h
  | v :: r, o, _b, h => Only.setCells hp r (o + 1) _ (h.setCell (p := ⟨g, o, none⟩) hp v)
theorem size_setCellsE (b : Nat) : ∀ (vs : List Value) (o : Nat) (w : World), (w.setCells b o vs).heap.size = w.heap.size
  | [], _, _ => rfl
  | v :: r, o, w => by
    show ((w.setCell ⟨b, o, none⟩ v).setCells b (o + 1) r).heap.size = _
    rw [size_setCellsE b r (o + 1), World.size_setCell]
/-- A cell's own cells. -/
def cellsK (c : Cl) : List Value := [.int .i64 ((c.kind : Nat) : Int), .int .u64 ((hiN c.name : Nat) : Int), .int .u64 ((loN c.name : Nat) : Int), .int .i64 c.plc]
theorem cellsK_length (c : Cl) : (cellsK c).length = 4 := rfl
theorem cellsK_one (c : Cl) : ∀ v ∈ cellsK c, v.oneCell' = true := by
  intro v hv
  unfold cellsK at hv
  simp at hv
  rcases hv with rfl | rfl | rfl | rfl <;> rfl
/-- A table's two blocks. -/
structure PtV (W : World) (p g : Nat) (cs : List Cl) (names used : Nat) : Prop where
  c0 : W.cell? ⟨p, 0, none⟩ = some (.slice (some ⟨g, 0, none⟩) cs.length cs.length)
  c1 : W.cell? ⟨p, 1, none⟩ = some (.int .i64 ((names : Nat) : Int))
  c2 : W.cell? ⟨p, 2, none⟩ = some (.int .i64 ((used : Nat) : Int))
  fp : ∀ j, W.frozen? ⟨p, j, none⟩ = false
  lp : p < W.heap.size
  row : ∀ i c, cs[i]? = some c → W.rangeAt g (i * 4) (cellsK c)
  fg : ∀ j, W.frozen? ⟨g, j, none⟩ = false
  lg : g < W.heap.size
  ne : p ≠ g
def footP (p g : Nat) : Nat → Prop := fun k => k = p ∨ k = g
section
variable {W W' : World} {p g : Nat} {cs : List Cl} {names used : Nat}
theorem PtV.near (h : PtV W p g cs names used) : ∀ k, footP p g k → k < W.heap.size := by
  rintro k (rfl | rfl)
  · exact h.lp
  · exact h.lg
theorem PtV.keep {G : Nat → Prop} (h : PtV W p g cs names used) (hO : Only G W W') (hG : ∀ k, footP p g k → ¬ G k) : PtV W' p g cs names used := by
  have hp : ¬ G p := hG p (.inl rfl)
  have hg : ¬ G g := hG g (.inr rfl)
  refine ⟨?_, ?_, ?_, fun j => ?_, Nat.lt_of_lt_of_le h.lp hO.size, fun i c hc j v hv => ?_, fun j => ?_, Nat.lt_of_lt_of_le h.lg hO.size, h.ne⟩
  · rw [hO.cell (p := ⟨p, 0, none⟩) h.lp hp]; exact h.c0
  · rw [hO.cell (p := ⟨p, 1, none⟩) h.lp hp]; exact h.c1
  · rw [hO.cell (p := ⟨p, 2, none⟩) h.lp hp]; exact h.c2
  · rw [hO.frozen (p := ⟨p, j, none⟩) h.lp hp]; exact h.fp j
  · rw [hO.cell (p := ⟨g, i * 4 + j, none⟩) h.lg hg]; exact h.row i c hc j v hv
  · rw [hO.frozen (p := ⟨g, j, none⟩) h.lg hg]; exact h.fg j
theorem PtV.later (h : PtV W p g cs names used) (hb : Below W.heap.size W W') : PtV W' p g cs names used := h.keep (G := fun _ => False) (Only.of_below hb) (fun _ _ e => e)
theorem PtV.drew (h : PtV W p g cs names used) : PtV W.drew p g cs names used := h.later (Below.refl _ _).drew
/-- The four cells of one. -/
theorem PtV.at_ (h : PtV W p g cs names used) {i : Nat} {c : Cl} (hc : cs[i]? = some c) : W.cell? ⟨g, i * 4, none⟩ = some (.int .i64 ((c.kind : Nat) : Int)) ∧ W.cell? ⟨g, i * 4 + 1, none⟩ = some (.int .u64 ((hiN c.name : Nat) : Int)) ∧
    W.cell? ⟨g, i * 4 + 2, none⟩ = some (.int .u64 ((loN c.name : Nat) : Int)) ∧ W.cell? ⟨g, i * 4 + 3, none⟩ = some (.int .i64 c.plc) :=
  ⟨h.row i c hc 0 _ rfl, h.row i c hc 1 _ rfl, h.row i c hc 2 _ rfl, h.row i c hc 3 _ rfl⟩
theorem PtV.there (h : PtV W p g cs names used) {i : Nat} (hi : i < cs.length) : W.there g (i * 4) 4 := fun j hj =>
  ⟨(h.row i _ (List.getElem?_eq_getElem hi)).isSome j hj, h.fg _⟩
/-- A cell stored. -/
theorem PtV.putCell (h : PtV W p g cs names used) {i : Nat} (hi : i < cs.length) (d : Cl) : PtV (W.setCells g (i * 4) (cellsK d)) p g (cs.set i d) names used := by
  have hO : Only (fun k => k = g) W (W.setCells g (i * 4) (cellsK d)) := Only.setCells (F := fun k => k = g) (fun _ => rfl) _ _ _ (Only.refl (fun k => k = g) _)
  have hp : ¬ (fun k => k = g) p := h.ne
  refine ⟨?_, ?_, ?_, fun j => ?_, by rw [size_setCellsE]; exact h.lp, fun j c hc => ?_, fun j => by rw [World.frozen?_setCells]; exact h.fg j, by rw [size_setCellsE]; exact h.lg, h.ne⟩
  · rw [hO.cell (p := ⟨p, 0, none⟩) h.lp hp, List.length_set]; exact h.c0
  · rw [hO.cell (p := ⟨p, 1, none⟩) h.lp hp]; exact h.c1
  · rw [hO.cell (p := ⟨p, 2, none⟩) h.lp hp]; exact h.c2
  · rw [hO.frozen (p := ⟨p, j, none⟩) h.lp hp]; exact h.fp j
  · rcases (set_at (List.getElem?_eq_getElem hi)).1 hc with ⟨rfl, rfl⟩ | ⟨hne, e⟩
    · exact World.rangeAt_setCells_same W g (i * 4) (cellsK d) (h.there hi)
    · refine World.rangeAt_setCells_apart (h.row j c e) g (i * 4) (cellsK d) (.inr ?_)
      rw [cellsK_length, cellsK_length]
      omega
theorem PtV.put1 (h : PtV W p g cs names used) (k : Nat) : PtV (W.setCell ⟨p, 1, none⟩ (.int .i64 ((k : Nat) : Int))) p g cs k used := by
  have hO : Only (fun k => k = p) W (W.setCell ⟨p, 1, none⟩ (.int .i64 ((k : Nat) : Int))) := (Only.refl (fun k => k = p) _).setCell (p := ⟨p, 1, none⟩) (fun _ => rfl) _
  have hg : ¬ (fun k => k = p) g := fun e => h.ne e.symm
  refine ⟨?_, ?_, ?_, fun j => by simpa using h.fp j, by simpa using h.lp, fun i c hc j v hv => ?_, fun j => by simpa using h.fg j, by simpa using h.lg, h.ne⟩
  · rw [cell_putR h.c1, if_neg (by omega)]; exact h.c0
  · rw [cell_putR h.c1, if_pos rfl]
  · rw [cell_putR h.c1, if_neg (by omega)]; exact h.c2
  · rw [hO.cell (p := ⟨g, i * 4 + j, none⟩) h.lg hg]; exact h.row i c hc j v hv
theorem PtV.put2 (h : PtV W p g cs names used) (k : Nat) : PtV (W.setCell ⟨p, 2, none⟩ (.int .i64 ((k : Nat) : Int))) p g cs names k := by
  have hO : Only (fun k => k = p) W (W.setCell ⟨p, 2, none⟩ (.int .i64 ((k : Nat) : Int))) := (Only.refl (fun k => k = p) _).setCell (p := ⟨p, 2, none⟩) (fun _ => rfl) _
  have hg : ¬ (fun k => k = p) g := fun e => h.ne e.symm
  refine ⟨?_, ?_, ?_, fun j => by simpa using h.fp j, by simpa using h.lp, fun i c hc j v hv => ?_, fun j => by simpa using h.fg j, by simpa using h.lg, h.ne⟩
  · rw [cell_putR h.c2, if_neg (by omega)]; exact h.c0
  · rw [cell_putR h.c2, if_neg (by omega)]; exact h.c1
  · rw [cell_putR h.c2, if_pos rfl]
  · rw [hO.cell (p := ⟨g, i * 4 + j, none⟩) h.lg hg]; exact h.row i c hc j v hv
end
/-- A number each bit of which hangs on all bits of another one. -/
def mixA (x : Int) : Int := IntKind.u64.wrap (bits .xor .u64 x (x / 1073741824) * 13787848793156543929)
def mixB2 (x : Int) : Int := IntKind.u64.wrap (bits .xor .u64 x (x / 134217728) * 10723151780598845931)
def mixZ (x : Int) : Int := bits .xor .u64 (mixB2 (mixA x)) (mixB2 (mixA x) / 2147483648)
theorem wrap_in (x : Int) : 0 ≤ IntKind.u64.wrap x ∧ IntKind.u64.wrap x < 18446744073709551616 := by rw [IntKind.wrap_u64]; omega
theorem mixZ_in (x : Int) : 0 ≤ mixZ x ∧ mixZ x < 18446744073709551616 := wrap_in _
set_option maxRecDepth 100000 in
theorem tbMixed_any (x : Int) (_h0 : 0 ≤ x) (_h1 : x < 18446744073709551616) (W : World) : Calls Try.prog 22 #[.int .u64 x] W fun e W' => e = .returned (.int .u64 (mixZ x)) ∧ W' = W := by
  obtain ⟨m, hm⟩ : ∃ m, m = mixZ x := ⟨_, rfl⟩
  rw [← hm]
  unfold mixZ mixB2 mixA at hm
  replace hm := Lib.hid hm
  go_enter Try.func22, Try.ntmps22
  go_wp2
  go_ret
  exact ⟨by rw [hm.out]; rfl, rfl⟩
/-- Where the search for a name begins. -/
def startZ (k : Nat) : Int := wrap64 (mixZ (bits .xor .u64 (mixZ ((hiN k : Nat) : Int)) ((loN k : Nat) : Int)))
set_option maxRecDepth 100000 in
set_option maxHeartbeats 1000000 in
theorem tbStart_any (k : Nat) (hk : k < big) (W : World) : Calls Try.prog 21 #[numV k] W fun e W' => e = .returned (.int .i64 (startZ k)) ∧ Below W.heap.size W W' := by
  have hh := hiN_lt hk
  have hm := mixZ_in ((hiN k : Nat) : Int)
  have k1 := Lib.hid (fun W => tbMixed_any ((hiN k : Nat) : Int) (by omega) (by omega) W)
  have k2 := Lib.hid (fun W => tbMixed_any (bits .xor .u64 (mixZ ((hiN k : Nat) : Int)) ((loN k : Nat) : Int)) (wrap_in _).1 (wrap_in _).2 W)
  have hs := Lib.hid (show startZ k = wrap64 (mixZ (bits .xor .u64 (mixZ ((hiN k : Nat) : Int)) ((loN k : Nat) : Int))) from rfl)
  generalize startZ k = z at *
  generalize mixZ ((hiN k : Nat) : Int) = x1 at *
  clear hh hm
  generalize mixZ (bits .xor .u64 x1 ((loN k : Nat) : Int)) = x2 at *
  go_enter Try.func21, Try.ntmps21
  go_wp2
  go_quiet ((go_at_call 22; first | (with_reducible exact Calls.quiet_of_same (k1.out _)) | (with_reducible exact Calls.quiet_of_same (k2.out _))))
  go_wp2
  go_ret
  exact ⟨by rw [hs.out]; rfl, ((Below.refl _ _).alloc (Nat.le_refl _) _).trans ⟨rfl, rfl, rfl, Nat.le_refl _, fun _ _ => rfl⟩⟩
section
variable {W : World} {p g : Nat} {cs : List Cl} {names used : Nat}
set_option maxRecDepth 100000 in
theorem tbLen_any (h : PtV W p g cs names used) : Calls Try.prog 9 #[.pointer (some ⟨p, 0, none⟩)] W fun e W' => e = .returned (.int .i64 ((names : Nat) : Int)) ∧ Below W.heap.size W W' := by
  have c1 := h.c1
  have hlt := h.lp
  clear h
  go_enter Try.func9, Try.ntmps9
  go_wp2
  go_ret
  exact ⟨rfl, Below.refl _ _⟩
set_option maxRecDepth 100000 in
theorem tbCrowded_any (h : PtV W p g cs names used) (hu : used ≤ cs.length) (hn : cs.length ≤ 8192) : Calls Try.prog 18 #[.pointer (some ⟨p, 0, none⟩)] W fun e W' => e = .returned (.bool (decide (cs.length < 2 * (used + 1)))) ∧ Below W.heap.size W W' := by
  have c0 := h.c0
  have c2 := h.c2
  have hlt := h.lp
  have hd : decide (((cs.length : Nat) : Int) < 2 * (((used : Nat) : Int) + 1)) = decide (cs.length < 2 * (used + 1)) := decide_eq_decide.2 (by omega)
  replace hd := Lib.hid hd
  generalize cs.length = n at *
  clear h
  have e1 : IntKind.i64.wrap (((used : Nat) : Int) + 1) = ((used : Nat) : Int) + 1 := IntWalk.i64_in _ (by omega)
  have e2 : IntKind.i64.wrap (2 * (((used : Nat) : Int) + 1)) = 2 * (((used : Nat) : Int) + 1) := IntWalk.i64_in _ (by omega)
  go_enter Try.func18, Try.ntmps18
  go_wp2
  go_quiet (fail)
  go_wp2
  go_ret
  exact ⟨by rw [← hd.out]; first | rfl | simp, ⟨rfl, rfl, rfl, Nat.le_refl _, fun _ _ => rfl⟩⟩
end
end Go.Proofs.Ytpopbdladlahjaa
