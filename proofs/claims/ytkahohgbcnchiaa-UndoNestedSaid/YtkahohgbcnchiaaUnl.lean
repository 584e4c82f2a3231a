/- Stage 14: the document's answer in memory: rows of rows that are never written into; New, Now, change. No condition but sizes. -/
import Derived.Test.YtkahohgbcnchiaaUnk
import Derived.Test.YtkahohgbcnchiaaCix
namespace Go.Proofs.Ytkahohgbcnchiaa
open Go.RowKit Wm

/-- A row of numbers, la a slice, and what it reads la. -/
structure Rw where
  ao : Option Addr
  len : Nat
  cap : Nat
  xs : List Int
def Rw.val (r : Rw) : Value := .slice r.ao r.len r.cap
def csR (r : Rw) : List Value := [r.val]
theorem csRK : CellsK csR 1 := ⟨fun _ => rfl, fun x v hv => by
  unfold csR Rw.val at hv
  rw [List.mem_singleton.1 hv]; rfl, by decide⟩
theorem infoR : InfoK Try.prog 39 1 24 := InfoK.mk' (by kernel_rfl)
/-- It reads so, and nobody writes into it. -/
def Rw.reads (r : Rw) (W : World) : Prop := W.ownsRow 0 3 1 r.val r.xs.length (rowK csI r.xs)
def nilRw : Rw := ⟨none, 0, 0, []⟩
theorem nilRw_reads (W : World) : nilRw.reads W := ⟨rfl, .inl ⟨rfl, rfl⟩⟩
theorem Rw.reads_len {r : Rw} {W : World} (h : r.reads W) : r.len = r.xs.length := by
  rcases own_spot h with ⟨e, h0⟩ | ⟨g, c, e, _⟩
  · unfold Rw.val at e; injection e with _ e2 _; omega
  · unfold Rw.val at e; injection e with _ e2 _
theorem Rw.made {W : World} {v : Value} {xs : List Int} (h : W.ownsRow 0 3 1 v xs.length (rowK csI xs)) : ∃ r : Rw, r.val = v ∧ r.xs = xs ∧ r.reads W := by
  rcases own_spot h with ⟨rfl, h0⟩ | ⟨g, c, rfl, _⟩
  · exact ⟨⟨none, 0, 0, xs⟩, rfl, rfl, h⟩
  · exact ⟨⟨_, _, c, xs⟩, rfl, rfl, h⟩
structure PastV (W : World) (p : Nat) (vA vB : Value) (la lb : List Rw) : Prop where
  c0 : W.cell? ⟨p, 0, none⟩ = some vA
  c1 : W.cell? ⟨p, 1, none⟩ = some vB
  fz : ∀ j, W.frozen? ⟨p, j, none⟩ = false
  lp : p < W.heap.size
  oA : W.ownsRow 0 39 1 vA la.length (rowK csR la)
  oB : W.ownsRow 0 39 1 vB lb.length (rowK csR lb)
  rA : ∀ r ∈ la, r.reads W
  rB : ∀ r ∈ lb, r.reads W
  dA : vA.ownBlock ≠ some p
  dB : vB.ownBlock ≠ some p
  dd : ∀ k, vA.ownBlock = some k → vB.ownBlock ≠ some k
  np : ∀ r, r ∈ la ∨ r ∈ lb → r.val.ownBlock ≠ some p
  nA : ∀ r, r ∈ la ∨ r ∈ lb → ∀ k, r.val.ownBlock = some k → vA.ownBlock ≠ some k
  nB : ∀ r, r ∈ la ∨ r ∈ lb → ∀ k, r.val.ownBlock = some k → vB.ownBlock ≠ some k
def footP (p : Nat) (vA vB : Value) (la lb : List Rw) : Nat → Prop := fun k => k = p ∨ vA.ownBlock = some k ∨ vB.ownBlock = some k ∨ ∃ r, (r ∈ la ∨ r ∈ lb) ∧ r.val.ownBlock = some k
def pastA (p : Nat) (la lb : List Rw) : Asr := fun F W => ∃ vA vB, PastV W p vA vB la lb ∧ ∀ k, F k ↔ footP p vA vB la lb k
section
variable {W W' : World} {p : Nat} {vA vB : Value} {la lb : List Rw}
theorem PastV.near (h : PastV W p vA vB la lb) : ∀ k, footP p vA vB la lb k → k < W.heap.size := by
  rintro k (rfl | e | e | ⟨r, hr, e⟩)
  · exact h.lp
  · exact (h.oA.lt k e).2
  · exact (h.oB.lt k e).2
  · rcases hr with hr | hr
    · exact (Go.World.ownsRow.lt (h.rA r hr) k e).2
    · exact (Go.World.ownsRow.lt (h.rB r hr) k e).2
theorem PastV.keep {G : Nat → Prop} (h : PastV W p vA vB la lb) (hO : Only G W W') (hG : ∀ k, footP p vA vB la lb k → ¬ G k) : PastV W' p vA vB la lb := by
  have hp : ¬ G p := hG p (.inl rfl)
  refine ⟨?_, ?_, fun j => ?_, Nat.lt_of_lt_of_le h.lp hO.size, hO.row h.oA (fun g e => hG g (.inr (.inl e))), hO.row h.oB (fun g e => hG g (.inr (.inr (.inl e)))), fun r hr => hO.row (h.rA r hr) (fun g e => hG g (.inr (.inr (.inr ⟨r, .inl hr, e⟩)))), fun r hr => hO.row (h.rB r hr) (fun g e => hG g (.inr (.inr (.inr ⟨r, .inr hr, e⟩)))), h.dA, h.dB, h.dd, h.np, h.nA, h.nB⟩
  · rw [hO.cell (p := ⟨p, 0, none⟩) h.lp hp]; exact h.c0
  · rw [hO.cell (p := ⟨p, 1, none⟩) h.lp hp]; exact h.c1
  · rw [hO.frozen (p := ⟨p, j, none⟩) h.lp hp]; exact h.fz j
theorem PastV.later (h : PastV W p vA vB la lb) (hb : Below W.heap.size W W') : PastV W' p vA vB la lb := h.keep (G := fun _ => False) (Only.of_below hb) (fun _ _ e => e)
theorem isAsr_past (p : Nat) (la lb : List Rw) : IsAsr (pastA p la lb) where
  near := fun _F _W ⟨_vA, _vB, h, e⟩ k hk => h.near k ((e k).1 hk)
  keep := fun _F _G _W _W' ⟨vA, vB, h, e⟩ hO hG => ⟨vA, vB, h.keep hO (fun k hk => hG k ((e k).2 hk)), e⟩
theorem row_last {e : TypeId} {v : Value} {l : List Rw} {r : Rw} (h : W.ownsRow 0 e 1 v (l ++ [r]).length (rowK csR (l ++ [r]))) : ∃ g c, v = .slice (some ⟨g, 0, none⟩) (l.length + 1) c ∧ W.cell? ⟨g, l.length, none⟩ = some r.val ∧ g < W.heap.size := by
  have hl : (l ++ [r]).length = l.length + 1 := by simp
  rcases own_spot h with ⟨-, h0⟩ | ⟨g, c, rfl, hg, -, -, hc, -⟩
  · omega
  · refine ⟨g, c, by rw [hl], hc _ _ ?_, hg⟩
    have := rowK_at csRK (l ++ [r]) l.length 0 (by omega) (by decide)
    rw [Nat.mul_one, Nat.add_zero] at this
    rw [this]
    simp [csR]
theorem run_idx_R (g n c i : Nat) (h : i < n) (w : World) : (Instr.indexAt 36 (.slice (some ⟨g, 0, none⟩) n c) (.int .i64 (i : Int))).run Try.prog w = .ok (.pointer (some ⟨g, i, none⟩)) w := by
  have := run_idx_K (P := Try.prog) (K := 1) (ty := 36) (e := 39) (by kernel_rfl) (by kernel_rfl) (by kernel_rfl) g 0 n c i h w
  rwa [Nat.zero_add, Nat.mul_one] at this
set_option maxRecDepth 100000 in
set_option maxHeartbeats 2000000 in
theorem refnow_any {ra rb : Rw} (h : PastV W p vA vB (la ++ [ra]) (lb ++ [rb])) (hA : la.length ≤ 100000) (hB : lb.length ≤ 100000) : Calls Try.prog 12 #[.pointer (some ⟨p, 0, none⟩)] W fun e W' => e = .returned (.tuple #[ra.val, rb.val]) ∧ Below W.heap.size W W' := by
  obtain ⟨g1, d1, rfl, q1, l1⟩ := row_last h.oA
  obtain ⟨g2, d2, rfl, q2, l2⟩ := row_last h.oB
  have ix1 := Lib.hid (fun w => run_idx_R g1 (la.length + 1) d1 la.length (by omega) w)
  have ix2 := Lib.hid (fun w => run_idx_R g2 (lb.length + 1) d2 lb.length (by omega) w)
  have ew1 : wrap64 (la.length : Int) = (la.length : Int) := wrap64_small _ (by omega)
  have ew2 : wrap64 (lb.length : Int) = (lb.length : Int) := wrap64_small _ (by omega)
  have ex1 : IntKind.i64.wrap (la.length : Int) = (la.length : Int) := by rw [IntKind.wrap_i64]; omega
  have ex2 : IntKind.i64.wrap (lb.length : Int) = (lb.length : Int) := by rw [IntKind.wrap_i64]; omega
  have hS := Lib.hid (fun w' (hb : Below W.heap.size W w') => show (w'.cell? ⟨p, 0, none⟩ = some (.slice (some ⟨g1, 0, none⟩) (la.length + 1) d1) ∧ p < w'.heap.size) ∧ (w'.cell? ⟨p, 1, none⟩ = some (.slice (some ⟨g2, 0, none⟩) (lb.length + 1) d2) ∧ p < w'.heap.size) ∧ (w'.cell? ⟨g1, la.length, none⟩ = some ra.val ∧ g1 < w'.heap.size) ∧ (w'.cell? ⟨g2, lb.length, none⟩ = some rb.val ∧ g2 < w'.heap.size) from by
    have hv := h.later hb
    exact ⟨⟨hv.c0, hv.lp⟩, ⟨hv.c1, hv.lp⟩, ⟨(hb.cell (p := ⟨g1, la.length, none⟩) l1).trans q1, Nat.lt_of_lt_of_le l1 hb.size⟩, ⟨(hb.cell (p := ⟨g2, lb.length, none⟩) l2).trans q2, Nat.lt_of_lt_of_le l2 hb.size⟩⟩)
  clear h q1 q2 l1 l2 hA hB
  unfold Rw.val at *
  generalize la.length = n at *
  generalize lb.length = m at *
  go_enter Try.func12, Try.ntmps12
  go_wp2_with fail
  refine wp_region_calm (fun w' => Below W.heap.size W w') (by kernel_rfl) (by kernel_rfl) (Below.refl _ _).drew ?_
  refine calm_pure (v := ?cv100) (by rfl) (fun w' => ?ch100) ?cr100
  case ch100 => (go_simp; first | done | with_reducible rfl)
  try simp only [Act.put, List.setIfInBounds_toArray, List.set_cons_zero, List.set_cons_succ]
  refine calm_pure (v := ?cv103) (by rfl) (fun w' => ?ch103) ?cr103
  case ch103 => (go_simp; first | done | with_reducible rfl)
  try simp only [Act.put, List.setIfInBounds_toArray, List.set_cons_zero, List.set_cons_succ]
  refine calm_pure (v := ?cv106) (by rfl) (fun w' => ?ch106) ?cr106
  case ch106 => (go_simp; first | done | with_reducible rfl)
  try simp only [Act.put, List.setIfInBounds_toArray, List.set_cons_zero, List.set_cons_succ]
  refine calm_read (v := (.slice (some ⟨g1, 0, none⟩) (n + 1) d1)) (by rfl) (fun w' h => ?ch109) ?cr109
  case ch109 => (obtain ⟨hcq, hcl⟩ := (hS.out w' h).1; go_simp)
  try simp only [Act.put, List.setIfInBounds_toArray, List.set_cons_zero, List.set_cons_succ]
  refine calm_pure (v := ?cv112) (by rfl) (fun w' => ?ch112) ?cr112
  case ch112 => (go_simp; first | done | with_reducible rfl)
  try simp only [Act.put, List.setIfInBounds_toArray, List.set_cons_zero, List.set_cons_succ]
  refine calm_pure (v := ?cv115) (by rfl) (fun w' => ?ch115) ?cr115
  case ch115 => (go_simp; first | done | with_reducible rfl)
  try simp only [Act.put, List.setIfInBounds_toArray, List.set_cons_zero, List.set_cons_succ]
  refine calm_pure (v := ?cv118) (by rfl) (fun w' => ?ch118) ?cr118
  case ch118 => (go_simp; first | done | with_reducible rfl)
  try simp only [Act.put, List.setIfInBounds_toArray, List.set_cons_zero, List.set_cons_succ]
  refine calm_read (v := (.slice (some ⟨g1, 0, none⟩) (n + 1) d1)) (by rfl) (fun w' h => ?ch121) ?cr121
  case ch121 => (obtain ⟨hcq, hcl⟩ := (hS.out w' h).1; go_simp)
  try simp only [Act.put, List.setIfInBounds_toArray, List.set_cons_zero, List.set_cons_succ]
  refine calm_pure (v := ?cv124) (by rfl) (fun w' => ?ch124) ?cr124
  case ch124 => (go_simp; first | done | with_reducible rfl)
  try simp only [Act.put, List.setIfInBounds_toArray, List.set_cons_zero, List.set_cons_succ]
  refine calm_pure (v := ?cv127) (by rfl) (fun w' => ?ch127) ?cr127
  case ch127 => (go_simp; first | done | with_reducible rfl)
  try simp only [Act.put, List.setIfInBounds_toArray, List.set_cons_zero, List.set_cons_succ]
  refine calm_index _ _ _ (.slice (some ⟨g1, 0, none⟩) (n + 1) d1) (.int .i64 (n : Int)) _ (by rfl) rfl rfl rfl ix1.out ?_
  try simp only [Act.put, List.setIfInBounds_toArray, List.set_cons_zero, List.set_cons_succ]
  refine calm_read (v := (.slice ra.ao ra.len ra.cap)) (by rfl) (fun w' h => ?ch132) ?cr132
  case ch132 => (obtain ⟨hcq, hcl⟩ := (hS.out w' h).2.2.1; go_simp)
  try simp only [Act.put, List.setIfInBounds_toArray, List.set_cons_zero, List.set_cons_succ]
  refine calm_pure (v := ?cv135) (by rfl) (fun w' => ?ch135) ?cr135
  case ch135 => (go_simp; first | done | with_reducible rfl)
  try simp only [Act.put, List.setIfInBounds_toArray, List.set_cons_zero, List.set_cons_succ]
  refine calm_pure (v := ?cv138) (by rfl) (fun w' => ?ch138) ?cr138
  case ch138 => (go_simp; first | done | with_reducible rfl)
  try simp only [Act.put, List.setIfInBounds_toArray, List.set_cons_zero, List.set_cons_succ]
  refine calm_pure (v := ?cv141) (by rfl) (fun w' => ?ch141) ?cr141
  case ch141 => (go_simp; first | done | with_reducible rfl)
  try simp only [Act.put, List.setIfInBounds_toArray, List.set_cons_zero, List.set_cons_succ]
  refine calm_read (v := (.slice (some ⟨g2, 0, none⟩) (m + 1) d2)) (by rfl) (fun w' h => ?ch144) ?cr144
  case ch144 => (obtain ⟨hcq, hcl⟩ := (hS.out w' h).2.1; go_simp)
  try simp only [Act.put, List.setIfInBounds_toArray, List.set_cons_zero, List.set_cons_succ]
  refine calm_pure (v := ?cv147) (by rfl) (fun w' => ?ch147) ?cr147
  case ch147 => (go_simp; first | done | with_reducible rfl)
  try simp only [Act.put, List.setIfInBounds_toArray, List.set_cons_zero, List.set_cons_succ]
  refine calm_pure (v := ?cv150) (by rfl) (fun w' => ?ch150) ?cr150
  case ch150 => (go_simp; first | done | with_reducible rfl)
  try simp only [Act.put, List.setIfInBounds_toArray, List.set_cons_zero, List.set_cons_succ]
  refine calm_pure (v := ?cv153) (by rfl) (fun w' => ?ch153) ?cr153
  case ch153 => (go_simp; first | done | with_reducible rfl)
  try simp only [Act.put, List.setIfInBounds_toArray, List.set_cons_zero, List.set_cons_succ]
  refine calm_read (v := (.slice (some ⟨g2, 0, none⟩) (m + 1) d2)) (by rfl) (fun w' h => ?ch156) ?cr156
  case ch156 => (obtain ⟨hcq, hcl⟩ := (hS.out w' h).2.1; go_simp)
  try simp only [Act.put, List.setIfInBounds_toArray, List.set_cons_zero, List.set_cons_succ]
  refine calm_pure (v := ?cv159) (by rfl) (fun w' => ?ch159) ?cr159
  case ch159 => (go_simp; first | done | with_reducible rfl)
  try simp only [Act.put, List.setIfInBounds_toArray, List.set_cons_zero, List.set_cons_succ]
  refine calm_pure (v := ?cv162) (by rfl) (fun w' => ?ch162) ?cr162
  case ch162 => (go_simp; first | done | with_reducible rfl)
  try simp only [Act.put, List.setIfInBounds_toArray, List.set_cons_zero, List.set_cons_succ]
  refine calm_index _ _ _ (.slice (some ⟨g2, 0, none⟩) (m + 1) d2) (.int .i64 (m : Int)) _ (by rfl) rfl rfl rfl ix2.out ?_
  try simp only [Act.put, List.setIfInBounds_toArray, List.set_cons_zero, List.set_cons_succ]
  refine calm_read (v := (.slice rb.ao rb.len rb.cap)) (by rfl) (fun w' h => ?ch167) ?cr167
  case ch167 => (obtain ⟨hcq, hcl⟩ := (hS.out w' h).2.2.2; go_simp)
  try simp only [Act.put, List.setIfInBounds_toArray, List.set_cons_zero, List.set_cons_succ]
  refine calm_pure (v := ?cv170) (by rfl) (fun w' => ?ch170) ?cr170
  case ch170 => (go_simp; first | done | with_reducible rfl)
  try simp only [Act.put, List.setIfInBounds_toArray, List.set_cons_zero, List.set_cons_succ]
  refine calm_pure (v := ?cv173) (by rfl) (fun w' => ?ch173) ?cr173
  case ch173 => (go_simp; first | done | with_reducible rfl)
  try simp only [Act.put, List.setIfInBounds_toArray, List.set_cons_zero, List.set_cons_succ]
  intro w9 hm9
  go_wp2
  go_ret2
  exact ⟨rfl, hm9⟩
end
end Go.Proofs.Ytkahohgbcnchiaa
