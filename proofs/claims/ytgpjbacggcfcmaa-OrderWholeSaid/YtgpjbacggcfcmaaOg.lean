/- Stage 12: a call on both lists. No condition but the landed package's. -/
import Derived.Test.YtgpjbacggcfcmaaOf
namespace Go.Proofs.Ytgpjbacggcfcmaa
open Go.RowKit Wm

/-- What a call of a script makes of a list; and of a script. -/
def callZ (m : Zbl) (c : Ocall) : Zbl := if c.Kind = 0 then putZ m c.Stamp c.At else dropZ m c.Stamp
def scriptZ (l : List Ocall) : Zbl := l.foldl callZ []
theorem scriptZ_snoc (l : List Ocall) (c : Ocall) : scriptZ (l ++ [c]) = callZ (scriptZ l) c := by
  unfold scriptZ
  rw [List.foldl_append]; rfl
theorem OnceZ.call {m : Zbl} (h : OnceZ m) (c : Ocall) : OnceZ (callZ m c) := by
  unfold callZ
  split
  · exact h.put _ _
  · exact h.drop _
theorem callZ_length (m : Zbl) (c : Ocall) : (callZ m c).length ≤ m.length + 1 := by
  unfold callZ
  split
  · rw [putZ_length]; split <;> omega
  · rw [dropZ_length]; split <;> omega
theorem callZ_names (m : Zbl) (c : Ocall) : ∀ x ∈ (callZ m c).map Prod.fst, x = c.Stamp ∨ x ∈ m.map Prod.fst := by
  intro x hx
  unfold callZ at hx
  split at hx
  · rw [putZ_names] at hx
    split at hx
    · exact .inr hx
    · rcases List.mem_append.1 hx with h | h
      · exact .inr h
      · exact .inl (List.mem_singleton.1 h)
  · exact .inr ((dropZ_sub m c.Stamp).subset hx)
theorem script_all (l : List Ocall) : ∀ m : Zbl, OnceZ m → (∀ c ∈ l, c.Wf) → (∀ x ∈ m.map Prod.fst, -9223372036854775808 ≤ x) → OnceZ (l.foldl callZ m) ∧ (l.foldl callZ m).length ≤ m.length + l.length ∧ ∀ x ∈ (l.foldl callZ m).map Prod.fst, -9223372036854775808 ≤ x := by
  induction l with
  | nil => intro m h _ hb; exact ⟨h, by simp, hb⟩
  | cons c r ih =>
    intro m h hc hb
    obtain ⟨h1, h2, h3⟩ := ih (callZ m c) (h.call c) (fun c' hc' => hc c' (List.mem_cons_of_mem _ hc')) (fun x hx => by
      rcases callZ_names m c x hx with rfl | e
      · exact (hc c (List.mem_cons_self ..)).Stamp.1
      · exact hb x e)
    have h4 := callZ_length m c
    refine ⟨h1, ?_, h3⟩
    simp only [List.foldl_cons, List.length_cons]
    omega
theorem scriptZ_facts {l : List Ocall} (hl : ∀ c ∈ l, c.Wf) (k : Nat) : OnceZ (scriptZ (l.take k)) ∧ (scriptZ (l.take k)).length ≤ l.length ∧ ∀ p ∈ scriptZ (l.take k), -9223372036854775808 ≤ p.1 := by
  obtain ⟨h1, h2, h3⟩ := script_all (l.take k) [] List.nodup_nil (fun c hc => hl c (List.mem_of_mem_take hc)) (fun x hx => by cases hx)
  refine ⟨h1, ?_, fun p hp => h3 _ (List.mem_map_of_mem hp)⟩
  have h4 : (l.take k).length ≤ l.length := by rw [List.length_take]; omega
  unfold scriptZ
  simp only [List.length_nil] at h2
  omega
def doesB (m n : Zbl) (c : Ocall) : Bool := if c.Kind = 0 then ((!(getZ m c.Stamp).isSome) == (!(getZ n c.Stamp).isSome)) else ((getZ m c.Stamp).isSome == (getZ n c.Stamp).isSome)
theorem doesB_same (m : Zbl) (c : Ocall) : doesB m m c = true := by unfold doesB; split <;> exact beq_self_eq_true _
def ocallV (c : Ocall) : Value := .agg c.cells.toArray
theorem ocallV_eq (c : Ocall) : ocallV c = .agg #[.int .i64 c.Kind, .int .i64 c.Stamp, .int .i64 c.At] := rfl
section
variable {Od : Kind Zbl}
set_option maxRecDepth 100000 in
set_option maxHeartbeats 2000000 in
theorem odoes_put (K : LandedOr Od) {w wr : World} {p q : Nat} {m n : Zbl} (h : On2 Od LsRef w wr p m q n) (hlm : m.length ≤ 1000) (hln : n.length ≤ 1000) (c : Ocall) (hc : c.Wf) (h0 : c.Kind = 0) :
    Calls Try.prog 8 #[.pointer (some ⟨p, 0, none⟩), .pointer (some ⟨q, 0, none⟩), ocallV c] wr fun e w' => e = .returned (.bool (doesB m n c)) ∧ On2 Od LsRef w w' p (callZ m c) q (callZ n c) := by
  have hT := On2x.start K.toIsKind lsRef_kind h c.cells 33
  have k1 := Lib.hid (fun W (h : On2x Od LsRef w W p m q n wr.heap.size c.cells) => h.left lsRef_kind (fun F hF => K.put F W p m c.Stamp c.At hF hlm hc.Stamp.1 hc.Stamp.2 hc.At.1 hc.At.2))
  have k2 := Lib.hid (fun W (h : On2x Od LsRef w W p (putZ m c.Stamp c.At) q n wr.heap.size c.cells) => h.right K.toIsKind (fun G hG => lsput_any hG hln c.Stamp c.At))
  have hm : callZ m c = putZ m c.Stamp c.At := by unfold callZ; rw [if_pos h0]
  have hn : callZ n c = putZ n c.Stamp c.At := by unfold callZ; rw [if_pos h0]
  have hdb : doesB m n c = ((!(getZ m c.Stamp).isSome) == (!(getZ n c.Stamp).isSome)) := by unfold doesB; rw [if_pos h0]
  rw [hm, hn, hdb]
  generalize putZ m c.Stamp c.At = m2 at *
  generalize putZ n c.Stamp c.At = n2 at *
  have h0b : (c.Kind == 0) = true := by rw [h0]; rfl
  rw [ocallV_eq]
  generalize (getZ m c.Stamp).isSome = b1 at *
  generalize (getZ n c.Stamp).isSome = b2 at *
  have hlat := Lib.hid (fun W W2 (h : On2x Od LsRef w W p m q n wr.heap.size c.cells) (hb : Below W.heap.size W W2) => h.later K.toIsKind lsRef_kind hb)
  have hs := Lib.hid (fun W m1 m2 (h : On2x Od LsRef w W p m1 q m2 wr.heap.size c.cells) => (show W.cell? ⟨wr.heap.size, 1, none⟩ = some (.int .i64 c.Stamp) ∧ W.cell? ⟨wr.heap.size, 2, none⟩ = some (.int .i64 c.At) ∧ wr.heap.size < W.heap.size from ⟨h.box.spot 1 _ rfl, h.box.spot 2 _ rfl, h.box.lt⟩))
  clear h hlm hln hc h0 hm hn hdb
  go_enter Try.func8, Try.ntmps8
  go_wp2_with fail
  refine wp_region_need (fun w' => w'.cell? ⟨wr.heap.size, 1, none⟩ = some (.int .i64 c.Stamp) ∧ w'.cell? ⟨wr.heap.size, 2, none⟩ = some (.int .i64 c.At) ∧ wr.heap.size < w'.heap.size) [0, 1, 2, 3, 4, 6, 7, 8, 9, 10] (by kernel_rfl) ?_
  have hT1 := hlat.out _ _ hT ((Below.refl _ _).drew)
  have hS0 := hs.out _ _ _ hT1
  refine need_takeL (i := 0) (v := ?cv83) rfl rfl (by kernel_rfl) (by kernel_rfl) (by kernel_rfl) (fun _ _ _ h => h) (Or.inl ⟨by rfl, ?ch83⟩) hS0 ?cr83
  case ch83 => (intro w' hSw; (try dsimp only at hSw); go_simp; first | done | with_reducible rfl)
  try simp only [Act.put, List.setIfInBounds_toArray, List.set_cons_zero, List.set_cons_succ]
  refine need_takeL (i := 1) (v := ?cv86) rfl rfl (by kernel_rfl) (by kernel_rfl) (by kernel_rfl) (fun _ _ _ h => h) (Or.inl ⟨by rfl, ?ch86⟩) hS0 ?cr86
  case ch86 => (intro w' hSw; (try dsimp only at hSw); go_simp; first | done | with_reducible rfl)
  try simp only [Act.put, List.setIfInBounds_toArray, List.set_cons_zero, List.set_cons_succ]
  refine need_takeL (i := 2) (v := ?cv89) rfl rfl (by kernel_rfl) (by kernel_rfl) (by kernel_rfl) (fun _ _ _ h => h) (Or.inl ⟨by rfl, ?ch89⟩) hS0 ?cr89
  case ch89 => (intro w' hSw; (try dsimp only at hSw); go_simp; first | done | with_reducible rfl)
  try simp only [Act.put, List.setIfInBounds_toArray, List.set_cons_zero, List.set_cons_succ]
  refine need_takeL (i := 3) (v := ?cv92) rfl rfl (by kernel_rfl) (by kernel_rfl) (by kernel_rfl) (fun _ _ _ h => h) (Or.inl ⟨by rfl, ?ch92⟩) hS0 ?cr92
  case ch92 => (intro w' hSw; (try dsimp only at hSw); go_simp; first | done | with_reducible rfl)
  try simp only [Act.put, List.setIfInBounds_toArray, List.set_cons_zero, List.set_cons_succ]
  refine need_takeL (i := 4) (v := ?cv95) rfl rfl (by kernel_rfl) (by kernel_rfl) (by kernel_rfl) (fun _ _ _ h => h) (Or.inl ⟨by rfl, ?ch95⟩) hS0 ?cr95
  case ch95 => (intro w' hSw; (try dsimp only at hSw); go_simp; first | done | with_reducible rfl)
  try simp only [Act.put, List.setIfInBounds_toArray, List.set_cons_zero, List.set_cons_succ]
  refine need_takeL (i := 6) (v := ?cv98) rfl rfl (by kernel_rfl) (by kernel_rfl) (by kernel_rfl) (fun _ _ _ h => h) (Or.inl ⟨by rfl, ?ch98⟩) hS0 ?cr98
  case ch98 => (intro w' hSw; (try dsimp only at hSw); go_simp; first | done | with_reducible rfl)
  try simp only [Act.put, List.setIfInBounds_toArray, List.set_cons_zero, List.set_cons_succ]
  refine need_takeL (i := 7) (v := ?cv101) rfl rfl (by kernel_rfl) (by kernel_rfl) (by kernel_rfl) (fun _ _ _ h => h) (Or.inl ⟨by rfl, ?ch101⟩) hS0 ?cr101
  case ch101 => (intro w' hSw; (try dsimp only at hSw); go_simp; first | done | with_reducible rfl)
  try simp only [Act.put, List.setIfInBounds_toArray, List.set_cons_zero, List.set_cons_succ]
  refine need_takeL (i := 8) (v := ?cv104) rfl rfl (by kernel_rfl) (by kernel_rfl) (by kernel_rfl) (fun _ _ _ h => h) (Or.inl ⟨by rfl, ?ch104⟩) hS0 ?cr104
  case ch104 => (intro w' hSw; (try dsimp only at hSw); go_simp; first | done | with_reducible rfl)
  try simp only [Act.put, List.setIfInBounds_toArray, List.set_cons_zero, List.set_cons_succ]
  refine need_takeL (i := 9) (v := ?cv107) rfl rfl (by kernel_rfl) (by kernel_rfl) (by kernel_rfl) (fun _ _ _ h => h) (Or.inl ⟨by rfl, ?ch107⟩) hS0 ?cr107
  case ch107 => (intro w' hSw; (try dsimp only at hSw); go_simp; first | done | with_reducible rfl)
  try simp only [Act.put, List.setIfInBounds_toArray, List.set_cons_zero, List.set_cons_succ]
  refine need_takeL (i := 10) (v := ?cv110) rfl rfl (by kernel_rfl) (by kernel_rfl) (by kernel_rfl) (fun _ _ _ h => h) (Or.inl ⟨by rfl, ?ch110⟩) hS0 ?cr110
  case ch110 => (intro w' hSw; (try dsimp only at hSw); go_simp; first | done | with_reducible rfl)
  try simp only [Act.put, List.setIfInBounds_toArray, List.set_cons_zero, List.set_cons_succ]
  refine need_turnL (i := 5) rfl (by kernel_rfl) (by rfl) (fun K' hK' => ?_)
  go_simp
  refine (k1.out _ hT1).mono ?_
  rintro e w2 ⟨rfl, hT2⟩
  refine hK' _ _ (fun _ => hs.out _ _ _ hT2) ?_
  clear hK' K'
  try simp only [Act.put, List.setIfInBounds_toArray, List.set_cons_zero, List.set_cons_succ]
  refine need_turnL (i := 11) rfl (by kernel_rfl) (by rfl) (fun K' hK' => ?_)
  go_simp
  refine (k2.out _ hT2).mono ?_
  rintro e w3 ⟨rfl, hT3⟩
  refine hK' _ _ (fun _ => hs.out _ _ _ hT3) ?_
  clear hK' K'
  try simp only [Act.put, List.setIfInBounds_toArray, List.set_cons_zero, List.set_cons_succ]
  refine need_turnL (i := 12) rfl (by kernel_rfl) (by rfl) (fun K' hK' => ?_)
  go_simp
  refine hK' _ _ (fun _ => hs.out _ _ _ hT3) ?_
  clear hK' K'
  try simp only [Act.put, List.setIfInBounds_toArray, List.set_cons_zero, List.set_cons_succ]
  refine need_turnL (i := 13) rfl (by kernel_rfl) (by rfl) (fun K' hK' => ?_)
  go_simp
  refine hK' _ _ (fun _ => hs.out _ _ _ hT3) ?_
  clear hK' K'
  try simp only [Act.put, List.setIfInBounds_toArray, List.set_cons_zero, List.set_cons_succ]
  refine need_done (by kernel_rfl) ?_ _
  clear hS0 k1 k2 hT hT1 hT2 hs hlat
  go_wp2
  go_ret
  exact ⟨rfl, hT3.on2⟩
set_option maxRecDepth 100000 in
set_option maxHeartbeats 2000000 in
theorem odoes_drop (K : LandedOr Od) {w wr : World} {p q : Nat} {m n : Zbl} (h : On2 Od LsRef w wr p m q n) (_hlm : m.length ≤ 1000) (hln : n.length ≤ 1000) (c : Ocall) (hc : c.Wf) (h0 : ¬ c.Kind = 0) :
    Calls Try.prog 8 #[.pointer (some ⟨p, 0, none⟩), .pointer (some ⟨q, 0, none⟩), ocallV c] wr fun e w' => e = .returned (.bool (doesB m n c)) ∧ On2 Od LsRef w w' p (callZ m c) q (callZ n c) := by
  have hT := On2x.start K.toIsKind lsRef_kind h c.cells 33
  have k1 := Lib.hid (fun W (h : On2x Od LsRef w W p m q n wr.heap.size c.cells) => h.left lsRef_kind (fun F hF => K.drop F W p m c.Stamp hF hc.Stamp.1 hc.Stamp.2))
  have k2 := Lib.hid (fun W (h : On2x Od LsRef w W p (dropZ m c.Stamp) q n wr.heap.size c.cells) => h.right K.toIsKind (fun G hG => lsdrop_any hG hln c.Stamp))
  have hm : callZ m c = dropZ m c.Stamp := by unfold callZ; rw [if_neg h0]
  have hn : callZ n c = dropZ n c.Stamp := by unfold callZ; rw [if_neg h0]
  have hdb : doesB m n c = ((getZ m c.Stamp).isSome == (getZ n c.Stamp).isSome) := by unfold doesB; rw [if_neg h0]
  rw [hm, hn, hdb]
  generalize dropZ m c.Stamp = m2 at *
  generalize dropZ n c.Stamp = n2 at *
  have h0b : (c.Kind == 0) = false := by simpa using h0
  rw [ocallV_eq]
  generalize (getZ m c.Stamp).isSome = b1 at *
  generalize (getZ n c.Stamp).isSome = b2 at *
  have hlat := Lib.hid (fun W W2 (h : On2x Od LsRef w W p m q n wr.heap.size c.cells) (hb : Below W.heap.size W W2) => h.later K.toIsKind lsRef_kind hb)
  have hs := Lib.hid (fun W m1 m2 (h : On2x Od LsRef w W p m1 q m2 wr.heap.size c.cells) => (show W.cell? ⟨wr.heap.size, 1, none⟩ = some (.int .i64 c.Stamp) ∧ W.cell? ⟨wr.heap.size, 2, none⟩ = some (.int .i64 c.At) ∧ wr.heap.size < W.heap.size from ⟨h.box.spot 1 _ rfl, h.box.spot 2 _ rfl, h.box.lt⟩))
  clear h hln hc h0 hm hn hdb
  go_enter Try.func8, Try.ntmps8
  go_wp2_with fail
  refine wp_region_need (fun w' => w'.cell? ⟨wr.heap.size, 1, none⟩ = some (.int .i64 c.Stamp) ∧ w'.cell? ⟨wr.heap.size, 2, none⟩ = some (.int .i64 c.At) ∧ wr.heap.size < w'.heap.size) [0, 1, 2, 4, 5, 6] (by kernel_rfl) ?_
  have hT1 := hlat.out _ _ hT ((Below.refl _ _).drew)
  have hS0 := hs.out _ _ _ hT1
  refine need_takeL (i := 0) (v := ?cv167) rfl rfl (by kernel_rfl) (by kernel_rfl) (by kernel_rfl) (fun _ _ _ h => h) (Or.inl ⟨by rfl, ?ch167⟩) hS0 ?cr167
  case ch167 => (intro w' hSw; (try dsimp only at hSw); go_simp; first | done | with_reducible rfl)
  try simp only [Act.put, List.setIfInBounds_toArray, List.set_cons_zero, List.set_cons_succ]
  refine need_takeL (i := 1) (v := ?cv170) rfl rfl (by kernel_rfl) (by kernel_rfl) (by kernel_rfl) (fun _ _ _ h => h) (Or.inl ⟨by rfl, ?ch170⟩) hS0 ?cr170
  case ch170 => (intro w' hSw; (try dsimp only at hSw); go_simp; first | done | with_reducible rfl)
  try simp only [Act.put, List.setIfInBounds_toArray, List.set_cons_zero, List.set_cons_succ]
  refine need_takeL (i := 2) (v := ?cv173) rfl rfl (by kernel_rfl) (by kernel_rfl) (by kernel_rfl) (fun _ _ _ h => h) (Or.inl ⟨by rfl, ?ch173⟩) hS0 ?cr173
  case ch173 => (intro w' hSw; (try dsimp only at hSw); go_simp; first | done | with_reducible rfl)
  try simp only [Act.put, List.setIfInBounds_toArray, List.set_cons_zero, List.set_cons_succ]
  refine need_takeL (i := 4) (v := ?cv176) rfl rfl (by kernel_rfl) (by kernel_rfl) (by kernel_rfl) (fun _ _ _ h => h) (Or.inl ⟨by rfl, ?ch176⟩) hS0 ?cr176
  case ch176 => (intro w' hSw; (try dsimp only at hSw); go_simp; first | done | with_reducible rfl)
  try simp only [Act.put, List.setIfInBounds_toArray, List.set_cons_zero, List.set_cons_succ]
  refine need_takeL (i := 5) (v := ?cv179) rfl rfl (by kernel_rfl) (by kernel_rfl) (by kernel_rfl) (fun _ _ _ h => h) (Or.inl ⟨by rfl, ?ch179⟩) hS0 ?cr179
  case ch179 => (intro w' hSw; (try dsimp only at hSw); go_simp; first | done | with_reducible rfl)
  try simp only [Act.put, List.setIfInBounds_toArray, List.set_cons_zero, List.set_cons_succ]
  refine need_takeL (i := 6) (v := ?cv182) rfl rfl (by kernel_rfl) (by kernel_rfl) (by kernel_rfl) (fun _ _ _ h => h) (Or.inl ⟨by rfl, ?ch182⟩) hS0 ?cr182
  case ch182 => (intro w' hSw; (try dsimp only at hSw); go_simp; first | done | with_reducible rfl)
  try simp only [Act.put, List.setIfInBounds_toArray, List.set_cons_zero, List.set_cons_succ]
  refine need_turnL (i := 3) rfl (by kernel_rfl) (by rfl) (fun K' hK' => ?_)
  go_simp
  refine (k1.out _ hT1).mono ?_
  rintro e w2 ⟨rfl, hT2⟩
  refine hK' _ _ (fun _ => hs.out _ _ _ hT2) ?_
  clear hK' K'
  try simp only [Act.put, List.setIfInBounds_toArray, List.set_cons_zero, List.set_cons_succ]
  refine need_turnL (i := 7) rfl (by kernel_rfl) (by rfl) (fun K' hK' => ?_)
  go_simp
  refine (k2.out _ hT2).mono ?_
  rintro e w3 ⟨rfl, hT3⟩
  refine hK' _ _ (fun _ => hs.out _ _ _ hT3) ?_
  clear hK' K'
  try simp only [Act.put, List.setIfInBounds_toArray, List.set_cons_zero, List.set_cons_succ]
  refine need_turnL (i := 8) rfl (by kernel_rfl) (by rfl) (fun K' hK' => ?_)
  go_simp
  refine hK' _ _ (fun _ => hs.out _ _ _ hT3) ?_
  clear hK' K'
  try simp only [Act.put, List.setIfInBounds_toArray, List.set_cons_zero, List.set_cons_succ]
  refine need_turnL (i := 9) rfl (by kernel_rfl) (by rfl) (fun K' hK' => ?_)
  go_simp
  refine hK' _ _ (fun _ => hs.out _ _ _ hT3) ?_
  clear hK' K'
  try simp only [Act.put, List.setIfInBounds_toArray, List.set_cons_zero, List.set_cons_succ]
  refine need_done (by kernel_rfl) ?_ _
  clear hS0 k1 k2 hT hT1 hT2 hs hlat
  go_wp2
  go_ret
  exact ⟨rfl, hT3.on2⟩
theorem odoes_any (K : LandedOr Od) {w wr : World} {p q : Nat} {m n : Zbl} (h : On2 Od LsRef w wr p m q n) (hlm : m.length ≤ 1000) (hln : n.length ≤ 1000) (c : Ocall) (hc : c.Wf) :
    Calls Try.prog 8 #[.pointer (some ⟨p, 0, none⟩), .pointer (some ⟨q, 0, none⟩), ocallV c] wr fun e w' => e = .returned (.bool (doesB m n c)) ∧ On2 Od LsRef w w' p (callZ m c) q (callZ n c) := by
  by_cases h0 : c.Kind = 0
  · exact odoes_put K h hlm hln c hc h0
  · exact odoes_drop K h hlm hln c hc h0
end
end Go.Proofs.Ytgpjbacggcfcmaa
