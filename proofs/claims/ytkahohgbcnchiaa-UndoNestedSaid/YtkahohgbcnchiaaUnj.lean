/- Stage 14, landed: a list's Set, and what takes it back. No condition but sizes. -/
import Derived.Test.YtkahohgbcnchiaaUni
import Derived.Test.YtkahohgbcnchiaaYld
namespace Go.Proofs.Ytkahohgbcnchiaa
open Go.RowKit Wm

theorem setCell_one {α : Type} {cs : α → List Value} (hK : CellsK cs 1) {W : World} {e : TypeId} {g c i : Nat} {s : List α} {u : Value} {x : α} (hx : cs x = [u]) (h : W.ownsRow 0 e 1 (.slice (some ⟨g, 0, none⟩) s.length c) s.length (rowK cs s)) (hi : i < s.length) :
    (W.setCell ⟨g, i, none⟩ u).ownsRow 0 e 1 (.slice (some ⟨g, 0, none⟩) s.length c) (s.set i x).length (rowK cs (s.set i x)) := by
  have := rowK_store hK h i hi x
  rw [hx, Nat.mul_one, World.setCells, World.setCells, List.length_set] at this
  rw [List.length_set]
  exact this
section
variable {R : Asr} {w W : World} {p n B0 B1 B2 : Nat} {s : List Int}
def setBk (B0 B1 B2 : Nat) : Bk := ⟨34, #[.pointer (some ⟨B2, 0, none⟩), .pointer (some ⟨B0, 0, none⟩), .pointer (some ⟨B1, 0, none⟩)]⟩
theorem enters_set (args : Array Value) (w : World) : (callFunc 34 args).run Try.prog w = .ok (.enter 34 args) w := enters_of Try.func34 (by kernel_rfl) rfl _ _
set_option maxRecDepth 100000 in
set_option maxHeartbeats 2000000 in
theorem setUndo (lg : Option Addr) (hn : n < s.length) (old : Int) : Undoes Try.prog (setBk B0 B1 B2) (star (boxA B2 [.int .i64 old]) (star (boxA B1 [.int .i64 (n : Int)]) (boxA B0 [.pointer (some ⟨p, 0, none⟩)]))) (objA (ListO lg) p s) (objA (ListO lg) p (s.set n old)) := by
  rintro F W ⟨F1, F2, ⟨G2, G1, ⟨b2, _, e2⟩, ⟨H1, H0, ⟨b1, _, e1⟩, ⟨b0, _, e0⟩, _, eh⟩, _, eg⟩, ⟨v, hv, hF⟩, d, e⟩
  have hb0 : Below W.heap.size W W.drew := (Below.refl _ _).drew
  have hv0 := hv.later hb0
  have hbx2 := b2.later hb0
  have hbx1 := b1.later hb0
  have hbx0 := b0.later hb0
  clear b2 b1 b0 hv hb0 eg e1 e0 e2 eh
  have hfin := Lib.hid (fun W' (h : PostS csI 3 1 [.pointer lg] W.drew p v (s.set n old) W') => (show PostA F (objA (ListO lg) p (s.set n old)) W W' from (show PostA F2 (objA (ListO lg) p (s.set n old)) W W' from h.drew.postO hF).wider (fun k x => (e k).2 (.inr x))))
  clear hF e d
  show Calls Try.prog 34 #[.pointer (some ⟨B2, 0, none⟩), .pointer (some ⟨B0, 0, none⟩), .pointer (some ⟨B1, 0, none⟩)] W _
  go_enter Try.func34, Try.ntmps34
  go_wp2_with fail
  refine wp_region_need (fun w' => (w'.cell? ⟨B0, 0, none⟩ = some (.pointer (some ⟨p, 0, none⟩)) ∧ B0 < w'.heap.size) ∧ (w'.cell? ⟨B1, 0, none⟩ = some (.int .i64 (n : Int)) ∧ B1 < w'.heap.size) ∧ (w'.cell? ⟨B2, 0, none⟩ = some (.int .i64 old) ∧ B2 < w'.heap.size) ∧ w'.cell? ⟨p, 1, none⟩ = some v ∧ p < w'.heap.size) [0, 1, 2, 3, 4, 5, 6] (by kernel_rfl) ?_
  generalize W.drew = W0 at *
  have hS0 : (W0.cell? ⟨B0, 0, none⟩ = some (.pointer (some ⟨p, 0, none⟩)) ∧ B0 < W0.heap.size) ∧ (W0.cell? ⟨B1, 0, none⟩ = some (.int .i64 (n : Int)) ∧ B1 < W0.heap.size) ∧ (W0.cell? ⟨B2, 0, none⟩ = some (.int .i64 old) ∧ B2 < W0.heap.size) ∧ W0.cell? ⟨p, 1, none⟩ = some v ∧ p < W0.heap.size := ⟨⟨hbx0.spot 0 _ rfl, hbx0.lt⟩, ⟨hbx1.spot 0 _ rfl, hbx1.lt⟩, ⟨hbx2.spot 0 _ rfl, hbx2.lt⟩, ListV.cell hv0, hv0.lp⟩
  obtain ⟨g, c, rfl, hcell, hfz, hg⟩ := csI_cell hv0.own hn
  have hidx := Lib.hid (fun w => run_idx_I g s.length c n hn w)
  have hO : Only (fun k => (Value.slice (some ⟨g, 0, none⟩) s.length c).ownBlock = some k) W0 (W0.setCell ⟨g, n, none⟩ (.int .i64 old)) := (Only.refl (fun k => (Value.slice (some ⟨g, 0, none⟩) s.length c).ownBlock = some k) W0).setCell (p := ⟨g, n, none⟩) (fun _ => rfl) _
  replace hfin := Lib.hid (hfin.out _ (hv0.written hO (setCell_one csIK rfl hv0.own hn)))
  clear hO hbx0 hbx1 hbx2 hv0
  generalize s[n] = y at *
  clear hn
  generalize s.length = m at *
  refine need_takeL (i := 0) (v := ?cv42) rfl rfl (by kernel_rfl) (by kernel_rfl) (by kernel_rfl) (fun _ _ _ h => h) (Or.inl ⟨by rfl, ?ch42⟩) hS0 ?cr42
  case ch42 => (intro w' hSw; (try dsimp only at hSw); go_simp; first | done | with_reducible rfl)
  try simp only [Act.put, List.setIfInBounds_toArray, List.set_cons_zero, List.set_cons_succ]
  refine need_takeL (i := 1) (v := ?cv45) rfl rfl (by kernel_rfl) (by kernel_rfl) (by kernel_rfl) (fun _ _ _ h => h) (Or.inl ⟨by rfl, ?ch45⟩) hS0 ?cr45
  case ch45 => (intro w' hSw; (try dsimp only at hSw); go_simp; first | done | with_reducible rfl)
  try simp only [Act.put, List.setIfInBounds_toArray, List.set_cons_zero, List.set_cons_succ]
  refine need_takeL (i := 2) (v := ?cv48) rfl rfl (by kernel_rfl) (by kernel_rfl) (by kernel_rfl) (fun _ _ _ h => h) (Or.inl ⟨by rfl, ?ch48⟩) hS0 ?cr48
  case ch48 => (intro w' hSw; (try dsimp only at hSw); go_simp; first | done | with_reducible rfl)
  try simp only [Act.put, List.setIfInBounds_toArray, List.set_cons_zero, List.set_cons_succ]
  refine need_takeL (i := 3) (v := ?cv51) rfl rfl (by kernel_rfl) (by kernel_rfl) (by kernel_rfl) (fun _ _ _ h => h) (Or.inl ⟨by rfl, ?ch51⟩) hS0 ?cr51
  case ch51 => (intro w' hSw; (try dsimp only at hSw); go_simp; first | done | with_reducible rfl)
  try simp only [Act.put, List.setIfInBounds_toArray, List.set_cons_zero, List.set_cons_succ]
  refine need_takeL (i := 4) (v := ?cv54) rfl rfl (by kernel_rfl) (by kernel_rfl) (by kernel_rfl) (fun _ _ _ h => h) (Or.inl ⟨by rfl, ?ch54⟩) hS0 ?cr54
  case ch54 => (intro w' hSw; (try dsimp only at hSw); go_simp; first | done | with_reducible rfl)
  try simp only [Act.put, List.setIfInBounds_toArray, List.set_cons_zero, List.set_cons_succ]
  refine need_takeL (i := 5) (v := ?cv57) rfl rfl (by kernel_rfl) (by kernel_rfl) (by kernel_rfl) (fun _ _ _ h => h) (Or.inl ⟨by rfl, ?ch57⟩) hS0 ?cr57
  case ch57 => (intro w' hSw; (try dsimp only at hSw); go_simp; first | done | with_reducible rfl)
  try simp only [Act.put, List.setIfInBounds_toArray, List.set_cons_zero, List.set_cons_succ]
  refine need_takeL (i := 6) rfl rfl (by kernel_rfl) (by kernel_rfl) (by kernel_rfl) (fun _ _ _ h => h) (yields_index rfl (.slice (some ⟨g, 0, none⟩) m c) (.int .i64 (n : Int)) _ rfl rfl (fun _ => hidx.out _)) hS0 ?_
  try simp only [Act.put, List.setIfInBounds_toArray, List.set_cons_zero, List.set_cons_succ]
  refine need_turnL (i := 7) rfl (by kernel_rfl) (by rfl) (fun K' hK' => ?_)
  go_simp
  refine hK' _ _ (spared (by kernel_rfl)) ?_
  clear hK' K'
  try simp only [Act.put]
  refine need_done (by kernel_rfl) ?_ _
  clear hS0 hcell hfz hg hidx
  generalize W0.setCell ⟨g, n, none⟩ (.int .i64 old) = W3 at *
  go_wp2
  go_end0
  exact ⟨rfl, hfin.out⟩
set_option maxRecDepth 100000 in
theorem uSet_out {lg : Option Addr} {v : Value} (h : ListV lg W p v s) (i : Int) (hi : hasU s i = false) (x : Int) : Calls Try.prog 20 #[.pointer (some ⟨p, 0, none⟩), .int .i64 i, .int .i64 x] W fun e W' => e = .returned (.bool false) ∧ Below W.heap.size W W' := by
  have hb : Below W.heap.size W ((W.alloc (.cells [Value.pointer (some ⟨p, 0, none⟩)].toArray 28)).alloc (.cells [Value.int .i64 i].toArray 3)) := ((Below.refl _ _).alloc (Nat.le_refl _) _).alloc (by simp) _
  have hh := uHas_any (h.later hb) i
  rw [hi] at hh
  replace hh := Lib.hid hh
  clear h hi
  go_enter Try.func20, Try.ntmps20
  go_wp2_with fail
  refine hh.out.mono ?_
  rintro e w1 ⟨rfl, rfl⟩
  replace hb := Lib.hid hb
  clear hh
  go_wp2
  go_ret
  exact ⟨rfl, hb.out⟩
set_option maxRecDepth 100000 in
theorem uSet_nil (i x : Int) (W : World) : Calls Try.prog 20 #[.pointer none, .int .i64 i, .int .i64 x] W fun e W' => e = .returned (.bool false) ∧ Below W.heap.size W W' := by
  have hb : Below W.heap.size W ((W.alloc (.cells [Value.pointer none].toArray 28)).alloc (.cells [Value.int .i64 i].toArray 3)) := ((Below.refl _ _).alloc (Nat.le_refl _) _).alloc (by simp) _
  have hh := Lib.hid (uHas_nil i ((W.alloc (.cells [Value.pointer none].toArray 28)).alloc (.cells [Value.int .i64 i].toArray 3)))
  go_enter Try.func20, Try.ntmps20
  go_wp2_with fail
  refine hh.out.mono ?_
  rintro e w1 ⟨rfl, rfl⟩
  replace hb := Lib.hid hb
  clear hh
  go_wp2
  go_ret
  exact ⟨rfl, hb.out⟩
set_option maxRecDepth 100000 in
set_option maxHeartbeats 2000000 in
theorem uSet_held {T : Nat → Nat → Nat → Asr} (L : IsAsr R) (lg : Option Addr) (h : Held w W (star (objA (ListO lg) p s) R)) (hn : n < s.length) (x : Int)
    (hk : ∀ wx B0 B1 B2, Held w wx (star (boxA B2 [.int .i64 s[n]]) (star (boxA B1 [.int .i64 (n : Int)]) (star (boxA B0 [.pointer (some ⟨p, 0, none⟩)]) (star (objA (ListO lg) p (s.set n x)) R)))) →
      Calls Try.prog 31 #[.pointer lg, (setBk B0 B1 B2).val] wx fun e w2 => e = .returned (.tuple #[]) ∧ Held w w2 (T B0 B1 B2)) :
    Calls Try.prog 20 #[.pointer (some ⟨p, 0, none⟩), .int .i64 (n : Int), .int .i64 x] W fun e w2 => e = .returned (.bool true) ∧ ∃ B0 B1 B2, Held w w2 (T B0 B1 B2) := by
  have hT1 := (h.box ((isAsr_list _ _ _).star L) [.pointer (some ⟨p, 0, none⟩)] 28).box ((isAsr_box _ _).star ((isAsr_list _ _ _).star L)) [.int .i64 (n : Int)] 3
  rw [World.size_alloc] at hT1
  replace hT1 := Lib.hid hT1
  go_enter Try.func20, Try.ntmps20
  go_upto_region 1 with (fail)
  replace hT1 := hT1.out
  generalize (W.alloc (.cells [Value.pointer (some ⟨p, 0, none⟩)].toArray 28)).alloc (.cells [Value.int .i64 (n : Int)].toArray 3) = W1 at *
  clear h
  generalize W.heap.size + 1 = B1 at *
  generalize W.heap.size = B0 at *
  obtain ⟨F0, v, hv, -⟩ := hT1.pull3.head
  have hh := uHas_any hv (n : Int)
  have hi : hasU s (n : Int) = true := decide_eq_true ⟨by omega, by omega⟩
  rw [hi] at hh
  replace hh := Lib.hid hh
  obtain ⟨⟨b1, -, -⟩, ⟨b0, -, -⟩⟩ := And.intro hT1.boxAt hT1.pull.boxAt
  have c0 := b0.spot 0 _ rfl
  have l0 := b0.lt
  have c1 := b1.spot 0 _ rfl
  have l1 := b1.lt
  go_upto_region 3 with (go_at_call 26; refine hh.out.mono ?_; rintro e w1 ⟨rfl, rfl⟩)
  clear hh hi c0 l0 c1 l1
  obtain ⟨g, c, rfl, hcell, hfz, hg⟩ := csI_cell hv.own hn
  have hidx := Lib.hid (fun w => run_idx_I g s.length c n hn w)
  have hset := Lib.hid (fun (W3 : World) (v3 : ListV lg W3 p (.slice (some ⟨g, 0, none⟩) s.length c) s) => (show PostS csI 3 1 [.pointer lg] W3 p (.slice (some ⟨g, 0, none⟩) s.length c) (s.set n x) (W3.setCell ⟨g, n, none⟩ (.int .i64 x)) from
    v3.written ((Only.refl (fun k => (Value.slice (some ⟨g, 0, none⟩) s.length c).ownBlock = some k) W3).setCell (p := ⟨g, n, none⟩) (fun _ => rfl) _) (setCell_one csIK rfl v3.own hn)))
  replace hk := Lib.hid hk
  generalize hold : s[n] = old at *
  have hS := Lib.hid (fun w' (hb : Below W1.heap.size W1 w') => show (w'.cell? ⟨B0, 0, none⟩ = some (.pointer (some ⟨p, 0, none⟩)) ∧ B0 < w'.heap.size) ∧ (w'.cell? ⟨B1, 0, none⟩ = some (.int .i64 (n : Int)) ∧ B1 < w'.heap.size) ∧ (w'.cell? ⟨p, 1, none⟩ = some (.slice (some ⟨g, 0, none⟩) s.length c) ∧ p < w'.heap.size) ∧ w'.cell? ⟨g, n, none⟩ = some (.int .i64 old) ∧ g < w'.heap.size from
    ⟨⟨(b0.later hb).spot 0 _ rfl, (b0.later hb).lt⟩, ⟨(b1.later hb).spot 0 _ rfl, (b1.later hb).lt⟩, ⟨ListV.cell (hv.later hb), (hv.later hb).lp⟩, (hb.cell (p := ⟨g, n, none⟩) hg).trans hcell, Nat.lt_of_lt_of_le hg hb.size⟩)
  have hbd : Below W1.heap.size W1 W1.drew := (Below.refl _ _).drew
  have hba : Below W1.heap.size W1 (W1.drew.alloc (.cells #[.int .i64 0] 3)) := (Below.refl _ _).drew.alloc (Nat.le_refl _) _
  have hbb : Below W1.heap.size W1 (W1.alloc (.cells [Value.int .i64 old].toArray 3)).drew := ((Below.refl _ _).alloc (Nat.le_refl _) _).drew
  have hT2 := (hT1.box ((isAsr_box _ _).star ((isAsr_box _ _).star ((isAsr_list _ _ _).star L))) [.int .i64 old] 3).later ((isAsr_box _ _).star ((isAsr_box _ _).star ((isAsr_box _ _).star ((isAsr_list _ _ _).star L)))) (Below.refl _ _).drew
  have hv2 := hv.later hbb
  have hS0 := hS.out _ hbd
  have hS1 := hS.out _ hba
  have hS2 := hS.out _ hbb.drew
  have hfz2 := ((Only.of_below (F := fun _ => False) hbb.drew).frozen (p := ⟨g, n, none⟩) hg (fun e => e)).trans hfz
  replace hT2 := Lib.hid hT2
  clear hv hT1 b0 b1 hbd hba hbb hS F0 hcell
  refine wp_region_need (fun w' => (w'.cell? ⟨B0, 0, none⟩ = some (.pointer (some ⟨p, 0, none⟩)) ∧ B0 < w'.heap.size) ∧ (w'.cell? ⟨B1, 0, none⟩ = some (.int .i64 (n : Int)) ∧ B1 < w'.heap.size) ∧ (w'.cell? ⟨p, 1, none⟩ = some (.slice (some ⟨g, 0, none⟩) s.length c) ∧ p < w'.heap.size) ∧ w'.cell? ⟨g, n, none⟩ = some (.int .i64 old) ∧ g < w'.heap.size) [0, 1, 2, 3, 4, 5, 6] (by kernel_rfl) ?_
  refine need_takeL (i := 0) (v := ?cv150) rfl rfl (by kernel_rfl) (by kernel_rfl) (by kernel_rfl) (fun _ _ _ h => h) (Or.inl ⟨by rfl, ?ch150⟩) hS0 ?cr150
  case ch150 => (intro w' hSw; (try dsimp only at hSw); go_simp; first | done | with_reducible rfl)
  try simp only [Act.put, List.setIfInBounds_toArray, List.set_cons_zero, List.set_cons_succ]
  refine need_takeL (i := 1) (v := ?cv153) rfl rfl (by kernel_rfl) (by kernel_rfl) (by kernel_rfl) (fun _ _ _ h => h) (Or.inl ⟨by rfl, ?ch153⟩) hS0 ?cr153
  case ch153 => (intro w' hSw; (try dsimp only at hSw); go_simp; first | done | with_reducible rfl)
  try simp only [Act.put, List.setIfInBounds_toArray, List.set_cons_zero, List.set_cons_succ]
  refine need_takeL (i := 2) (v := ?cv156) rfl rfl (by kernel_rfl) (by kernel_rfl) (by kernel_rfl) (fun _ _ _ h => h) (Or.inl ⟨by rfl, ?ch156⟩) hS0 ?cr156
  case ch156 => (intro w' hSw; (try dsimp only at hSw); go_simp; first | done | with_reducible rfl)
  try simp only [Act.put, List.setIfInBounds_toArray, List.set_cons_zero, List.set_cons_succ]
  refine need_takeL (i := 3) (v := ?cv159) rfl rfl (by kernel_rfl) (by kernel_rfl) (by kernel_rfl) (fun _ _ _ h => h) (Or.inl ⟨by rfl, ?ch159⟩) hS0 ?cr159
  case ch159 => (intro w' hSw; (try dsimp only at hSw); go_simp; first | done | with_reducible rfl)
  try simp only [Act.put, List.setIfInBounds_toArray, List.set_cons_zero, List.set_cons_succ]
  refine need_takeL (i := 4) (v := ?cv162) rfl rfl (by kernel_rfl) (by kernel_rfl) (by kernel_rfl) (fun _ _ _ h => h) (Or.inl ⟨by rfl, ?ch162⟩) hS0 ?cr162
  case ch162 => (intro w' hSw; (try dsimp only at hSw); go_simp; first | done | with_reducible rfl)
  try simp only [Act.put, List.setIfInBounds_toArray, List.set_cons_zero, List.set_cons_succ]
  refine need_takeL (i := 5) rfl rfl (by kernel_rfl) (by kernel_rfl) (by kernel_rfl) (fun _ _ _ h => h) (yields_index rfl (.slice (some ⟨g, 0, none⟩) s.length c) (.int .i64 (n : Int)) _ rfl rfl (fun _ => hidx.out _)) hS0 ?_
  try simp only [Act.put, List.setIfInBounds_toArray, List.set_cons_zero, List.set_cons_succ]
  refine need_takeL (i := 6) (v := ?cv167) rfl rfl (by kernel_rfl) (by kernel_rfl) (by kernel_rfl) (fun _ _ _ h => h) (Or.inl ⟨by rfl, ?ch167⟩) hS0 ?cr167
  case ch167 => (intro w' hSw; (try dsimp only at hSw); go_simp; first | done | with_reducible rfl)
  try simp only [Act.put, List.setIfInBounds_toArray, List.set_cons_zero, List.set_cons_succ]
  refine need_turnL (i := 7) rfl (by kernel_rfl) (by rfl) (fun K' hK' => ?_)
  go_simp
  refine hK' _ _ (fun _ => hS1) ?_
  clear hK' K'
  try simp only [Act.put, List.setIfInBounds_toArray, List.set_cons_zero, List.set_cons_succ]
  refine need_turnL (i := 8) rfl (by kernel_rfl) (by rfl) (fun K' hK' => ?_)
  go_simp
  refine hK' _ _ (spared (by kernel_rfl)) ?_
  clear hK' K'
  try simp only [Act.put]
  refine need_done (by kernel_rfl) ?_ _
  clear hS0 hS1
  replace hT2 := Lib.hid (hT2.out.later ((isAsr_box _ _).star ((isAsr_box _ _).star ((isAsr_box _ _).star ((isAsr_list _ _ _).star L)))) (Below.refl _ _).drew)
  replace hv2 := Lib.hid (hv2.later (Below.refl _ _).drew)
  go_upto_region 4 with (fail)
  generalize hB2 : W1.heap.size = B2 at *
  clear hfz hg
  refine wp_region_need (fun w' => (w'.cell? ⟨B0, 0, none⟩ = some (.pointer (some ⟨p, 0, none⟩)) ∧ B0 < w'.heap.size) ∧ (w'.cell? ⟨B1, 0, none⟩ = some (.int .i64 (n : Int)) ∧ B1 < w'.heap.size) ∧ (w'.cell? ⟨p, 1, none⟩ = some (.slice (some ⟨g, 0, none⟩) s.length c) ∧ p < w'.heap.size) ∧ w'.cell? ⟨g, n, none⟩ = some (.int .i64 old) ∧ g < w'.heap.size) [0, 1, 2, 3, 4, 5, 6] (by kernel_rfl) ?_
  generalize ((W1.alloc (.cells [Value.int .i64 old].toArray 3)).drew).drew = W3 at *
  clear hB2
  refine need_takeL (i := 0) (v := ?cv190) rfl rfl (by kernel_rfl) (by kernel_rfl) (by kernel_rfl) (fun _ _ _ h => h) (Or.inl ⟨by rfl, ?ch190⟩) hS2 ?cr190
  case ch190 => (intro w' hSw; (try dsimp only at hSw); go_simp; first | done | with_reducible rfl)
  try simp only [Act.put, List.setIfInBounds_toArray, List.set_cons_zero, List.set_cons_succ]
  refine need_takeL (i := 1) (v := ?cv193) rfl rfl (by kernel_rfl) (by kernel_rfl) (by kernel_rfl) (fun _ _ _ h => h) (Or.inl ⟨by rfl, ?ch193⟩) hS2 ?cr193
  case ch193 => (intro w' hSw; (try dsimp only at hSw); go_simp; first | done | with_reducible rfl)
  try simp only [Act.put, List.setIfInBounds_toArray, List.set_cons_zero, List.set_cons_succ]
  refine need_takeL (i := 2) (v := ?cv196) rfl rfl (by kernel_rfl) (by kernel_rfl) (by kernel_rfl) (fun _ _ _ h => h) (Or.inl ⟨by rfl, ?ch196⟩) hS2 ?cr196
  case ch196 => (intro w' hSw; (try dsimp only at hSw); go_simp; first | done | with_reducible rfl)
  try simp only [Act.put, List.setIfInBounds_toArray, List.set_cons_zero, List.set_cons_succ]
  refine need_takeL (i := 3) (v := ?cv199) rfl rfl (by kernel_rfl) (by kernel_rfl) (by kernel_rfl) (fun _ _ _ h => h) (Or.inl ⟨by rfl, ?ch199⟩) hS2 ?cr199
  case ch199 => (intro w' hSw; (try dsimp only at hSw); go_simp; first | done | with_reducible rfl)
  try simp only [Act.put, List.setIfInBounds_toArray, List.set_cons_zero, List.set_cons_succ]
  refine need_takeL (i := 4) (v := ?cv202) rfl rfl (by kernel_rfl) (by kernel_rfl) (by kernel_rfl) (fun _ _ _ h => h) (Or.inl ⟨by rfl, ?ch202⟩) hS2 ?cr202
  case ch202 => (intro w' hSw; (try dsimp only at hSw); go_simp; first | done | with_reducible rfl)
  try simp only [Act.put, List.setIfInBounds_toArray, List.set_cons_zero, List.set_cons_succ]
  refine need_takeL (i := 5) (v := ?cv205) rfl rfl (by kernel_rfl) (by kernel_rfl) (by kernel_rfl) (fun _ _ _ h => h) (Or.inl ⟨by rfl, ?ch205⟩) hS2 ?cr205
  case ch205 => (intro w' hSw; (try dsimp only at hSw); go_simp; first | done | with_reducible rfl)
  try simp only [Act.put, List.setIfInBounds_toArray, List.set_cons_zero, List.set_cons_succ]
  refine need_takeL (i := 6) rfl rfl (by kernel_rfl) (by kernel_rfl) (by kernel_rfl) (fun _ _ _ h => h) (yields_index rfl (.slice (some ⟨g, 0, none⟩) s.length c) (.int .i64 (n : Int)) _ rfl rfl (fun _ => hidx.out _)) hS2 ?_
  try simp only [Act.put, List.setIfInBounds_toArray, List.set_cons_zero, List.set_cons_succ]
  have hT4 := SlV.step ((isAsr_box _ _).star ((isAsr_box _ _).star ((isAsr_box _ _).star L))) hT2.out.pull4 hv2.out (hset.out _ hv2.out)
  obtain ⟨-, -, -, hc3, hg3⟩ := hS2
  refine need_turnL (i := 7) rfl (by kernel_rfl) (by rfl) (fun K' hK' => ?_)
  go_simp
  refine hK' _ _ (spared (by kernel_rfl)) ?_
  clear hK' K'
  try simp only [Act.put]
  refine need_done (by kernel_rfl) ?_ _
  clear hc3 hg3 hfz2 hT2 hv2 hset hidx
  generalize W3.setCell ⟨g, n, none⟩ (.int .i64 x) = W4 at *
  obtain ⟨F5, v5, hv5, -⟩ := hT4.head
  have c0 := hT4.pull4.boxAt.1.spot 0 _ rfl
  have l0 := hT4.pull4.boxAt.1.lt
  have c1 := ListV.log hv5
  have lp := hv5.lp
  have hk2 := hk.out W4 B0 B1 B2 hT4.push4
  replace hk2 := Lib.hid hk2
  have hmf : ∀ (fn : Fn) (first cap : Array Value) (w : World), (Instr.makeFunc fn first cap).run Try.prog w = .ok (.func fn first cap) w := fun _ _ _ _ => rfl
  clear hk hT4 hv5
  go_wp2_with fail
  refine hk2.out.mono ?_
  rintro e w6 ⟨rfl, hT7⟩
  replace hT7 := Lib.hid hT7
  clear hk2 c0 l0 c1 lp hmf
  go_wp2
  go_ret
  exact ⟨rfl, B0, B1, B2, hT7.out⟩
end
end Go.Proofs.Ytkahohgbcnchiaa
