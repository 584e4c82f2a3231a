/- Stage 11: a call on both tables. No condition but the landed package's. -/
import Derived.Test.YtpopbdladlahjaaRf
namespace Go.Proofs.Ytpopbdladlahjaa
open Go.RowKit Go.Sort Wm
attribute [local go_sem high] run_eql_num run_neq_num

def pcallV (c : Pcall) : Value := .agg c.cells.toArray
theorem pcallV_eq (c : Pcall) : pcallV c = .agg #[.int .i64 c.Kind, .int .u64 ((hiN c.Key : Nat) : Int), .int .u64 ((loN c.Key : Nat) : Int), .int .i64 c.At] := rfl
section
variable {Tb : Kind Tbl}
set_option maxRecDepth 100000 in
set_option maxHeartbeats 2000000 in
theorem does_put (K : LandedTb Tb) {w wr : World} {p q : Nat} {m : Tbl} (h : On2 Tb TbRef w wr p m q m) (hlen : m.length ≤ 1000) (c : Pcall) (hc : c.Wf) (h0 : c.Kind = 0) :
    Calls Try.prog 8 #[.pointer (some ⟨p, 0, none⟩), .pointer (some ⟨q, 0, none⟩), pcallV c] wr fun e w' => e = .returned (.bool true) ∧ On2 Tb TbRef w w' p (callT m c) q (callT m c) := by
  have hT := On2x.start K.toIsKind tbRef_kind h c.cells 35
  have k1 := Lib.hid (fun W (h : On2x Tb TbRef w W p m q m wr.heap.size c.cells) => h.left tbRef_kind (fun F hF => K.put F W p m c.Key c.At hF hc.Key hlen hc.At.1 hc.At.2))
  have k2 := Lib.hid (fun W (h : On2x Tb TbRef w W p (putT m c.Key c.At) q m wr.heap.size c.cells) => h.right K.toIsKind (fun G hG => refput_any hG hlen c.Key c.At))
  have hm : callT m c = putT m c.Key c.At := by unfold callT; rw [if_pos h0]
  rw [hm]
  generalize putT m c.Key c.At = m2 at *
  have h0b : (c.Kind == 0) = true := by rw [h0]; rfl
  rw [pcallV_eq]
  generalize (getT m c.Key).isSome = b at *
  have c1 := hT.box.spot 0 _ rfl
  have c2 := hT.box.lt
  have hlat := Lib.hid (fun W W2 (h : On2x Tb TbRef w W p m q m wr.heap.size c.cells) (hb : Below W.heap.size W W2) => h.later K.toIsKind tbRef_kind hb)
  have hs := Lib.hid (fun W m1 m2 (h : On2x Tb TbRef w W p m1 q m2 wr.heap.size c.cells) => (show W.cell? ⟨wr.heap.size, 1, none⟩ = some (.int .u64 ((hiN c.Key : Nat) : Int)) ∧ W.cell? ⟨wr.heap.size, 2, none⟩ = some (.int .u64 ((loN c.Key : Nat) : Int)) ∧ W.cell? ⟨wr.heap.size, 3, none⟩ = some (.int .i64 c.At) ∧ wr.heap.size < W.heap.size from ⟨h.box.spot 1 _ rfl, h.box.spot 2 _ rfl, h.box.spot 3 _ rfl, h.box.lt⟩))
  unfold numV at k1 k2
  clear h hlen hc h0 hm
  go_enter Try.func8, Try.ntmps8
  go_wp2_with fail
  refine wp_region_need (fun w' => w'.cell? ⟨wr.heap.size, 1, none⟩ = some (.int .u64 ((hiN c.Key : Nat) : Int)) ∧ w'.cell? ⟨wr.heap.size, 2, none⟩ = some (.int .u64 ((loN c.Key : Nat) : Int)) ∧ w'.cell? ⟨wr.heap.size, 3, none⟩ = some (.int .i64 c.At) ∧ wr.heap.size < w'.heap.size) [0, 1, 2, 3, 4, 6, 7, 8, 9, 10] (by kernel_rfl) ?_
  have hT1 := hlat.out _ _ hT ((Below.refl _ _).drew)
  have hS0 := hs.out _ _ _ hT1
  refine need_takeL (i := 0) (v := ?cv34) rfl rfl (by kernel_rfl) (by kernel_rfl) (by kernel_rfl) (fun _ _ _ h => h) (Or.inl ⟨by rfl, ?ch34⟩) hS0 ?cr34
  case ch34 => (intro w' hSw; (try dsimp only at hSw); go_simp; first | done | with_reducible rfl)
  try simp only [Act.put, List.setIfInBounds_toArray, List.set_cons_zero, List.set_cons_succ]
  refine need_takeL (i := 1) (v := ?cv37) rfl rfl (by kernel_rfl) (by kernel_rfl) (by kernel_rfl) (fun _ _ _ h => h) (Or.inl ⟨by rfl, ?ch37⟩) hS0 ?cr37
  case ch37 => (intro w' hSw; (try dsimp only at hSw); go_simp; first | done | with_reducible rfl)
  try simp only [Act.put, List.setIfInBounds_toArray, List.set_cons_zero, List.set_cons_succ]
  refine need_takeL (i := 2) (v := ?cv40) rfl rfl (by kernel_rfl) (by kernel_rfl) (by kernel_rfl) (fun _ _ _ h => h) (Or.inl ⟨by rfl, ?ch40⟩) hS0 ?cr40
  case ch40 => (intro w' hSw; (try dsimp only at hSw); go_simp; first | done | with_reducible rfl)
  try simp only [Act.put, List.setIfInBounds_toArray, List.set_cons_zero, List.set_cons_succ]
  refine need_takeL (i := 3) (v := ?cv43) rfl rfl (by kernel_rfl) (by kernel_rfl) (by kernel_rfl) (fun _ _ _ h => h) (Or.inl ⟨by rfl, ?ch43⟩) hS0 ?cr43
  case ch43 => (intro w' hSw; (try dsimp only at hSw); go_simp; first | done | with_reducible rfl)
  try simp only [Act.put, List.setIfInBounds_toArray, List.set_cons_zero, List.set_cons_succ]
  refine need_takeL (i := 4) (v := ?cv46) rfl rfl (by kernel_rfl) (by kernel_rfl) (by kernel_rfl) (fun _ _ _ h => h) (Or.inl ⟨by rfl, ?ch46⟩) hS0 ?cr46
  case ch46 => (intro w' hSw; (try dsimp only at hSw); go_simp; first | done | with_reducible rfl)
  try simp only [Act.put, List.setIfInBounds_toArray, List.set_cons_zero, List.set_cons_succ]
  refine need_takeL (i := 6) (v := ?cv49) rfl rfl (by kernel_rfl) (by kernel_rfl) (by kernel_rfl) (fun _ _ _ h => h) (Or.inl ⟨by rfl, ?ch49⟩) hS0 ?cr49
  case ch49 => (intro w' hSw; (try dsimp only at hSw); go_simp; first | done | with_reducible rfl)
  try simp only [Act.put, List.setIfInBounds_toArray, List.set_cons_zero, List.set_cons_succ]
  refine need_takeL (i := 7) (v := ?cv52) rfl rfl (by kernel_rfl) (by kernel_rfl) (by kernel_rfl) (fun _ _ _ h => h) (Or.inl ⟨by rfl, ?ch52⟩) hS0 ?cr52
  case ch52 => (intro w' hSw; (try dsimp only at hSw); go_simp; first | done | with_reducible rfl)
  try simp only [Act.put, List.setIfInBounds_toArray, List.set_cons_zero, List.set_cons_succ]
  refine need_takeL (i := 8) (v := ?cv55) rfl rfl (by kernel_rfl) (by kernel_rfl) (by kernel_rfl) (fun _ _ _ h => h) (Or.inl ⟨by rfl, ?ch55⟩) hS0 ?cr55
  case ch55 => (intro w' hSw; (try dsimp only at hSw); go_simp; first | done | with_reducible rfl)
  try simp only [Act.put, List.setIfInBounds_toArray, List.set_cons_zero, List.set_cons_succ]
  refine need_takeL (i := 9) (v := ?cv58) rfl rfl (by kernel_rfl) (by kernel_rfl) (by kernel_rfl) (fun _ _ _ h => h) (Or.inl ⟨by rfl, ?ch58⟩) hS0 ?cr58
  case ch58 => (intro w' hSw; (try dsimp only at hSw); go_simp; first | done | with_reducible rfl)
  try simp only [Act.put, List.setIfInBounds_toArray, List.set_cons_zero, List.set_cons_succ]
  refine need_takeL (i := 10) (v := ?cv61) rfl rfl (by kernel_rfl) (by kernel_rfl) (by kernel_rfl) (fun _ _ _ h => h) (Or.inl ⟨by rfl, ?ch61⟩) hS0 ?cr61
  case ch61 => (intro w' hSw; (try dsimp only at hSw); go_simp; first | done | with_reducible rfl)
  try simp only [Act.put, List.setIfInBounds_toArray, List.set_cons_zero, List.set_cons_succ]
  refine need_turnL (i := 5) rfl (by kernel_rfl) (by rfl) (fun K' hK' => ?_)
  go_simp
  refine (k1.out _ hT1).mono ?_
  rintro e w2 ⟨rfl, hT2⟩
  refine hK' _ _ (fun _ => hs.out _ _ _ hT2) ?_
  clear hK' K'
  try simp only [Act.put, List.setIfInBounds_toArray, List.set_cons_zero, List.set_cons_succ]
  refine need_turnL (i := 11) rfl (by kernel_rfl) (by rfl) (fun K' hK' => ?_)
  go_simp
  refine (k2.out _ hT2).mono ?_
  rintro e w3 ⟨rfl, hT3⟩
  refine hK' _ _ (fun _ => hs.out _ _ _ hT3) ?_
  clear hK' K'
  try simp only [Act.put, List.setIfInBounds_toArray, List.set_cons_zero, List.set_cons_succ]
  refine need_turnL (i := 12) rfl (by kernel_rfl) (by rfl) (fun K' hK' => ?_)
  go_simp
  refine hK' _ _ (fun _ => hs.out _ _ _ hT3) ?_
  clear hK' K'
  try simp only [Act.put, List.setIfInBounds_toArray, List.set_cons_zero, List.set_cons_succ]
  refine need_turnL (i := 13) rfl (by kernel_rfl) (by rfl) (fun K' hK' => ?_)
  go_simp
  refine hK' _ _ (fun h => spared (by kernel_rfl) h) ?_
  clear hK' K'
  try simp only [Act.put, List.setIfInBounds_toArray, List.set_cons_zero, List.set_cons_succ]
  refine need_done (by kernel_rfl) ?_ _
  clear hS0 k1 k2 hT hT1 hT2 hs hlat c1 c2
  go_wp2
  go_ret
  exact ⟨rfl, hT3.on2⟩
set_option maxRecDepth 100000 in
set_option maxHeartbeats 2000000 in
theorem does_drop (K : LandedTb Tb) {w wr : World} {p q : Nat} {m : Tbl} (h : On2 Tb TbRef w wr p m q m) (hlen : m.length ≤ 1000) (c : Pcall) (hc : c.Wf) (h0 : c.Kind = 1) :
    Calls Try.prog 8 #[.pointer (some ⟨p, 0, none⟩), .pointer (some ⟨q, 0, none⟩), pcallV c] wr fun e w' => e = .returned (.bool true) ∧ On2 Tb TbRef w w' p (callT m c) q (callT m c) := by
  have hT := On2x.start K.toIsKind tbRef_kind h c.cells 35
  have k1 := Lib.hid (fun W (h : On2x Tb TbRef w W p m q m wr.heap.size c.cells) => h.left tbRef_kind (fun F hF => K.drop F W p m c.Key hF hc.Key))
  have k2 := Lib.hid (fun W (h : On2x Tb TbRef w W p (dropT m c.Key) q m wr.heap.size c.cells) => h.right K.toIsKind (fun G hG => refdrop_any hG hlen c.Key))
  have hm : callT m c = dropT m c.Key := by unfold callT; rw [if_neg (by omega), if_pos h0]
  rw [hm]
  generalize dropT m c.Key = m2 at *
  have h0b : (c.Kind == 0) = false := by rw [h0]; rfl
  have h1b : (c.Kind == 1) = true := by rw [h0]; rfl
  rw [pcallV_eq]
  generalize (getT m c.Key).isSome = b at *
  have c1 := hT.box.spot 0 _ rfl
  have c2 := hT.box.lt
  have hlat := Lib.hid (fun W W2 (h : On2x Tb TbRef w W p m q m wr.heap.size c.cells) (hb : Below W.heap.size W W2) => h.later K.toIsKind tbRef_kind hb)
  have hs := Lib.hid (fun W m1 m2 (h : On2x Tb TbRef w W p m1 q m2 wr.heap.size c.cells) => (show W.cell? ⟨wr.heap.size, 1, none⟩ = some (.int .u64 ((hiN c.Key : Nat) : Int)) ∧ W.cell? ⟨wr.heap.size, 2, none⟩ = some (.int .u64 ((loN c.Key : Nat) : Int)) ∧ W.cell? ⟨wr.heap.size, 3, none⟩ = some (.int .i64 c.At) ∧ wr.heap.size < W.heap.size from ⟨h.box.spot 1 _ rfl, h.box.spot 2 _ rfl, h.box.spot 3 _ rfl, h.box.lt⟩))
  unfold numV at k1 k2
  clear h hlen hc h0 hm
  go_enter Try.func8, Try.ntmps8
  go_wp2_with fail
  refine wp_region_need (fun w' => w'.cell? ⟨wr.heap.size, 1, none⟩ = some (.int .u64 ((hiN c.Key : Nat) : Int)) ∧ w'.cell? ⟨wr.heap.size, 2, none⟩ = some (.int .u64 ((loN c.Key : Nat) : Int)) ∧ w'.cell? ⟨wr.heap.size, 3, none⟩ = some (.int .i64 c.At) ∧ wr.heap.size < w'.heap.size) [0, 1, 2, 4, 5, 6] (by kernel_rfl) ?_
  have hT1 := hlat.out _ _ hT ((Below.refl _ _).drew)
  have hS0 := hs.out _ _ _ hT1
  refine need_takeL (i := 0) (v := ?cv118) rfl rfl (by kernel_rfl) (by kernel_rfl) (by kernel_rfl) (fun _ _ _ h => h) (Or.inl ⟨by rfl, ?ch118⟩) hS0 ?cr118
  case ch118 => (intro w' hSw; (try dsimp only at hSw); go_simp; first | done | with_reducible rfl)
  try simp only [Act.put, List.setIfInBounds_toArray, List.set_cons_zero, List.set_cons_succ]
  refine need_takeL (i := 1) (v := ?cv121) rfl rfl (by kernel_rfl) (by kernel_rfl) (by kernel_rfl) (fun _ _ _ h => h) (Or.inl ⟨by rfl, ?ch121⟩) hS0 ?cr121
  case ch121 => (intro w' hSw; (try dsimp only at hSw); go_simp; first | done | with_reducible rfl)
  try simp only [Act.put, List.setIfInBounds_toArray, List.set_cons_zero, List.set_cons_succ]
  refine need_takeL (i := 2) (v := ?cv124) rfl rfl (by kernel_rfl) (by kernel_rfl) (by kernel_rfl) (fun _ _ _ h => h) (Or.inl ⟨by rfl, ?ch124⟩) hS0 ?cr124
  case ch124 => (intro w' hSw; (try dsimp only at hSw); go_simp; first | done | with_reducible rfl)
  try simp only [Act.put, List.setIfInBounds_toArray, List.set_cons_zero, List.set_cons_succ]
  refine need_takeL (i := 4) (v := ?cv127) rfl rfl (by kernel_rfl) (by kernel_rfl) (by kernel_rfl) (fun _ _ _ h => h) (Or.inl ⟨by rfl, ?ch127⟩) hS0 ?cr127
  case ch127 => (intro w' hSw; (try dsimp only at hSw); go_simp; first | done | with_reducible rfl)
  try simp only [Act.put, List.setIfInBounds_toArray, List.set_cons_zero, List.set_cons_succ]
  refine need_takeL (i := 5) (v := ?cv130) rfl rfl (by kernel_rfl) (by kernel_rfl) (by kernel_rfl) (fun _ _ _ h => h) (Or.inl ⟨by rfl, ?ch130⟩) hS0 ?cr130
  case ch130 => (intro w' hSw; (try dsimp only at hSw); go_simp; first | done | with_reducible rfl)
  try simp only [Act.put, List.setIfInBounds_toArray, List.set_cons_zero, List.set_cons_succ]
  refine need_takeL (i := 6) (v := ?cv133) rfl rfl (by kernel_rfl) (by kernel_rfl) (by kernel_rfl) (fun _ _ _ h => h) (Or.inl ⟨by rfl, ?ch133⟩) hS0 ?cr133
  case ch133 => (intro w' hSw; (try dsimp only at hSw); go_simp; first | done | with_reducible rfl)
  try simp only [Act.put, List.setIfInBounds_toArray, List.set_cons_zero, List.set_cons_succ]
  refine need_turnL (i := 3) rfl (by kernel_rfl) (by rfl) (fun K' hK' => ?_)
  go_simp
  refine (k1.out _ hT1).mono ?_
  rintro e w2 ⟨rfl, hT2⟩
  refine hK' _ _ (fun _ => hs.out _ _ _ hT2) ?_
  clear hK' K'
  try simp only [Act.put, List.setIfInBounds_toArray, List.set_cons_zero, List.set_cons_succ]
  refine need_turnL (i := 7) rfl (by kernel_rfl) (by rfl) (fun K' hK' => ?_)
  go_simp
  refine (k2.out _ hT2).mono ?_
  rintro e w3 ⟨rfl, hT3⟩
  refine hK' _ _ (fun _ => hs.out _ _ _ hT3) ?_
  clear hK' K'
  try simp only [Act.put, List.setIfInBounds_toArray, List.set_cons_zero, List.set_cons_succ]
  refine need_turnL (i := 8) rfl (by kernel_rfl) (by rfl) (fun K' hK' => ?_)
  go_simp
  refine hK' _ _ (fun _ => hs.out _ _ _ hT3) ?_
  clear hK' K'
  try simp only [Act.put, List.setIfInBounds_toArray, List.set_cons_zero, List.set_cons_succ]
  refine need_turnL (i := 9) rfl (by kernel_rfl) (by rfl) (fun K' hK' => ?_)
  go_simp
  refine hK' _ _ (fun h => spared (by kernel_rfl) h) ?_
  clear hK' K'
  try simp only [Act.put, List.setIfInBounds_toArray, List.set_cons_zero, List.set_cons_succ]
  refine need_done (by kernel_rfl) ?_ _
  clear hS0 k1 k2 hT hT1 hT2 hs hlat c1 c2
  go_wp2
  go_ret
  exact ⟨rfl, hT3.on2⟩
set_option maxRecDepth 100000 in
set_option maxHeartbeats 2000000 in
theorem does_get (K : LandedTb Tb) {w wr : World} {p q : Nat} {m : Tbl} (h : On2 Tb TbRef w wr p m q m) (hlen : m.length ≤ 1000) (c : Pcall) (hc : c.Wf) (h0 : ¬ c.Kind = 0) (h1 : ¬ c.Kind = 1) :
    Calls Try.prog 8 #[.pointer (some ⟨p, 0, none⟩), .pointer (some ⟨q, 0, none⟩), pcallV c] wr fun e w' => e = .returned (.bool true) ∧ On2 Tb TbRef w w' p (callT m c) q (callT m c) := by
  have hT := On2x.start K.toIsKind tbRef_kind h c.cells 35
  have k1 := Lib.hid (fun W (h : On2x Tb TbRef w W p m q m wr.heap.size c.cells) => h.ask K.toIsKind tbRef_kind (fun F G hF _ => K.get F W p m c.Key hF hc.Key))
  have k2 := Lib.hid (fun W (h : On2x Tb TbRef w W p m q m wr.heap.size c.cells) => h.ask K.toIsKind tbRef_kind (S := fun e => e = .returned (.int .i64 (idxT m c.Key))) (fun F G _ hG => by obtain ⟨vk, va, hV, _⟩ := hG; exact refat_any hV hlen c.Key))
  have hm : callT m c = m := by unfold callT; rw [if_neg h0, if_neg h1]
  rw [hm]
  have h0b : (c.Kind == 0) = false := by simpa using h0
  have h1b : (c.Kind == 1) = false := by simpa using h1
  rw [pcallV_eq]
  have hs := Lib.hid (fun W (h : On2x Tb TbRef w W p m q m wr.heap.size c.cells) => (show W.cell? ⟨wr.heap.size, 0, none⟩ = some (.int .i64 c.Kind) ∧ W.cell? ⟨wr.heap.size, 1, none⟩ = some (.int .u64 ((hiN c.Key : Nat) : Int)) ∧ W.cell? ⟨wr.heap.size, 2, none⟩ = some (.int .u64 ((loN c.Key : Nat) : Int)) ∧ wr.heap.size < W.heap.size from ⟨h.box.spot 0 _ rfl, h.box.spot 1 _ rfl, h.box.spot 2 _ rfl, h.box.lt⟩))
  have hgs := getT_isSome m c.Key
  have hgp := posT_get m c.Key
  unfold numV at k1 k2
  by_cases hp : posT m c.Key < m.length
  · have hi : idxT m c.Key = ((posT m c.Key : Nat) : Int) := by unfold idxT; rw [if_pos hp]
    rw [hi] at k2
    rw [hgs, decide_eq_true hp] at k1
    have hx := Lib.hid (fun W (h : On2x Tb TbRef w W p m q m wr.heap.size c.cells) => show ∃ g cap, W.cell? ⟨q, 1, none⟩ = some (.slice (some ⟨g, 0, none⟩) m.length cap) ∧ q < W.heap.size ∧ W.cell? ⟨g, posT m c.Key, none⟩ = some (.int .i64 ((getT m c.Key).getD 0)) ∧ g < W.heap.size from by
      obtain ⟨⟨F, G, _, ⟨vk, va, hV, _⟩, _⟩, _, _⟩ := h
      have hl : (m.map Prod.snd).length = m.length := List.length_map ..
      rcases own_slice hV.o1 with ⟨-, hz⟩ | ⟨g, cap, rfl, hg, hcap, hcl, -⟩
      · omega
      · rw [hl] at hV
        refine ⟨g, cap, hV.c1, hV.lt, ?_, hg⟩
        refine hcl _ _ ?_
        rw [hgp]
        unfold rowZ
        rw [List.getElem?_map, List.getElem?_map, List.getElem?_eq_getElem hp]
        rfl)
    generalize (getT m c.Key).getD 0 = v at *
    generalize hil : posT m c.Key = i at *
    generalize hml : m.length = n at *
    have n1 : decide ((0 : Int) ≤ ((i : Nat) : Int)) = true := decide_eq_true (by omega)
    have n2 : decide (((i : Nat) : Int) < 0) = false := decide_eq_false (by omega)
    have n3 : ((i : Nat) : Int) < ((n : Nat) : Int) := by omega
    clear h hlen hc h0 h1 hm hgs hgp hi hil hml
    have hS := hs.out _ hT
    obtain ⟨z0, z1, z2, zl⟩ := id hS
    go_enter Try.func8, Try.ntmps8
    go_wp2_with fail
    refine (k1.out _ hT).mono ?_
    rintro e w2 ⟨rfl, hT2⟩
    clear z0 z1 z2 zl hS
    obtain ⟨z0, z1, z2, zl⟩ := hs.out _ hT2
    go_wp2_with fail
    refine (k2.out _ hT2).mono ?_
    rintro e w3 ⟨rfl, hT3⟩
    obtain ⟨g, cap, y0, yl, y1, yg⟩ := hx.out _ hT3
    clear z0 z1 z2 zl k1 k2 hs hx hT hT2
    go_wp2
    go_ret
    exact ⟨rfl, hT3.on2⟩
  · have hi : idxT m c.Key = -1 := by unfold idxT; rw [if_neg hp]
    rw [hi] at k2
    have hno : getT m c.Key = none := by
      rw [decide_eq_false hp] at hgs
      cases hq : getT m c.Key with
      | none => rfl
      | some x => rw [hq] at hgs; cases hgs
    rw [hno] at k1
    clear h hlen hc h0 h1 hm hgs hgp hi hno
    have hS := hs.out _ hT
    obtain ⟨z0, z1, z2, zl⟩ := id hS
    go_enter Try.func8, Try.ntmps8
    go_wp2_with fail
    refine (k1.out _ hT).mono ?_
    rintro e w2 ⟨rfl, hT2⟩
    clear z0 z1 z2 zl hS
    obtain ⟨z0, z1, z2, zl⟩ := hs.out _ hT2
    go_wp2_with fail
    refine (k2.out _ hT2).mono ?_
    rintro e w3 ⟨rfl, hT3⟩
    clear z0 z1 z2 zl k1 k2 hs hT hT2
    go_wp2
    go_ret
    exact ⟨rfl, hT3.on2⟩
theorem does_any (K : LandedTb Tb) {w wr : World} {p q : Nat} {m : Tbl} (h : On2 Tb TbRef w wr p m q m) (hlen : m.length ≤ 1000) (c : Pcall) (hc : c.Wf) :
    Calls Try.prog 8 #[.pointer (some ⟨p, 0, none⟩), .pointer (some ⟨q, 0, none⟩), pcallV c] wr fun e w' => e = .returned (.bool true) ∧ On2 Tb TbRef w w' p (callT m c) q (callT m c) := by
  by_cases h0 : c.Kind = 0
  · exact does_put K h hlen c hc h0
  · by_cases h1 : c.Kind = 1
    · exact does_drop K h hlen c hc h1
    · exact does_get K h hlen c hc h0 h1
end
end Go.Proofs.Ytpopbdladlahjaa
