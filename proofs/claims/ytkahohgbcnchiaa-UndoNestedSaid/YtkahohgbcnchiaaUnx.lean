/- Stage 14: UndoFree's walk. No condition. -/
import Derived.Test.YtkahohgbcnchiaaUnt
namespace Go.Proofs.Ytkahohgbcnchiaa
open Go.RowKit Wm

theorem Held.newRow {w wr w2 : World} {B : Asr} {v : Value} {s : List Int} (L : IsAsr B) (h : Held w wr B) (hn : NewRow wr w2 v s) : Held w w2 (star (rowA 3 1 v s.length (rowK csI s)) B) :=
  h.more L hn.2.2 ⟨fun k => v.ownBlock = some k, ⟨hn.1, fun _ => Iff.rfl⟩, hn.2.1⟩
/-- A list, and what it was, of a script of so many calls. -/
structure FreeU (n : Nat) (xs : List Int) (pst : List (List Int)) : Prop where
  len : pst.length ≤ n
  now : xs.length ≤ n
  first : (xs :: pst).drop pst.length = [[]]
theorem FreeU.push {n : Nat} {xs ys : List Int} {pst : List (List Int)} (h : FreeU n xs pst) (hy : ys.length ≤ n + 1) : FreeU (n + 1) ys (xs :: pst) := ⟨by have := h.len; simp; omega, hy, by rw [List.length_cons, List.drop_succ_cons]; exact h.first⟩
theorem FreeU.keep {n : Nat} {xs : List Int} {pst : List (List Int)} (h : FreeU n xs pst) : FreeU (n + 1) xs pst := ⟨Nat.le_succ_of_le h.len, Nat.le_succ_of_le h.now, h.first⟩
set_option maxRecDepth 100000 in
set_option maxHeartbeats 4000000 in
theorem undoFree_any (ao : Option Addr) (cap : Nat) (l : List Ucall) (hlen : l.length ≤ 140737488351232) (w : World) (hA : UcallsAt w ao l) :
    Calls Try.prog 5 #[.slice ao l.length cap] w fun e w' => e = .returned (.bool true) ∧ Below w.heap.size w w' := by
  have hal := Lib.hid undoAlive_any
  by_cases c1 : 150 < l.length
  · have h1 : decide (150 < ((l.length : Nat) : Int)) = true := decide_eq_true (by omega)
    clear c1
    go_enter Try.func5, Try.ntmps5
    go_wp2_with fail
    refine (hal.out _).mono ?_
    rintro e w1 ⟨rfl, hb1⟩
    go_wp2
    go_ret
    exact ⟨rfl, hb1⟩
  have h1 : decide (150 < ((l.length : Nat) : Int)) = false := decide_eq_false (by omega)
  have hN : l.length ≤ 150 := by omega
  clear c1
  go_enter Try.func5, Try.ntmps5
  go_wp2_with fail
  refine (hal.out _).mono ?_
  rintro e wa ⟨rfl, hb1⟩
  clear hal
  have h0 := ((Held.start w).later isAsr_nil hb1).newLog isAsr_nil
  replace h0 := Lib.hid h0
  clear hb1
  go_wp2_with fail
  replace h0 := h0.out
  generalize wa.alloc (.cells #[.slice none 0 0] 27) = wb at *
  generalize wa.heap.size = g at *
  refine (uOf_any (lgU g) wb).mono ?_
  rintro e wc ⟨rfl, rfl⟩
  have h2 := ((h0.newList ((isAsr_log _ _).star isAsr_nil) (lgU g)).pull).startDesk (N := N1 g wb.heap.size)
  generalize wb.alloc (.cells #[.pointer (lgU g), .slice none 0 0] 55) = wc at *
  generalize wb.heap.size = pl at *
  replace h2 := Lib.hid h2
  clear h0
  go_wp2_with fail
  refine (uOf_any none wc).mono ?_
  rintro e wd ⟨rfl, rfl⟩
  have h3 := (h2.out.newList ((isAsr_desk (isAsr_N1 g pl) g _).star isAsr_nil) none).pull
  generalize wc.alloc (.cells #[.pointer none, .slice none 0 0] 55) = wd at *
  generalize wc.heap.size = pk at *
  replace h3 := Lib.hid h3
  clear h2
  go_wp2_with fail
  go_loopw [21] (fun iv wr => ∃ (i : Nat) (xs : List Int) (pst : List (List Int)), i ≤ l.length ∧ iv = .int .i64 i ∧ FreeU i xs pst ∧ Held w wr (star (deskA g (N1 g pl) (xs :: pst)) (star (objA (ListO none) pk xs) nilA))) (fun iv _ => (l.length - RowKit.intOf iv).toNat)
  case atStart => exact ⟨0, [], [], by omega, rfl, ⟨by simp, by simp, rfl⟩, h3.out⟩
  case round =>
    clear h3
    obtain ⟨i, xs, pst, hi, rfl, hF, hT⟩ := hrel
    by_cases hlt : i < l.length
    · obtain ⟨bb, off, rfl, hbl, c0, c1, c2, c3⟩ := ucalls_cells (hA.below hT.below (Nat.le_refl _)) hlt
      have hltI : decide (i < l.length) = true := decide_eq_true hlt
      have hn1 := hF.now
      have hn2 := hF.len
      have hT2 := hT.box ((isAsr_desk (isAsr_N1 g pl) g _).star ((isAsr_list _ _ _).star isAsr_nil)) (l[i]).cells 33
      generalize l[i] = x at *
      obtain ⟨kind, sec, ci, cx⟩ := x
      dsimp only at c0 c1 c2 c3
      by_cases k0 : kind = 0
      · subst k0
        have hs := Lib.hid (fun W1 B (D : Asr) (h : Held w W1 (star (boxA B (Ucall.mk 0 sec ci cx).cells) D)) => show (W1.cell? ⟨B, 2, none⟩ = some (.int .i64 ci) ∧ B < W1.heap.size) ∧ W1.cell? ⟨B, 3, none⟩ = some (.int .i64 cx) from by
          obtain ⟨-, -, q2, q3, lB⟩ := ubox h.boxAt.1
          exact ⟨⟨q2, lB⟩, q3⟩)
        have hT3 := hT2.later ((isAsr_box _ _).star ((isAsr_desk (isAsr_N1 g pl) g _).star ((isAsr_list _ _ _).star isAsr_nil))) (Below.refl _ _).drew
        replace hT3 := Lib.hid hT3
        have kA := Lib.hid (fun W1 B (h : Held w W1 (star (boxA B (Ucall.mk 0 sec ci cx).cells) (star (deskA g (N1 g pl) (xs :: pst)) (star (objA (ListO none) pk xs) nilA)))) => (desk1_add ((isAsr_box _ _).star ((isAsr_list _ _ _).star isAsr_nil)) h.pull cx (by omega) (by omega)).mono (R' := fun e w2 => e = .returned (.int .i64 ((xs.length : Nat) : Int)) ∧ Held w w2 (star (boxA B (Ucall.mk 0 sec ci cx).cells) (star (deskA g (N1 g pl) ((xs ++ [cx]) :: xs :: pst)) (star (objA (ListO none) pk xs) nilA)))) (fun _ _ ⟨a, b⟩ => ⟨a, b.pull⟩))
        have kB := Lib.hid (fun W1 B (h : Held w W1 (star (boxA B (Ucall.mk 0 sec ci cx).cells) (star (deskA g (N1 g pl) ((xs ++ [cx]) :: xs :: pst)) (star (objA (ListO none) pk xs) nilA)))) => (free_add ((isAsr_box _ _).star ((isAsr_desk (isAsr_N1 g pl) g _).star isAsr_nil)) h.pull3 cx (by omega)).mono (R' := fun e w2 => e = .returned (.int .i64 ((xs.length : Nat) : Int)) ∧ Held w w2 (star (boxA B (Ucall.mk 0 sec ci cx).cells) (star (deskA g (N1 g pl) ((xs ++ [cx]) :: xs :: pst)) (star (objA (ListO none) pk (xs ++ [cx])) nilA)))) (fun _ _ ⟨a, b⟩ => ⟨a, b.push3⟩))
        clear hT hT2 hA
        go_upto_region 12 with (fail)
        refine wp_region_need (fun w' => (w'.cell? ⟨wr.heap.size, 2, none⟩ = some (.int .i64 ci) ∧ wr.heap.size < w'.heap.size) ∧ w'.cell? ⟨wr.heap.size, 3, none⟩ = some (.int .i64 cx)) [0, 1, 2, 4, 5, 6] (by kernel_rfl) ?_
        replace hT3 := hT3.out
        have hS0 := hs.out _ _ _ hT3
        refine need_takeL (i := 0) (v := ?cv88) rfl rfl (by kernel_rfl) (by kernel_rfl) (by kernel_rfl) (fun _ _ _ h => h) (Or.inl ⟨by rfl, ?ch88⟩) hS0 ?cr88
        case ch88 => (intro w' hSw; (try dsimp only at hSw); go_simp; first | done | with_reducible rfl)
        try simp only [Act.put, List.setIfInBounds_toArray, List.set_cons_zero, List.set_cons_succ]
        refine need_takeL (i := 1) (v := ?cv91) rfl rfl (by kernel_rfl) (by kernel_rfl) (by kernel_rfl) (fun _ _ _ h => h) (Or.inl ⟨by rfl, ?ch91⟩) hS0 ?cr91
        case ch91 => (intro w' hSw; (try dsimp only at hSw); go_simp; first | done | with_reducible rfl)
        try simp only [Act.put, List.setIfInBounds_toArray, List.set_cons_zero, List.set_cons_succ]
        refine need_takeL (i := 2) (v := ?cv94) rfl rfl (by kernel_rfl) (by kernel_rfl) (by kernel_rfl) (fun _ _ _ h => h) (Or.inl ⟨by rfl, ?ch94⟩) hS0 ?cr94
        case ch94 => (intro w' hSw; (try dsimp only at hSw); go_simp; first | done | with_reducible rfl)
        try simp only [Act.put, List.setIfInBounds_toArray, List.set_cons_zero, List.set_cons_succ]
        refine need_takeL (i := 4) (v := ?cv97) rfl rfl (by kernel_rfl) (by kernel_rfl) (by kernel_rfl) (fun _ _ _ h => h) (Or.inl ⟨by rfl, ?ch97⟩) hS0 ?cr97
        case ch97 => (intro w' hSw; (try dsimp only at hSw); go_simp; first | done | with_reducible rfl)
        try simp only [Act.put, List.setIfInBounds_toArray, List.set_cons_zero, List.set_cons_succ]
        refine need_takeL (i := 5) (v := ?cv100) rfl rfl (by kernel_rfl) (by kernel_rfl) (by kernel_rfl) (fun _ _ _ h => h) (Or.inl ⟨by rfl, ?ch100⟩) hS0 ?cr100
        case ch100 => (intro w' hSw; (try dsimp only at hSw); go_simp; first | done | with_reducible rfl)
        try simp only [Act.put, List.setIfInBounds_toArray, List.set_cons_zero, List.set_cons_succ]
        refine need_takeL (i := 6) (v := ?cv103) rfl rfl (by kernel_rfl) (by kernel_rfl) (by kernel_rfl) (fun _ _ _ h => h) (Or.inl ⟨by rfl, ?ch103⟩) hS0 ?cr103
        case ch103 => (intro w' hSw; (try dsimp only at hSw); go_simp; first | done | with_reducible rfl)
        try simp only [Act.put, List.setIfInBounds_toArray, List.set_cons_zero, List.set_cons_succ]
        refine need_turnL (i := 3) rfl (by kernel_rfl) (by rfl) (fun K' hK' => ?_)
        go_simp
        refine (kA.out _ _ hT3).mono ?_
        rintro e w2 ⟨rfl, hT4⟩
        refine hK' _ _ (fun _ => hs.out _ _ _ hT4) ?_
        clear hK' K'
        try simp only [Act.put, List.setIfInBounds_toArray, List.set_cons_zero, List.set_cons_succ]
        refine need_turnL (i := 7) rfl (by kernel_rfl) (by rfl) (fun K' hK' => ?_)
        go_simp
        refine (kB.out _ _ hT4).mono ?_
        rintro e w3 ⟨rfl, hT5⟩
        refine hK' _ _ (fun _ => hs.out _ _ _ hT5) ?_
        clear hK' K'
        try simp only [Act.put, List.setIfInBounds_toArray, List.set_cons_zero, List.set_cons_succ]
        refine need_turnL (i := 8) rfl (by kernel_rfl) (by rfl) (fun K' hK' => ?_)
        go_simp
        refine hK' _ _ (fun _ => hs.out _ _ _ hT5) ?_
        clear hK' K'
        try simp only [Act.put, List.setIfInBounds_toArray, List.set_cons_zero, List.set_cons_succ]
        refine need_done (by kernel_rfl) ?_ _
        have hT6 := Lib.hid hT5.rest
        clear hS0 kA kB hT3 hT4 hT5 hs
        go_wp2_with fail
        go_roundw
        case measure => simp [RowKit.intOf]; omega
        case rel => exact ⟨i + 1, _, _, by omega, rfl, hF.push (by simp; omega), hT6.out⟩
      by_cases k1 : kind = 1
      · subst k1
        cases hu : hasU xs ci with
        | true =>
          have hs := Lib.hid (fun W1 B (D : Asr) (h : Held w W1 (star (boxA B (Ucall.mk 1 sec ci cx).cells) D)) => show (W1.cell? ⟨B, 2, none⟩ = some (.int .i64 ci) ∧ B < W1.heap.size) ∧ W1.cell? ⟨B, 3, none⟩ = some (.int .i64 cx) from by
            obtain ⟨-, -, q2, q3, lB⟩ := ubox h.boxAt.1
            exact ⟨⟨q2, lB⟩, q3⟩)
          have hT3 := hT2.later ((isAsr_box _ _).star ((isAsr_desk (isAsr_N1 g pl) g _).star ((isAsr_list _ _ _).star isAsr_nil))) (Below.refl _ _).drew
          replace hT3 := Lib.hid hT3
          have kA := Lib.hid (fun W1 B (h : Held w W1 (star (boxA B (Ucall.mk 1 sec ci cx).cells) (star (deskA g (N1 g pl) (xs :: pst)) (star (objA (ListO none) pk xs) nilA)))) => (desk1_set ((isAsr_box _ _).star ((isAsr_list _ _ _).star isAsr_nil)) h.pull ci cx hu (by omega)).mono (R' := fun e w2 => e = .returned (.bool true) ∧ Held w w2 (star (boxA B (Ucall.mk 1 sec ci cx).cells) (star (deskA g (N1 g pl) (xs.set ci.toNat cx :: xs :: pst)) (star (objA (ListO none) pk xs) nilA)))) (fun _ _ ⟨a, b⟩ => ⟨a, b.pull⟩))
          have kB := Lib.hid (fun W1 B (h : Held w W1 (star (boxA B (Ucall.mk 1 sec ci cx).cells) (star (deskA g (N1 g pl) (xs.set ci.toNat cx :: xs :: pst)) (star (objA (ListO none) pk xs) nilA)))) => (free_set ((isAsr_box _ _).star ((isAsr_desk (isAsr_N1 g pl) g _).star isAsr_nil)) h.pull3 ci cx hu).mono (R' := fun e w2 => e = .returned (.bool true) ∧ Held w w2 (star (boxA B (Ucall.mk 1 sec ci cx).cells) (star (deskA g (N1 g pl) (xs.set ci.toNat cx :: xs :: pst)) (star (objA (ListO none) pk (xs.set ci.toNat cx)) nilA)))) (fun _ _ ⟨a, b⟩ => ⟨a, b.push3⟩))
          clear hT hT2 hA
          go_upto_region 15 with (fail)
          refine wp_region_need (fun w' => (w'.cell? ⟨wr.heap.size, 2, none⟩ = some (.int .i64 ci) ∧ wr.heap.size < w'.heap.size) ∧ w'.cell? ⟨wr.heap.size, 3, none⟩ = some (.int .i64 cx)) [0, 1, 2, 3, 4, 6, 7, 8, 9, 10] (by kernel_rfl) ?_
          replace hT3 := hT3.out
          have hS0 := hs.out _ _ _ hT3
          refine need_takeL (i := 0) (v := ?cv148) rfl rfl (by kernel_rfl) (by kernel_rfl) (by kernel_rfl) (fun _ _ _ h => h) (Or.inl ⟨by rfl, ?ch148⟩) hS0 ?cr148
          case ch148 => (intro w' hSw; (try dsimp only at hSw); go_simp; first | done | with_reducible rfl)
          try simp only [Act.put, List.setIfInBounds_toArray, List.set_cons_zero, List.set_cons_succ]
          refine need_takeL (i := 1) (v := ?cv151) rfl rfl (by kernel_rfl) (by kernel_rfl) (by kernel_rfl) (fun _ _ _ h => h) (Or.inl ⟨by rfl, ?ch151⟩) hS0 ?cr151
          case ch151 => (intro w' hSw; (try dsimp only at hSw); go_simp; first | done | with_reducible rfl)
          try simp only [Act.put, List.setIfInBounds_toArray, List.set_cons_zero, List.set_cons_succ]
          refine need_takeL (i := 2) (v := ?cv154) rfl rfl (by kernel_rfl) (by kernel_rfl) (by kernel_rfl) (fun _ _ _ h => h) (Or.inl ⟨by rfl, ?ch154⟩) hS0 ?cr154
          case ch154 => (intro w' hSw; (try dsimp only at hSw); go_simp; first | done | with_reducible rfl)
          try simp only [Act.put, List.setIfInBounds_toArray, List.set_cons_zero, List.set_cons_succ]
          refine need_takeL (i := 3) (v := ?cv157) rfl rfl (by kernel_rfl) (by kernel_rfl) (by kernel_rfl) (fun _ _ _ h => h) (Or.inl ⟨by rfl, ?ch157⟩) hS0 ?cr157
          case ch157 => (intro w' hSw; (try dsimp only at hSw); go_simp; first | done | with_reducible rfl)
          try simp only [Act.put, List.setIfInBounds_toArray, List.set_cons_zero, List.set_cons_succ]
          refine need_takeL (i := 4) (v := ?cv160) rfl rfl (by kernel_rfl) (by kernel_rfl) (by kernel_rfl) (fun _ _ _ h => h) (Or.inl ⟨by rfl, ?ch160⟩) hS0 ?cr160
          case ch160 => (intro w' hSw; (try dsimp only at hSw); go_simp; first | done | with_reducible rfl)
          try simp only [Act.put, List.setIfInBounds_toArray, List.set_cons_zero, List.set_cons_succ]
          refine need_takeL (i := 6) (v := ?cv163) rfl rfl (by kernel_rfl) (by kernel_rfl) (by kernel_rfl) (fun _ _ _ h => h) (Or.inl ⟨by rfl, ?ch163⟩) hS0 ?cr163
          case ch163 => (intro w' hSw; (try dsimp only at hSw); go_simp; first | done | with_reducible rfl)
          try simp only [Act.put, List.setIfInBounds_toArray, List.set_cons_zero, List.set_cons_succ]
          refine need_takeL (i := 7) (v := ?cv166) rfl rfl (by kernel_rfl) (by kernel_rfl) (by kernel_rfl) (fun _ _ _ h => h) (Or.inl ⟨by rfl, ?ch166⟩) hS0 ?cr166
          case ch166 => (intro w' hSw; (try dsimp only at hSw); go_simp; first | done | with_reducible rfl)
          try simp only [Act.put, List.setIfInBounds_toArray, List.set_cons_zero, List.set_cons_succ]
          refine need_takeL (i := 8) (v := ?cv169) rfl rfl (by kernel_rfl) (by kernel_rfl) (by kernel_rfl) (fun _ _ _ h => h) (Or.inl ⟨by rfl, ?ch169⟩) hS0 ?cr169
          case ch169 => (intro w' hSw; (try dsimp only at hSw); go_simp; first | done | with_reducible rfl)
          try simp only [Act.put, List.setIfInBounds_toArray, List.set_cons_zero, List.set_cons_succ]
          refine need_takeL (i := 9) (v := ?cv172) rfl rfl (by kernel_rfl) (by kernel_rfl) (by kernel_rfl) (fun _ _ _ h => h) (Or.inl ⟨by rfl, ?ch172⟩) hS0 ?cr172
          case ch172 => (intro w' hSw; (try dsimp only at hSw); go_simp; first | done | with_reducible rfl)
          try simp only [Act.put, List.setIfInBounds_toArray, List.set_cons_zero, List.set_cons_succ]
          refine need_takeL (i := 10) (v := ?cv175) rfl rfl (by kernel_rfl) (by kernel_rfl) (by kernel_rfl) (fun _ _ _ h => h) (Or.inl ⟨by rfl, ?ch175⟩) hS0 ?cr175
          case ch175 => (intro w' hSw; (try dsimp only at hSw); go_simp; first | done | with_reducible rfl)
          try simp only [Act.put, List.setIfInBounds_toArray, List.set_cons_zero, List.set_cons_succ]
          refine need_turnL (i := 5) rfl (by kernel_rfl) (by rfl) (fun K' hK' => ?_)
          go_simp
          refine (kA.out _ _ hT3).mono ?_
          rintro e w2 ⟨rfl, hT4⟩
          refine hK' _ _ (fun _ => hs.out _ _ _ hT4) ?_
          clear hK' K'
          try simp only [Act.put, List.setIfInBounds_toArray, List.set_cons_zero, List.set_cons_succ]
          refine need_turnL (i := 11) rfl (by kernel_rfl) (by rfl) (fun K' hK' => ?_)
          go_simp
          refine (kB.out _ _ hT4).mono ?_
          rintro e w3 ⟨rfl, hT5⟩
          refine hK' _ _ (fun _ => hs.out _ _ _ hT5) ?_
          clear hK' K'
          try simp only [Act.put, List.setIfInBounds_toArray, List.set_cons_zero, List.set_cons_succ]
          refine need_turnL (i := 12) rfl (by kernel_rfl) (by rfl) (fun K' hK' => ?_)
          go_simp
          refine hK' _ _ (fun _ => hs.out _ _ _ hT5) ?_
          clear hK' K'
          try simp only [Act.put, List.setIfInBounds_toArray, List.set_cons_zero, List.set_cons_succ]
          refine need_done (by kernel_rfl) ?_ _
          have hT6 := Lib.hid hT5.rest
          clear hS0 kA kB hT3 hT4 hT5 hs
          go_wp2_with fail
          go_roundw
          case measure => simp [RowKit.intOf]; omega
          case rel => exact ⟨i + 1, _, _, by omega, rfl, hF.push (by simp; omega), hT6.out⟩
        | false =>
          have hs := Lib.hid (fun W1 B (D : Asr) (h : Held w W1 (star (boxA B (Ucall.mk 1 sec ci cx).cells) D)) => show (W1.cell? ⟨B, 2, none⟩ = some (.int .i64 ci) ∧ B < W1.heap.size) ∧ W1.cell? ⟨B, 3, none⟩ = some (.int .i64 cx) from by
            obtain ⟨-, -, q2, q3, lB⟩ := ubox h.boxAt.1
            exact ⟨⟨q2, lB⟩, q3⟩)
          have hT3 := hT2.later ((isAsr_box _ _).star ((isAsr_desk (isAsr_N1 g pl) g _).star ((isAsr_list _ _ _).star isAsr_nil))) (Below.refl _ _).drew
          replace hT3 := Lib.hid hT3
          have kA := Lib.hid (fun W1 B (h : Held w W1 (star (boxA B (Ucall.mk 1 sec ci cx).cells) (star (deskA g (N1 g pl) (xs :: pst)) (star (objA (ListO none) pk xs) nilA)))) => (desk1_set_out ((isAsr_box _ _).star ((isAsr_list _ _ _).star isAsr_nil)) h.pull ci cx hu).mono (R' := fun e w2 => e = .returned (.bool false) ∧ Held w w2 (star (boxA B (Ucall.mk 1 sec ci cx).cells) (star (deskA g (N1 g pl) (xs :: pst)) (star (objA (ListO none) pk xs) nilA)))) (fun _ _ ⟨a, b⟩ => ⟨a, b.pull⟩))
          have kB := Lib.hid (fun W1 B (h : Held w W1 (star (boxA B (Ucall.mk 1 sec ci cx).cells) (star (deskA g (N1 g pl) (xs :: pst)) (star (objA (ListO none) pk xs) nilA)))) => (free_set_out ((isAsr_box _ _).star ((isAsr_desk (isAsr_N1 g pl) g _).star isAsr_nil)) h.pull3 ci cx hu).mono (R' := fun e w2 => e = .returned (.bool false) ∧ Held w w2 (star (boxA B (Ucall.mk 1 sec ci cx).cells) (star (deskA g (N1 g pl) (xs :: pst)) (star (objA (ListO none) pk xs) nilA)))) (fun _ _ ⟨a, b⟩ => ⟨a, b.push3⟩))
          clear hT hT2 hA
          go_upto_region 15 with (fail)
          refine wp_region_need (fun w' => (w'.cell? ⟨wr.heap.size, 2, none⟩ = some (.int .i64 ci) ∧ wr.heap.size < w'.heap.size) ∧ w'.cell? ⟨wr.heap.size, 3, none⟩ = some (.int .i64 cx)) [0, 1, 2, 3, 4, 6, 7, 8, 9, 10] (by kernel_rfl) ?_
          replace hT3 := hT3.out
          have hS0 := hs.out _ _ _ hT3
          refine need_takeL (i := 0) (v := ?cv217) rfl rfl (by kernel_rfl) (by kernel_rfl) (by kernel_rfl) (fun _ _ _ h => h) (Or.inl ⟨by rfl, ?ch217⟩) hS0 ?cr217
          case ch217 => (intro w' hSw; (try dsimp only at hSw); go_simp; first | done | with_reducible rfl)
          try simp only [Act.put, List.setIfInBounds_toArray, List.set_cons_zero, List.set_cons_succ]
          refine need_takeL (i := 1) (v := ?cv220) rfl rfl (by kernel_rfl) (by kernel_rfl) (by kernel_rfl) (fun _ _ _ h => h) (Or.inl ⟨by rfl, ?ch220⟩) hS0 ?cr220
          case ch220 => (intro w' hSw; (try dsimp only at hSw); go_simp; first | done | with_reducible rfl)
          try simp only [Act.put, List.setIfInBounds_toArray, List.set_cons_zero, List.set_cons_succ]
          refine need_takeL (i := 2) (v := ?cv223) rfl rfl (by kernel_rfl) (by kernel_rfl) (by kernel_rfl) (fun _ _ _ h => h) (Or.inl ⟨by rfl, ?ch223⟩) hS0 ?cr223
          case ch223 => (intro w' hSw; (try dsimp only at hSw); go_simp; first | done | with_reducible rfl)
          try simp only [Act.put, List.setIfInBounds_toArray, List.set_cons_zero, List.set_cons_succ]
          refine need_takeL (i := 3) (v := ?cv226) rfl rfl (by kernel_rfl) (by kernel_rfl) (by kernel_rfl) (fun _ _ _ h => h) (Or.inl ⟨by rfl, ?ch226⟩) hS0 ?cr226
          case ch226 => (intro w' hSw; (try dsimp only at hSw); go_simp; first | done | with_reducible rfl)
          try simp only [Act.put, List.setIfInBounds_toArray, List.set_cons_zero, List.set_cons_succ]
          refine need_takeL (i := 4) (v := ?cv229) rfl rfl (by kernel_rfl) (by kernel_rfl) (by kernel_rfl) (fun _ _ _ h => h) (Or.inl ⟨by rfl, ?ch229⟩) hS0 ?cr229
          case ch229 => (intro w' hSw; (try dsimp only at hSw); go_simp; first | done | with_reducible rfl)
          try simp only [Act.put, List.setIfInBounds_toArray, List.set_cons_zero, List.set_cons_succ]
          refine need_takeL (i := 6) (v := ?cv232) rfl rfl (by kernel_rfl) (by kernel_rfl) (by kernel_rfl) (fun _ _ _ h => h) (Or.inl ⟨by rfl, ?ch232⟩) hS0 ?cr232
          case ch232 => (intro w' hSw; (try dsimp only at hSw); go_simp; first | done | with_reducible rfl)
          try simp only [Act.put, List.setIfInBounds_toArray, List.set_cons_zero, List.set_cons_succ]
          refine need_takeL (i := 7) (v := ?cv235) rfl rfl (by kernel_rfl) (by kernel_rfl) (by kernel_rfl) (fun _ _ _ h => h) (Or.inl ⟨by rfl, ?ch235⟩) hS0 ?cr235
          case ch235 => (intro w' hSw; (try dsimp only at hSw); go_simp; first | done | with_reducible rfl)
          try simp only [Act.put, List.setIfInBounds_toArray, List.set_cons_zero, List.set_cons_succ]
          refine need_takeL (i := 8) (v := ?cv238) rfl rfl (by kernel_rfl) (by kernel_rfl) (by kernel_rfl) (fun _ _ _ h => h) (Or.inl ⟨by rfl, ?ch238⟩) hS0 ?cr238
          case ch238 => (intro w' hSw; (try dsimp only at hSw); go_simp; first | done | with_reducible rfl)
          try simp only [Act.put, List.setIfInBounds_toArray, List.set_cons_zero, List.set_cons_succ]
          refine need_takeL (i := 9) (v := ?cv241) rfl rfl (by kernel_rfl) (by kernel_rfl) (by kernel_rfl) (fun _ _ _ h => h) (Or.inl ⟨by rfl, ?ch241⟩) hS0 ?cr241
          case ch241 => (intro w' hSw; (try dsimp only at hSw); go_simp; first | done | with_reducible rfl)
          try simp only [Act.put, List.setIfInBounds_toArray, List.set_cons_zero, List.set_cons_succ]
          refine need_takeL (i := 10) (v := ?cv244) rfl rfl (by kernel_rfl) (by kernel_rfl) (by kernel_rfl) (fun _ _ _ h => h) (Or.inl ⟨by rfl, ?ch244⟩) hS0 ?cr244
          case ch244 => (intro w' hSw; (try dsimp only at hSw); go_simp; first | done | with_reducible rfl)
          try simp only [Act.put, List.setIfInBounds_toArray, List.set_cons_zero, List.set_cons_succ]
          refine need_turnL (i := 5) rfl (by kernel_rfl) (by rfl) (fun K' hK' => ?_)
          go_simp
          refine (kA.out _ _ hT3).mono ?_
          rintro e w2 ⟨rfl, hT4⟩
          refine hK' _ _ (fun _ => hs.out _ _ _ hT4) ?_
          clear hK' K'
          try simp only [Act.put, List.setIfInBounds_toArray, List.set_cons_zero, List.set_cons_succ]
          refine need_turnL (i := 11) rfl (by kernel_rfl) (by rfl) (fun K' hK' => ?_)
          go_simp
          refine (kB.out _ _ hT4).mono ?_
          rintro e w3 ⟨rfl, hT5⟩
          refine hK' _ _ (fun _ => hs.out _ _ _ hT5) ?_
          clear hK' K'
          try simp only [Act.put, List.setIfInBounds_toArray, List.set_cons_zero, List.set_cons_succ]
          refine need_turnL (i := 12) rfl (by kernel_rfl) (by rfl) (fun K' hK' => ?_)
          go_simp
          refine hK' _ _ (fun _ => hs.out _ _ _ hT5) ?_
          clear hK' K'
          try simp only [Act.put, List.setIfInBounds_toArray, List.set_cons_zero, List.set_cons_succ]
          refine need_done (by kernel_rfl) ?_ _
          have hT6 := Lib.hid hT5.rest
          clear hS0 kA kB hT3 hT4 hT5 hs
          go_wp2_with fail
          go_roundw
          case measure => simp [RowKit.intOf]; omega
          case rel => exact ⟨i + 1, _, _, by omega, rfl, hF.keep, hT6.out⟩
      · have n0 : (kind == 0) = false := beq_eq_false_iff_ne.2 k0
        have n1 : (kind == 1) = false := beq_eq_false_iff_ne.2 k1
        clear k0 k1
        have hT6 := Lib.hid hT2.rest
        clear hT hT2
        go_wp2_with fail
        go_roundw
        case measure => simp [RowKit.intOf]; omega
        case rel => exact ⟨i + 1, xs, pst, by omega, rfl, hF.keep, hT6.out⟩
    · have hil : i = l.length := by omega
      subst hil
      clear hlt
      have hxl := hF.now
      have hpl := hF.len
      obtain ⟨v1, hv1⟩ := hT.desk1List
      have ka := Lib.hid (uAll_any hv1 (by omega))
      clear hv1
      go_wp2_with fail
      refine ka.out.mono ?_
      rintro e w2 ⟨va, rfl, hna⟩
      have hT2 := hT.newRow ((isAsr_desk (isAsr_N1 g pl) g _).star ((isAsr_list _ _ _).star isAsr_nil)) hna
      obtain ⟨r1, rfl, hr1, -⟩ := Rw.made hna.1
      obtain ⟨v2, hv2⟩ := hT2.pull3.freeList
      have kb := Lib.hid (uAll_any hv2 (by omega))
      clear ka hna hT hv2
      replace hT2 := Lib.hid hT2
      unfold Rw.val
      go_wp2_with fail
      refine kb.out.mono ?_
      rintro e w3 ⟨vb, rfl, hnb⟩
      have hT3 := hT2.out.later ((isAsr_row _ _ _ _ _).star ((isAsr_desk (isAsr_N1 g pl) g _).star ((isAsr_list _ _ _).star isAsr_nil))) hnb.2.2
      obtain ⟨r2, rfl, hr2, hr2r⟩ := Rw.made hnb.1
      have hr1r : r1.reads w3 := by have := hT3.rowAt.1; unfold Rw.reads; rw [hr1]; exact this
      have ks := Lib.hid (usame_any hr1r hr2r (by rw [hr1, hr2]) (by rw [hr1]; omega))
      clear kb hnb hT2 hr1r hr2r
      replace hT3 := Lib.hid hT3
      unfold Rw.val at ks
      unfold Rw.val
      go_wp2_with fail
      refine ks.out.mono ?_
      rintro e w4 ⟨rfl, hb4⟩
      have hT4 := hT3.out.later ((isAsr_row _ _ _ _ _).star ((isAsr_desk (isAsr_N1 g pl) g _).star ((isAsr_list _ _ _).star isAsr_nil))) hb4
      have kk := desk_back (isAsr_N1 g pl) ((isAsr_row _ _ _ _ _).star ((isAsr_list _ _ _).star isAsr_nil)) (by omega) 0 hT4.pull
      rw [show pst.length - (0 : Int).toNat = pst.length from rfl, hF.first] at kk
      replace kk := Lib.hid kk
      clear ks hT3 hT4 hb4
      go_wp2_with fail
      refine kk.out.mono ?_
      rintro e w5 ⟨rfl, hT5⟩
      obtain ⟨v5, hv5⟩ := hT5.desk1List
      have kl := Lib.hid (uLen_any hv5)
      obtain ⟨v6, hv6⟩ := hT5.pull3.freeList
      have km := Lib.hid (uAll_any hv6 (by omega))
      replace hT5 := Lib.hid hT5
      clear kk hv5 hv6
      go_wp2_with fail
      refine kl.out.mono ?_
      rintro e w6 ⟨rfl, rfl⟩
      clear kl
      go_wp2_with fail
      refine km.out.mono ?_
      rintro e w7 ⟨vc, rfl, hnc⟩
      have hT7 := hT5.out.later ((isAsr_desk (isAsr_N1 g pl) g _).star ((isAsr_row _ _ _ _ _).star ((isAsr_list _ _ _).star isAsr_nil))) hnc.2.2
      obtain ⟨r3, rfl, hr3, hr3r⟩ := Rw.made hnc.1
      have hr1r : r1.reads w7 := by have := hT7.pull.rowAt.1; unfold Rw.reads; rw [hr1]; exact this
      have ks := Lib.hid (usame_any hr3r hr1r (by rw [hr1, hr3]) (by rw [hr3]; omega))
      replace hT7 := Lib.hid hT7.below
      clear km hnc hT5 hr1r hr3r
      unfold Rw.val at ks
      unfold Rw.val
      go_wp2_with fail
      refine ks.out.mono ?_
      rintro e w8 ⟨rfl, hb8⟩
      have hfin := hT7.out.trans (hb8.mono hT7.out.size)
      clear ks hb8 hT7
      go_wp2
      go_ret
      exact ⟨rfl, hfin⟩
end Go.Proofs.Ytkahohgbcnchiaa
