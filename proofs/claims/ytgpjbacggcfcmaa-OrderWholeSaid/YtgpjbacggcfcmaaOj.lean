/- Stage 12: OrderWhole's walk. No condition but the landed package's. -/
import Derived.Test.YtgpjbacggcfcmaaOi
namespace Go.Proofs.Ytgpjbacggcfcmaa
open Go.RowKit Wm

/-- A row that is being filled behind the world w3, and a list that it isn't part of. -/
structure Apm (Od : Kind Zbl) (w w3 W : World) (p : Nat) (m : Zbl) (v : Value) (l : Zbl) : Prop where
  ex : ∃ F, Od F W p m ∧ (∀ k, F k → w.heap.size ≤ k) ∧ ∀ B, v.ownBlock = some B → w3.heap.size ≤ B ∧ ¬ F B
  row : W.ownsRow 0 44 2 v l.length (rowP l)
  below : Below w3.heap.size w3 W
section
variable {Od : Kind Zbl} {w w3 W W2 : World} {p : Nat} {m l : Zbl} {v : Value}
theorem Apm.start (h : On Od w w3 p m) : Apm Od w w3 w3 p m (.slice none 0 0) [] := by
  obtain ⟨⟨F, h1, h2⟩, h3⟩ := h
  exact ⟨⟨F, h1, h2, fun B e => by cases e⟩, ⟨rfl, .inl ⟨rfl, rfl⟩⟩, Below.refl _ _⟩
theorem Apm.later (K : IsKind Od) (h : Apm Od w w3 W p m v l) (hb : Below W.heap.size W W2) : Apm Od w w3 W2 p m v l := by
  obtain ⟨⟨F, h3, h4, h5⟩, h6, h7⟩ := h
  exact ⟨⟨F, K.later h3 hb, h4, h5⟩, (Only.of_below (F := fun _ => False) hb).row h6 (fun _ _ e => e), h7.trans (hb.mono h7.size)⟩
theorem Apm.one (K : IsKind Od) (h : Apm Od w w3 W p m v l) (x : Int × Int) (hn : l.length ≤ 1000) :
    ∃ g c w', (Builtin.append_ #[25, 25] 25 #[v, .slice (some ⟨W.heap.size, 0, none⟩) 1 1]).run Try.prog (W.alloc (.cells #[.int .i64 x.1, .int .i64 x.2] 44)) = .ok (.slice (some ⟨g, 0, none⟩) (l.length + 1) c) w' ∧ Apm Od w w3 w' p m (.slice (some ⟨g, 0, none⟩) (l.length + 1) c) (l ++ [x]) := by
  obtain ⟨⟨F, h3, h4, h5⟩, h6, h7⟩ := h
  obtain ⟨g, c, w', e1, e2, e3, e4⟩ := app_pair W v l x h6 hn
  refine ⟨g, c, w', e1, ⟨F, K.keep _ _ _ _ _ _ h3 e3 (fun k hf e => (h5 k e).2 hf), h4, fun B e => ?_⟩, e2, h7.trans (e3.to_below h7.size (fun k e => (h5 k e).1))⟩
  have : g = B := by injection e
  subst this
  rcases e4 with e | e
  · exact h5 _ e
  · exact ⟨Nat.le_trans h7.size e, fun hf => absurd (K.near _ _ _ _ h3 _ hf) (by omega)⟩
theorem Apm.on (h : Apm Od w w3 W p m v l) (hb : Below w.heap.size w w3) : On Od w W p m := by
  obtain ⟨⟨F, h3, h4, h5⟩, h6, h7⟩ := h
  exact ⟨⟨F, h3, h4⟩, hb.trans (h7.mono hb.size)⟩
end
section
variable {Od : Kind Zbl}
set_option maxRecDepth 100000 in
set_option maxHeartbeats 4000000 in
theorem orderWhole_any (K : LandedOr Od) (ao : Option Addr) (cap : Nat) (l : List Ocall) (hl : ∀ c ∈ l, c.Wf) (hlen : l.length ≤ 140737488351232) (a b : Int) (ha : -9223372036854775808 ≤ a) (ha' : a ≤ 9223372036854775807) (hb : -9223372036854775808 ≤ b) (hb' : b ≤ 9223372036854775807) (w : World) (hA : OcallsAt w ao l) :
    Calls Try.prog 6 #[.slice ao l.length cap, .int .i64 a, .int .i64 b] w fun e w' => e = .returned (.bool true) ∧ Below w.heap.size w w' := by
  have hal := Lib.hid (orderAlive_any K)
  by_cases c1 : 100 < l.length
  · have h1 : decide (100 < ((l.length : Nat) : Int)) = true := decide_eq_true (by omega)
    go_enter Try.func6, Try.ntmps6
    go_wp2_with fail
    refine (hal.out _).mono ?_
    rintro e w1 ⟨rfl, hb1⟩
    go_wp2
    go_ret
    exact ⟨rfl, hb1⟩
  have h1 : decide (100 < ((l.length : Nat) : Int)) = false := decide_eq_false (by omega)
  by_cases c2 : b = 0
  · subst c2
    go_enter Try.func6, Try.ntmps6
    go_wp2_with fail
    refine (hal.out _).mono ?_
    rintro e w1 ⟨rfl, hb1⟩
    go_wp2
    go_ret
    exact ⟨rfl, hb1⟩
  · have h2 : (b == 0) = false := by simpa using c2
    have hsc := fun k => scriptZ_facts hl k
    have hnext : ∀ k (h : k < l.length), scriptZ (l.take (k + 1)) = callZ (scriptZ (l.take k)) l[k] := fun k h => by
      rw [← scriptZ_snoc, ← List.take_append_getElem h]
    have hfr := Lib.hid (fun wr (hb : Below w.heap.size w wr) => (show On Od w (wr.alloc (.cells #[.slice none 0 0] 27)) wr.heap.size [] from On.fresh (O := Od) hb (K.new wr)))
    have h100 : l.length ≤ 100 := by omega
    replace hsc := Lib.hid hsc
    replace hnext := Lib.hid hnext
    have c2' := Lib.hid c2
    clear c1 c2
    go_enter Try.func6, Try.ntmps6
    go_wp2_with fail
    refine (hal.out _).mono ?_
    rintro e wc ⟨rfl, hb1⟩
    have hT0 := hfr.out _ hb1
    clear hfr
    go_wp2_with fail
    go_loopw [29] (fun iv wr => ∃ k : Nat, k ≤ l.length ∧ iv = .int .i64 k ∧ On Od w wr wc.heap.size (scriptZ (l.take k))) (fun iv _ => (l.length - RowKit.intOf iv).toNat)
    case atStart => exact ⟨0, by omega, rfl, hT0⟩
    case round =>
      clear hT0
      obtain ⟨k, hk, rfl, hT⟩ := hrel
      by_cases hlt : k < l.length
      · obtain ⟨bb, off, rfl, hbl, hc⟩ := (hA.below hT.below (Nat.le_refl _)).spot k hlt
        have hx := hl _ (List.getElem_mem hlt)
        have hn := hnext.out k hlt
        have hlen1 := (hsc.out k).2.1
        generalize hxe : l[k] = x at *
        generalize scriptZ (l.take k) = m at *
        have hcall := Lib.hid (fun (W : World) (h : On Od w W wc.heap.size m) => odoes_empty K h (Nat.le_trans hlen1 (by omega)) x hx)
        rw [ocallV_eq] at hcall
        generalize callZ m x = m2 at *
        replace hn := Lib.hid hn
        obtain ⟨kind, kk, at'⟩ := x
        dsimp only [Ocall.cells] at hc hcall
        have c0 := hc 0 _ rfl
        have c1 := hc 1 _ rfl
        have c2 := hc 2 _ rfl
        dsimp only [Nat.add_zero] at c0 c1 c2
        clear hc hx hlen1 hxe
        have hT2 := hT.later K.toIsKind ((Below.refl wr.heap.size wr).alloc (Nat.le_refl _) (.cells #[.int .i64 kind, .int .i64 kk, .int .i64 at'] 33))
        go_wp2_with fail
        have hcall2 := hcall.out _ hT2
        clear hcall
        rw [World.size_alloc] at hcall2
        refine hcall2.mono ?_
        rintro e w5 ⟨rfl, hT5⟩
        go_wp2_with fail
        go_roundw
        case measure => simp [RowKit.intOf]; omega
        case rel =>
          exact ⟨k + 1, by omega, rfl, by rw [hn.out]; exact hT5⟩
      · have hkl : k = l.length := by omega
        subst hkl
        rw [List.take_length] at hT
        obtain ⟨honce, hln, hlow⟩ := hsc.out l.length
        rw [List.take_length] at honce hln hlow
        generalize scriptZ l = m at *
        have hS := range_all hlow
        have hSl : (sortZ m).length = m.length := (sortZ_perm m).length_eq
        have hRis := sortZ_rise m honce
        have hR := range_within honce a b
        have k1 := Lib.hid (fun (W : World) (h : On Od w W wc.heap.size m) => (show Calls Try.prog 12 #[.pointer (some ⟨wc.heap.size, 0, none⟩), .int .i64 (-9223372036854775808), .int .i64 0, .bool false] W (PrsOut (rangeZ m (-9223372036854775808) 0 false) W) from by
          obtain ⟨⟨F, hF, _⟩, _⟩ := h
          exact K.range F W _ _ _ 0 false hF (by decide) (by decide) (by decide) (by decide)))
        have k2 := Lib.hid (fun (W : World) (h : On Od w W wc.heap.size m) => (show Calls Try.prog 12 #[.pointer (some ⟨wc.heap.size, 0, none⟩), .int .i64 a, .int .i64 b, .bool false] W (PrsOut (rangeZ m a b false) W) from by
          obtain ⟨⟨F, hF, _⟩, _⟩ := h
          exact K.range F W _ _ a b false hF ha ha' hb hb'))
        have k3 := Lib.hid (fun (W : World) (h : On Od w W wc.heap.size m) => (show Calls Try.prog 9 #[.pointer (some ⟨wc.heap.size, 0, none⟩)] W fun e W' => e = .returned (.int .i64 ((m.length : Nat) : Int)) ∧ Below W.heap.size W W' from by
          obtain ⟨⟨F, hF, _⟩, _⟩ := h
          exact K.len F W _ _ hF))
        rw [hS] at k1
        rw [hR] at k2
        rw [← hSl] at k3
        have hS100 : (sortZ m).length ≤ 100 := by omega
        clear hS hSl hR hlow hln honce
        generalize sortZ m = S at *
        have hlat := Lib.hid (fun W W2 (h : On Od w W wc.heap.size m) (hb : Below W.heap.size W W2) => h.later K.toIsKind hb)
        go_wp2_with fail
        refine (k1.out _ hT).mono ?_
        rintro e w3 ⟨ao1, c1, rfl, hp1, hb3, -⟩
        have hT3 := hlat.out _ _ hT hb3
        replace hRis := Lib.hid hRis
        have hM0 := Apm.start hT3
        go_wp2_with fail
        go_loopw [11, 43] (fun v iv wr => ∃ k : Nat, k ≤ S.length ∧ iv = .int .i64 k ∧ Apm Od w w3 wr wc.heap.size m v ((S.take k).filter (keepZ a b))) (fun _ iv _ => (S.length - RowKit.intOf iv).toNat)
        case atStart => exact ⟨0, by omega, rfl, hM0⟩
        case round =>
          clear hM0
          obtain ⟨k, hk, rfl, hM⟩ := hrel
          by_cases hlt : k < S.length
          · obtain ⟨g1, o1, rfl, hg1, x0, x1⟩ := (hp1.later hM.below).spot k hlt
            have htk : (S.take (k + 1)).filter (keepZ a b) = (S.take k).filter (keepZ a b) ++ (if keepZ a b S[k] = true then [S[k]] else []) := by
              rw [← List.take_append_getElem hlt, List.filter_append]
              congr 1
              by_cases e : keepZ a b S[k] = true
              · rw [if_pos e]; simp [e]
              · rw [if_neg e]; simp [e]
            have hfl : ((S.take k).filter (keepZ a b)).length ≤ 1000 := by
              have h1 := List.length_filter_le (keepZ a b) (S.take k)
              rw [List.length_take] at h1
              omega
            have hprev : k = 0 ∨ ∃ j y0 y1, k = j + 1 ∧ wr.cell? ⟨g1, o1 + j * 2 , none⟩ = some (.int .i64 y0) ∧ wr.cell? ⟨g1, o1 + j * 2 + 1, none⟩ = some (.int .i64 y1) ∧ decide (S[k].1 ≤ y0) = false := by
              cases k with
              | zero => exact .inl rfl
              | succ j =>
                obtain ⟨g2, o2, e2, _, z0, z1⟩ := (hp1.later hM.below).spot j (by omega)
                injection e2 with e2
                injection e2 with e3 e4
                subst e3 e4
                refine .inr ⟨j, _, _, rfl, z0, z1, decide_eq_false ?_⟩
                have := List.pairwise_iff_getElem.1 hRis.out j (j + 1) (by omega) hlt (by omega)
                omega
            generalize S[k] = x at *
            obtain ⟨xs, xa⟩ := x
            dsimp only at x0 x1 hprev
            have hbq : Below wr.heap.size wr (wr.alloc (.cells #[.int .i64 xs, .int .i64 xa] 44)) := (Below.refl wr.heap.size wr).alloc (Nat.le_refl _) _
            have hM2 := hM.later K.toIsKind hbq
            have hbx := BoxAt.new wr [.int .i64 xs, .int .i64 xa] 44
            have hone := Lib.hid (fun W v (h : Apm Od w w3 W wc.heap.size m v ((S.take k).filter (keepZ a b))) => h.one K.toIsKind (xs, xa) hfl)
            replace htk := Lib.hid htk
            have hprev2 : k = 0 ∨ ∃ j y0 y1 : Int, ∃ jn : Nat, (wr.alloc (.cells #[.int .i64 xs, .int .i64 xa] 44)).cell? ⟨g1, o1 + jn * 2, none⟩ = some (.int .i64 y0) ∧ (wr.alloc (.cells #[.int .i64 xs, .int .i64 xa] 44)).cell? ⟨g1, o1 + jn * 2 + 1, none⟩ = some (.int .i64 y1) ∧ decide (xs ≤ y0) = false ∧ j = (jn : Int) ∧ (k : Int) - 1 = j ∧ decide ((0 : Int) < (k : Int)) = true ∧ wrap64 ((k : Int) - 1) = j ∧ jn < S.length := by
              rcases hprev with h | ⟨j, y0, y1, h, z0, z1, hd⟩
              · exact .inl h
              · refine .inr ⟨j, y0, y1, j, (hbq.cell (p := ⟨g1, _, none⟩) hg1).trans z0, (hbq.cell (p := ⟨g1, _, none⟩) hg1).trans z1, hd, rfl, by omega, decide_eq_true (by omega), ?_, by omega⟩
                unfold wrap64
                omega
            clear hprev hM hfl
            go_wp2_with fail
            generalize hwqe : wr.alloc (.cells #[.int .i64 xs, .int .i64 xa] 44) = wq at *
            have q0 := hbx.spot 0 _ rfl
            have q1 := hbx.spot 1 _ rfl
            have ql := hbx.lt
            go_cut [60] (fun t wx => t = .bool false ∧ Below wq.heap.size wq wx)
            case first =>
              clear hM2 hone htk hbx hwqe
              rcases hprev2 with rfl | ⟨j, y0, y1, jn, z0, z1, hd, rfl, hj1, hj2, hj3, hj4⟩
              · go_quiet (fail)
                have hbz : Below wq.heap.size wq (wq.drewN nq) := ⟨rfl, rfl, rfl, Nat.le_refl _, fun _ _ => rfl⟩
                go_wp2_with fail
                go_meet
                case rel => exact ⟨rfl, hbz⟩
              · have hj5 : decide (0 < k) = true := decide_eq_true (by omega)
                have hj6 : 0 < k := by omega
                go_quiet (fail)
                have hbz : Below wq.heap.size wq (wq.drewN nq) := ⟨rfl, rfl, rfl, Nat.le_refl _, fun _ _ => rfl⟩
                go_wp2_with fail
                go_meet
                case rel => exact ⟨rfl, hbz⟩
            case rest =>
              obtain ⟨rfl, hbw⟩ := hcut
              have hM3 := hM2.later K.toIsKind hbw
              have q0' := (hbw.cell (p := ⟨wr.heap.size, 0, none⟩) ql).trans q0
              have q1' := (hbw.cell (p := ⟨wr.heap.size, 1, none⟩) ql).trans q1
              have ql' := Nat.lt_of_lt_of_le ql hbw.size
              clear hM2 hbx hprev2 hbq q0 q1 ql
              by_cases ka : a ≤ xs
              · have ka' : decide (a ≤ xs) = true := decide_eq_true ka
                by_cases kb : xs ≤ b
                · have kb' : decide (xs ≤ b) = true := decide_eq_true kb
                  have hkeep : keepZ a b (xs, xa) = true := by unfold keepZ; rw [ka', kb']; simp
                  obtain ⟨g, c, wz, hr, hMz⟩ := hone.out _ _ hM3
                  have htk2 := htk.out
                  rw [if_pos hkeep] at htk2
                  rw [← htk2] at hMz
                  replace htk2 := Lib.hid (congrArg List.length htk2)
                  clear htk hkeep ka kb hone
                  go_wp2_with (at_builtin; refine Lib.wpList_append_run _ rfl _ _ _ _ rfl _ _ rfl rfl _ _ hr ?_)
                  go_roundw
                  case measure => simp [RowKit.intOf]; omega
                  case rel => exact ⟨k + 1, by omega, rfl, hMz⟩
                · have kb' : decide (xs ≤ b) = false := decide_eq_false kb
                  have hkeep : keepZ a b (xs, xa) = false := by unfold keepZ; rw [ka', kb', decide_eq_false c2'.out]; rfl
                  have htk2 := htk.out
                  rw [hkeep, if_neg (by decide), List.append_nil] at htk2
                  rw [← htk2] at hM3
                  clear htk htk2 hkeep ka kb hone
                  go_wp2_with fail
                  go_roundw
                  case measure => simp [RowKit.intOf]; omega
                  case rel => exact ⟨k + 1, by omega, rfl, hM3⟩
              · have ka' : decide (a ≤ xs) = false := decide_eq_false ka
                have hkeep : keepZ a b (xs, xa) = false := by unfold keepZ; rw [ka']; rfl
                have htk2 := htk.out
                rw [hkeep, if_neg (by decide), List.append_nil] at htk2
                rw [← htk2] at hM3
                clear htk htk2 hkeep ka hone
                go_wp2_with fail
                go_roundw
                case measure => simp [RowKit.intOf]; omega
                case rel => exact ⟨k + 1, by omega, rfl, hM3⟩
          · have hkl : k = S.length := by omega
            subst hkl
            rw [List.take_length] at hM
            have hRl : (S.filter (keepZ a b)).length ≤ 100 := Nat.le_trans (List.length_filter_le _ _) hS100
            generalize S.filter (keepZ a b) = R at *
            clear hT
            have hT4 := hM.on hT3.below
            go_wp2_with fail
            refine (k2.out _ hT4).mono ?_
            rintro e w5 ⟨ao2, c2, rfl, hp2, hb5, -⟩
            have hT5 := hlat.out _ _ hT4 hb5
            obtain ⟨ao3, c3, rfl, hp3⟩ := PrsAt.of_row hM.row
            replace hp3 := hp3.later hb5
            clear hM hT4 hlat k1 k2 hp1 hRis
            go_wp2_with fail
            refine (k3.out _ hT5).mono ?_
            rintro e w6 ⟨rfl, hb6⟩
            replace hp3 := hp3.later hb6
            replace hp2 := hp2.later hb6
            have hb9 := hT5.below.trans (hb6.mono hT5.below.size)
            clear k3 hT5 hT3 hb3 hb5 hb6
            have hq := fun (x y : Int) W => run_neq_pair x y W
            go_wp2_with fail
            go_loopw [94] (fun iv wr => ∃ k : Nat, k ≤ R.length ∧ iv = .int .i64 k ∧ Below w6.heap.size w6 wr) (fun iv _ => (R.length - RowKit.intOf iv).toNat)
            case atStart => exact ⟨0, by omega, rfl, Below.refl _ _⟩
            case round =>
              obtain ⟨k, hk, rfl, hbw⟩ := hrel
              by_cases hlt : k < R.length
              · obtain ⟨g1, o1, rfl, -, x0, x1⟩ := (hp2.later hbw).spot k hlt
                obtain ⟨g2, o2, rfl, -, y0, y1⟩ := (hp3.later hbw).spot k hlt
                generalize R[k] = x at *
                obtain ⟨xs, xa⟩ := x
                dsimp only at x0 x1 y0 y1
                go_wp2_with fail
                go_quiet (fail)
                have hbw2 : Below w6.heap.size w6 (wr.drewN nq) := hbw.trans ⟨rfl, rfl, rfl, Nat.le_refl _, fun _ _ => rfl⟩
                generalize wr.drewN nq = wz at *
                go_wp2
                go_roundw
                case measure => simp [RowKit.intOf]; omega
                case rel => exact ⟨k + 1, by omega, rfl, hbw2⟩
              · go_wp2_with fail
                go_ret
                exact ⟨rfl, hb9.trans (hbw.mono hb9.size)⟩
end
end Go.Proofs.Ytgpjbacggcfcmaa
