/- The landed table: a name looked for. No condition but sizes. -/
import Derived.Test.YtpopbdladlahjaaEb
import Derived.Test.YtpopbdladlahjaaCalb
import Derived.Test.YtpopbdladlahjaaIdx
namespace Go.Proofs.Ytpopbdladlahjaa
open Go.RowKit Go.Sort Wm
attribute [local go_sem high] run_eql_num run_neq_num

/-- What a search tells: the name's cell; or that it isn't there, and which cell may take it, if there is one. -/
def TbFound (cs : List Cl) (k : Nat) (e : Ending) : Prop :=
  (∃ (i : Nat) (c : Cl), e = .returned (.tuple #[.int .i64 ((i : Nat) : Int), .bool true]) ∧ cs[i]? = some c ∧ c.kind = 2 ∧ c.name = k) ∨
  ∃ (o : Int) (j : Nat), e = .returned (.tuple #[.int .i64 o, .bool false]) ∧ TbPast cs (startZ k) k j ∧ (j = cs.length ∨ ∃ c, cs[tbSpot cs.length (startZ k) j]? = some c ∧ c.kind = 0) ∧
    ∃ j', j' ≤ cs.length ∧ TbOpen cs (startZ k) j' o ∧ (j' = cs.length ∨ 0 ≤ o)
theorem run_idx_cell (g n c i : Nat) (h : i < n) (w : World) : (Instr.indexAt 46 (.slice (some ⟨g, 0, none⟩) n c) (.int .i64 (i : Int))).run Try.prog w = .ok (.pointer (some ⟨g, i * 4, none⟩)) w := by
  go_simp
section
variable {W : World} {p g : Nat} {cs : List Cl} {names used : Nat}
set_option maxRecDepth 100000 in
set_option maxHeartbeats 4000000 in
theorem tbFind_any (h : PtV W p g cs names used) (hpow : ∃ b, 4 ≤ b ∧ b ≤ 13 ∧ cs.length = 2 ^ b) (hkinds : ∀ c ∈ cs, c.kind ≤ 2 ∧ c.name < big) (k : Nat) (hk : k < big) :
    Calls Try.prog 17 #[.pointer (some ⟨p, 0, none⟩), numV k] W fun e W' => TbFound cs k e ∧ Below W.heap.size W W' := by
  obtain ⟨b, hb4, hb13, hpw⟩ := hpow
  have hn16 : 16 ≤ cs.length := by rw [hpw]; exact Nat.pow_le_pow_right (n := 2) (by omega) hb4
  have hn8 : cs.length ≤ 8192 := by rw [hpw]; exact Nat.pow_le_pow_right (n := 2) (by omega) hb13
  have hst := Lib.hid (fun W => tbStart_any k hk W)
  have hs0 := Lib.hid (bits_spot0 hpw hb13 (startZ k))
  have hsn := Lib.hid (bits_spot hpw hb13 (startZ k))
  have hlt := Lib.hid (tbSpot_lt (n := cs.length) (by omega) (startZ k))

  have hno := Lib.hid (fun (o : Int) (j j' : Nat) (h1 : TbPast cs (startZ k) k j) (h2 : j = cs.length ∨ ∃ c, cs[tbSpot cs.length (startZ k) j]? = some c ∧ c.kind = 0) (h3 : j' ≤ cs.length) (h4 : TbOpen cs (startZ k) j' o) (h5 : j' = cs.length ∨ 0 ≤ o) => show TbFound cs k (.returned (.tuple #[.int .i64 o, .bool false])) from .inr ⟨o, j, rfl, h1, h2, j', h3, h4, h5⟩)
  have hyes := Lib.hid (fun (i : Nat) (c : Cl) (h1 : cs[i]? = some c) (h2 : c.kind = 2) (h3 : c.name = k) => show TbFound cs k (.returned (.tuple #[.int .i64 ((i : Nat) : Int), .bool true])) from .inl ⟨i, c, rfl, h1, h2, h3⟩)
  have hw0 : Below W.heap.size W (W.alloc (.cells #[.int .u64 ((hiN k : Nat) : Int), .int .u64 ((loN k : Nat) : Int)] 33)) := (Below.refl _ _).alloc (Nat.le_refl _) _
  have hbx := BoxAt.new W [.int .u64 ((hiN k : Nat) : Int), .int .u64 ((loN k : Nat) : Int)] 33
  have hV := h.later hw0
  clear h hpw hb4 hb13
  go_enter Try.func17, Try.ntmps17
  generalize hw0e : W.alloc (.cells #[.int .u64 ((hiN k : Nat) : Int), .int .u64 ((loN k : Nat) : Int)] 33) = W0 at *
  replace hw0 := Lib.hid hw0
  have z0 := hbx.spot 0 _ rfl
  have z1 := hbx.spot 1 _ rfl
  have zl := hbx.lt
  go_wp2_with fail
  refine (hst.out _).mono ?_
  rintro e w1 ⟨rfl, hb1⟩
  replace hV := hV.later hb1
  replace hbx := hbx.later hb1
  have c0 := hV.c0
  have lp := hV.lp
  replace hw0 := Lib.hid (hw0.out.trans (hb1.mono hw0.out.size))
  clear z0 z1 zl hb1 hst
  generalize startZ k = z at *
  go_wp2_with fail
  clear c0 lp
  go_loopw [6, 7, 16] (fun ov iv nv wr => ∃ (j : Nat) (o x : Int), j ≤ cs.length ∧ ov = .int .i64 o ∧ iv = .int .i64 x ∧ nv = .int .i64 j ∧ bits .and .i64 x ((cs.length : Int) - 1) = ((tbSpot cs.length z j : Nat) : Int) ∧ -1 ≤ o ∧ o ≤ 10000 ∧ TbPast cs z k j ∧ TbOpen cs z j o ∧ Below w1.heap.size w1 wr) (fun _ _ nv _ => (cs.length - RowKit.intOf nv).toNat)
  case atStart => exact ⟨0, -1, z, by omega, rfl, rfl, rfl, hs0.out, by omega, by omega, TbPast.zero, TbOpen.zero, Below.refl _ _⟩
  case round =>
    obtain ⟨j, o, x, hj, rfl, rfl, rfl, hx, ho1, ho2, hpa, hop, hb⟩ := hrel
    have hbw := hw0.out.trans (hb.mono hw0.out.size)
    by_cases hjl : j < cs.length
    · have hVr := hV.later hb
      have c0 := hVr.c0
      have lp := hVr.lp
      have lg := hVr.lg
      have bx := hbx.later hb
      have z0 := bx.spot 0 _ rfl
      have z1 := bx.spot 1 _ rfl
      have zl := bx.lt
      have hjI : ((j : Nat) : Int) < ((cs.length : Nat) : Int) := by omega
      have hsl := hlt.out j
      have hnx := Lib.hid (hsn.out j)
      obtain ⟨c, hc⟩ : ∃ c, cs[tbSpot cs.length z j]? = some c := ⟨_, List.getElem?_eq_getElem hsl⟩
      have hr := hVr.row _ _ hc
      have hck := hkinds c (List.mem_of_getElem? hc)
      have hpn := Lib.hid (fun h0 h2 => hpa.next hc h0 h2)
      have hot := Lib.hid (fun h2 => hop.taken hc h2)
      have hol := Lib.hid (fun h0 => hop.later h0)
      have hof := Lib.hid (fun (e : o = -1) (_ : True) h2 => (e ▸ hop : TbOpen cs z j (-1)).first hc h2)
      have hcf := Lib.hid (fun (h0 : c.kind = 0) (o' : Int) (h4 : TbOpen cs z (j + 1) o') (h5 : 0 ≤ o') => hno.out o' j (j + 1) hpa (.inr ⟨c, hc, h0⟩) (by omega) h4 (.inr h5))
      have hcy := Lib.hid (fun h2 h3 => hyes.out _ c hc h2 h3)
      clear hyes hno hVr hs0 hpa hc hop hlt hsn
      generalize tbSpot cs.length z j = sp at *
      have hsI : ((sp : Nat) : Int) < ((cs.length : Nat) : Int) := by omega
      obtain ⟨kd, nm, v⟩ := c
      dsimp only at hck hpn hot hof hcf hcy
      have hMi := Lib.hid (show (Try.prog.info? 51).map (·.size) = some (cellsK ⟨kd, nm, v⟩).length by rw [cellsK_length]; kernel_rfl)
      have hM1 := Lib.hid (all_oneCell_toArray (cellsK_one ⟨kd, nm, v⟩))
      have hMl := Lib.hid (cellsK_length ⟨kd, nm, v⟩)
      have hba : Below wr.heap.size wr (wr.alloc (.cells (cellsK ⟨kd, nm, v⟩).toArray 51)) := (Below.refl _ _).alloc (Nat.le_refl _) _
      have bx3 := Lib.hid (bx.later hba)
      have bq3 := BoxAt.new wr (cellsK ⟨kd, nm, v⟩) 51
      have q0 := Lib.hid (bq3.spot 0 _ rfl)
      have q1 := Lib.hid (bq3.spot 1 _ rfl)
      have q2 := Lib.hid (bq3.spot 2 _ rfl)
      have q3 := Lib.hid (bq3.lt)
      dsimp only at q0 q1 q2
      replace hr := Lib.hid hr
      replace hba := Lib.hid (hb.trans (hba.mono hb.size))
      have hbq := Lib.hid (hw0.out.trans (hba.out.mono hw0.out.size))
      clear hb hbw bq3 bx
      generalize cellsK ⟨kd, nm, v⟩ = M at *
      have hst : ∀ w0 : World, (storeCells ⟨w0.heap.size, 0, none⟩ M 0).run Try.prog (w0.alloc (.cells #[.int .i64 0, .int .u64 0, .int .u64 0, .int .i64 0] 51)) = .ok () (w0.alloc (.cells M.toArray 51)) :=
        fun w0 => run_storeCells_new (P := Try.prog) w0 51 _ M.toArray (by rw [List.size_toArray]; exact hMi.out) (show (4 : Nat) = _ from ((List.size_toArray ..).trans hMl.out).symm) hM1.out
      go_upto_region 6 with (fail)
      clear hx
      have hix := Lib.hid (run_idx_cell g cs.length cs.length sp hsl)
      go_upto_region 7 with (first | (refine wpList_index_run rfl _ _ _ rfl (.slice (some ⟨g, 0, none⟩) cs.length cs.length) (.int .i64 (sp : Int)) _ rfl rfl (hix.out _) ?_) | (refine wpList_load_midg rfl _ _ rfl g (sp * 4) rfl M _ hr.out Try.underlying51 rfl hMi.out ?_))
      clear hix hst hr hMi hM1 hMl c0 lp lg z0 z1 zl hjI hsI
      generalize wr.alloc (.cells M.toArray 51) = W3 at *
      generalize wr.heap.size = q at *
      replace q0 := q0.out
      replace q1 := q1.out
      replace q2 := q2.out
      replace q3 := q3.out
      have z0 := bx3.out.spot 0 _ rfl
      have z1 := bx3.out.spot 1 _ rfl
      have zl := bx3.out.lt
      have hkd : kd = 0 ∨ kd = 1 ∨ kd = 2 := by omega
      clear hck bx3
      rcases hkd with rfl | rfl | rfl
      · replace q0 : W3.cell? ⟨q, 0, none⟩ = some (.int .i64 0) := q0
        clear hba hnx hpn hcy hot
        by_cases ho : o = -1
        · have hfin := Lib.hid (hcf.out rfl _ (hof.out ho trivial (by omega)) (by omega))
          subst ho
          clear hcf hof hol ho1 ho2
          go_wp2
          go_ret2
          exact ⟨hfin.out, hbq.out⟩
        · have ho0 : 0 ≤ o := by omega
          have hfin := Lib.hid (hcf.out rfl _ (hol.out ho0) ho0)
          clear hcf hof hol ho1 ho
          go_wp2
          go_ret2
          exact ⟨hfin.out, hbq.out⟩
      · replace q0 : W3.cell? ⟨q, 0, none⟩ = some (.int .i64 1) := q0
        clear hcf hcy hot hbq
        by_cases ho : o = -1
        · have ho3 := Lib.hid (hof.out ho trivial (by omega))
          subst ho
          clear hof hol ho1 ho2
          go_wp2_with fail
          exact ⟨⟨j + 1, (sp : Int), (sp : Int) + 1, by omega, rfl, rfl, by go_num, hnx.out, by omega, by omega, hpn.out (by omega) (by omega), ho3.out, hba.out⟩, by simp [RowKit.intOf]; omega⟩
        · have ho0 : 0 ≤ o := by omega
          have ho3 := Lib.hid (hol.out ho0)
          clear hof hol ho
          go_wp2_with fail
          exact ⟨⟨j + 1, o, (sp : Int) + 1, by omega, rfl, rfl, by go_num, hnx.out, by omega, by omega, hpn.out (by omega) (by omega), ho3.out, hba.out⟩, by simp [RowKit.intOf]; omega⟩
      · replace q0 : W3.cell? ⟨q, 0, none⟩ = some (.int .i64 2) := q0
        by_cases hnk : nm = k
        · have hfin := Lib.hid (hcy.out rfl hnk)
          have hkb : decide (nm = k) = true := decide_eq_true hnk
          clear hcf hof hol hba hnx hpn hot hcy hnk
          go_wp2
          go_ret2
          exact ⟨hfin.out, hbq.out⟩
        · have ho3 := Lib.hid (hot.out rfl)
          have hkb : decide (nm = k) = false := decide_eq_false hnk
          replace hpn := Lib.hid (hpn.out (by omega) (fun h => hnk h.2))
          clear hcf hof hol hcy hbq hot hnk
          go_wp2_with fail
          exact ⟨⟨j + 1, o, (sp : Int) + 1, by omega, rfl, rfl, by go_num, hnx.out, by omega, by omega, hpn.out, ho3.out, hba.out⟩, by simp [RowKit.intOf]; omega⟩
    · obtain rfl : j = cs.length := by omega
      have hfin := Lib.hid (hno.out o cs.length cs.length hpa (.inl rfl) (Nat.le_refl _) hop (.inl rfl))
      clear hno hyes hpa hop hx hsn hlt hs0 hb
      go_wp2
      go_ret2
      exact ⟨hfin.out, hbw⟩
end
end Go.Proofs.Ytpopbdladlahjaa
