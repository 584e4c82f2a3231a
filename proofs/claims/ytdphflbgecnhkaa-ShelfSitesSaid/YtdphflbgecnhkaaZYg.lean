/- Stage 26: the walk of ShelfSites. No condition but the landed package's. -/
import Derived.Test.YtdphflbgecnhkaaZYf
namespace Go.Proofs.Ytdphflbgecnhkaa
open Go.RowKit Go.Sort Wm Cr
attribute [local go_sem high] run_eql_num run_neq_num

theorem byte_at {x y : ByteArray} {i j k : Nat} (h : x.extract i j = y) (hj : j ≤ x.size) (hk : k < y.size) (hx : i + k < x.size) : x[i + k] = y[k] := by
  subst h
  rw [get_extract _ _ _ _ hj]
theorem idx_state {p : Place} (hg : goodPl p = true) (w : World) : (Instr.index 9 (.string (plcB p)) (.int .i64 14)).run Try.prog w = .ok (.int .u8 p.State) w := by
  have hz := plcB_size hg
  have h3 := ((goodPl_iff p).1 hg).2.2
  rw [run_index_string _ _ _ _ _ Try.underlying9, dif_pos (by omega)]
  have e : (plcB p)[14 + 0]'(by omega) = (tailB p.State)[0]'(by show 0 < 2; omega) := byte_at (plcB_parts hg).2.2 (by omega) (by show 0 < 2; omega) (by omega)
  have e2 : ((tailB p.State)[0]'(by show 0 < 2; omega)).toNat = p.State.toNat := by
    show (UInt8.ofNat p.State.toNat).toNat = _
    rw [UInt8.toNat_ofNat_of_lt' (by show p.State.toNat < 256; omega)]
  have e3 : ((plcB p)[14]'(by omega)).toNat = p.State.toNat := by rw [← e2]; exact congrArg UInt8.toNat e
  have e4 : ((((plcB p)[(14 : Int).toNat]'(by show 14 < _; omega)).toNat : Nat) : Int) = p.State := by
    show ((((plcB p)[14]'(by omega)).toNat : Nat) : Int) = p.State
    rw [e3]
    omega
  rw [e4]
theorem idx_one {p : Place} (hg : goodPl p = true) (w : World) : (Instr.index 9 (.string (plcB p)) (.int .i64 15)).run Try.prog w = .ok (.int .u8 1) w := by
  have hz := plcB_size hg
  rw [run_index_string _ _ _ _ _ Try.underlying9, dif_pos (by omega)]
  have e : (plcB p)[14 + 1]'(by omega) = (tailB p.State)[1]'(by show 1 < 2; omega) := byte_at (plcB_parts hg).2.2 (by omega) (by show 1 < 2; omega) (by omega)
  have e3 : ((plcB p)[15]'(by omega)).toNat = 1 := congrArg UInt8.toNat e
  have e4 : ((((plcB p)[(15 : Int).toNat]'(by show 15 < _; omega)).toNat : Nat) : Int) = 1 := by
    show ((((plcB p)[15]'(by omega)).toNat : Nat) : Int) = 1
    rw [e3]
    rfl
  rw [e4]
theorem str_eq (a b : ByteArray) : (a.toList == b.toList) = decide (a = b) := by
  rw [ByteArray.toList_eq, ByteArray.toList_eq]
  by_cases h : a = b
  · rw [decide_eq_true h, h]; exact beq_self_eq_true _
  · rw [decide_eq_false h]; exact beq_eq_false_iff_ne.2 (fun e => h (bytes_ext e))
section
variable {Mo : World → Prop}
set_option maxRecDepth 100000 in
set_option maxHeartbeats 4000000 in
theorem shelfSites_out (L : LandedSh Mo) (g a b : ByteArray) (hg : g.size ≤ 140737488351232) (ha : a.size ≤ 140737488351232) (hb : b.size ≤ 140737488351232) (st : Int) (hst : -9223372036854775808 ≤ st ∧ st ≤ 9223372036854775807) (w : World) (hM : Mo w)
    (hout : 100 < g.size + a.size + b.size ∨ goodPl ⟨g, a, st⟩ = false ∨ goodPl ⟨g, b, 0⟩ = false) : Calls Try.prog 4 #[.string g, .string a, .string b, .int .i64 st] w fun e w' => e = .returned (.bool true) ∧ Below w.heap.size w w' := by
  have hm0 := Hx.refl hM
  have hal := Lib.hid (fun l W (h : Hx Mo w W l) => h.ask L.later (shelfAlive_any L W h.mo))
  have k1 := Lib.hid (fun W => refgood26_any ⟨g, a, st⟩ ⟨hg, ha, hst⟩ W)
  have k2 := Lib.hid (fun W => refgood26_any ⟨g, b, 0⟩ ⟨hg, hb, ⟨by show (-9223372036854775808 : Int) ≤ 0; omega, by show (0 : Int) ≤ 9223372036854775807; omega⟩⟩ W)
  dsimp only at k1 k2
  have hbig : decide ((100 : Int) < (g.size : Int) + (a.size : Int) + (b.size : Int)) = decide (100 < g.size + a.size + b.size) := decide_eq_decide.2 (by omega)
  have hout2 : decide (100 < g.size + a.size + b.size) = true ∨ goodPl ⟨g, a, st⟩ = false ∨ goodPl ⟨g, b, 0⟩ = false := hout.imp_left decide_eq_true
  clear hout L hM hst
  generalize decide (100 < g.size + a.size + b.size) = c0 at *
  generalize goodPl ⟨g, a, st⟩ = c1 at *
  generalize goodPl ⟨g, b, 0⟩ = c2 at *
  cases c0 <;> cases c1 <;> cases c2
  case false.true.true => rcases hout2 with h | h | h <;> cases h
  all_goals
    clear hout2
    go_enter Try.func4, Try.ntmps4
    go_wp2_with fail
    refine (hal.out _ _ hm0).mono ?_
    rintro e w1 ⟨rfl, hm1⟩
    go_wp2_with (first
      | (go_at_call 7; with_reducible refine (k1.out _).mono ?_; rintro e W1 ⟨rfl, rfl⟩)
      | (go_at_call 7; with_reducible refine (k2.out _).mono ?_; rintro e W1 ⟨rfl, rfl⟩))
    all_goals
      go_ret
      exact ⟨rfl, hm1.bel⟩
set_option maxRecDepth 100000 in
set_option maxHeartbeats 4000000 in
theorem shelfSites_in (L : LandedSh Mo) (g a b : ByteArray) (st st3 : Int) (h3 : (st = 0 ∧ st3 = 1) ∨ (st = 1 ∧ st3 = 2) ∨ (st = 2 ∧ st3 = 0)) (w : World) (hM : Mo w)
    (hsz : ¬ 100 < g.size + a.size + b.size) (h1 : goodPl ⟨g, a, st⟩ = true) (h2 : goodPl ⟨g, b, 0⟩ = true) : Calls Try.prog 4 #[.string g, .string a, .string b, .int .i64 st] w fun e w' => e = .returned (.bool true) ∧ Below w.heap.size w w' := by
  have hst : 0 ≤ st ∧ st ≤ 2 ∧ 0 ≤ st3 ∧ st3 ≤ 2 ∧ st ≠ st3 := by omega
  obtain ⟨a1, a2, -⟩ := (goodPl_iff _).1 h1
  obtain ⟨b1, b2, -⟩ := (goodPl_iff _).1 h2
  have g2 : goodPl ⟨g, b, st⟩ = true := (goodPl_iff _).2 ⟨a1, b2, hst.1, hst.2.1⟩
  have g3 : goodPl ⟨g, a, st3⟩ = true := (goodPl_iff _).2 ⟨a1, a2, hst.2.2.1, hst.2.2.2.1⟩
  have hm0 := Hx.refl hM
  have hal := Lib.hid (fun l W (h : Hx Mo w W l) => h.ask L.later (shelfAlive_any L W h.mo))
  have k1 := Lib.hid (fun W => refgood26_any ⟨g, a, st⟩ (good_wf h1) W)
  have k2 := Lib.hid (fun W => refgood26_any ⟨g, b, 0⟩ (good_wf h2) W)
  dsimp only at k1 k2
  rw [h1] at k1
  rw [h2] at k2
  have i1 := Lib.hid (fun l W (h : Hx Mo w W l) => h.ask L.later (L.id ⟨g, a, st⟩ W (good_wf h1) h.mo))
  have i2 := Lib.hid (fun l W (h : Hx Mo w W l) => h.ask L.later (L.id ⟨g, b, st⟩ W (good_wf g2) h.mo))
  have i3 := Lib.hid (fun l W (h : Hx Mo w W l) => h.ask L.later (L.id ⟨g, a, st3⟩ W (good_wf g3) h.mo))
  rw [h1, placeV_eq] at i1
  rw [g2, placeV_eq] at i2
  rw [g3, placeV_eq] at i3
  have kb := Lib.hid (fun l W (h : Hx Mo w W l) => h.ask L.later (refbytes_any (idPl ⟨g, a, st⟩) W))
  have hnb : (⟨(bytesL (idPl ⟨g, a, st⟩)).toArray⟩ : ByteArray) = plcB ⟨g, a, st⟩ := idPl_bytes h1
  rw [hnb] at kb
  have x14 := fun w => idx_state h1 w
  have x15 := fun w => idx_one h1 w
  have hlat := Lib.hid L.later
  have hbig : decide ((100 : Int) < (g.size : Int) + (a.size : Int) + (b.size : Int)) = false := decide_eq_false (by omega)
  have hz1 : g.size ≤ 100 := by omega
  have hz2 : a.size ≤ 100 := by omega
  have hz3 : b.size ≤ 100 := by omega
  have hd : decide (idPl ⟨g, a, st⟩ = idPl ⟨g, b, st⟩) = decide (a = b) := decide_eq_decide.2 ⟨fun e => congrArg Place.Site (idPl_inj h1 g2 e), fun e => by rw [e]⟩
  have hne : decide (idPl ⟨g, a, st⟩ = idPl ⟨g, a, st3⟩) = false := decide_eq_false (fun e => hst.2.2.2.2 (congrArg Place.State (idPl_inj h1 g3 e)))
  have hab := str_eq a b
  dsimp only at i1 i2 i3 x14
  generalize plcB ⟨g, a, st⟩ = X at *
  generalize idPl ⟨g, a, st⟩ = n1 at *
  generalize idPl ⟨g, b, st⟩ = n2 at *
  generalize idPl ⟨g, a, st3⟩ = n3 at *
  generalize decide (a = b) = d at *
  clear L hM hnb h1 h2 g2 g3 a1 a2 b1 b2 hst hsz
  have e1 := fun w => run_eql_num n1 n2 w
  have e2 := fun w => run_neq_num n1 n3 w
  unfold numV at i1 i2 i3 kb e1 e2
  rcases h3 with ⟨rfl, rfl⟩ | ⟨rfl, rfl⟩ | ⟨rfl, rfl⟩ <;> cases d
  all_goals
    go_enter Try.func4, Try.ntmps4
    go_wp2_with fail
    refine (hal.out _ _ hm0).mono ?_
    rintro e w1 ⟨rfl, hm1⟩
    go_wp2_with (first
      | (go_at_call 7; with_reducible refine (k1.out _).mono ?_; rintro e W1 ⟨rfl, rfl⟩)
      | (go_at_call 7; with_reducible refine (k2.out _).mono ?_; rintro e W1 ⟨rfl, rfl⟩))
    refine (i1.out _ _ hm1).mono ?_
    rintro e w2 ⟨rfl, hm2⟩
    have hm3 := hm2.new hlat.out [.int .u64 ((hiN n1 : Nat) : Int), .int .u64 ((loN n1 : Nat) : Int)] 33
    go_wp2_with fail
    refine (i2.out _ _ hm3).mono ?_
    rintro e w4 ⟨rfl, hm4⟩
    have hm5 := hm4.new hlat.out [.int .u64 ((hiN n2 : Nat) : Int), .int .u64 ((loN n2 : Nat) : Int)] 33
    go_wp2_with fail
    refine (i3.out _ _ hm5).mono ?_
    rintro e w6 ⟨rfl, hm6⟩
    have hm7 := hm6.new hlat.out [.int .u64 ((hiN n3 : Nat) : Int), .int .u64 ((loN n3 : Nat) : Int)] 33
    have y0 := (hm6.box (w2.heap.size, [.int .u64 ((hiN n1 : Nat) : Int), .int .u64 ((loN n1 : Nat) : Int)]) (by simp)).spot 0 _ rfl
    have y1 := (hm6.box (w2.heap.size, [.int .u64 ((hiN n1 : Nat) : Int), .int .u64 ((loN n1 : Nat) : Int)]) (by simp)).spot 1 _ rfl
    have yl := (hm6.box (w2.heap.size, [.int .u64 ((hiN n1 : Nat) : Int), .int .u64 ((loN n1 : Nat) : Int)]) (by simp)).lt
    go_wp2_with fail
    refine (kb.out _ _ hm7).mono ?_
    rintro e w8 ⟨rfl, hm8⟩
    clear y0 y1 yl
    have y0 := (hm8.box (w2.heap.size, [.int .u64 ((hiN n1 : Nat) : Int), .int .u64 ((loN n1 : Nat) : Int)]) (by simp)).spot 0 _ rfl
    have y1 := (hm8.box (w2.heap.size, [.int .u64 ((hiN n1 : Nat) : Int), .int .u64 ((loN n1 : Nat) : Int)]) (by simp)).spot 1 _ rfl
    have yl := (hm8.box (w2.heap.size, [.int .u64 ((hiN n1 : Nat) : Int), .int .u64 ((loN n1 : Nat) : Int)]) (by simp)).lt
    have u0 := (hm8.box (w4.heap.size, [.int .u64 ((hiN n2 : Nat) : Int), .int .u64 ((loN n2 : Nat) : Int)]) (by simp)).spot 0 _ rfl
    have u1 := (hm8.box (w4.heap.size, [.int .u64 ((hiN n2 : Nat) : Int), .int .u64 ((loN n2 : Nat) : Int)]) (by simp)).spot 1 _ rfl
    have ul := (hm8.box (w4.heap.size, [.int .u64 ((hiN n2 : Nat) : Int), .int .u64 ((loN n2 : Nat) : Int)]) (by simp)).lt
    have v0 := (hm8.box (w6.heap.size, [.int .u64 ((hiN n3 : Nat) : Int), .int .u64 ((loN n3 : Nat) : Int)]) (by simp)).spot 0 _ rfl
    have v1 := (hm8.box (w6.heap.size, [.int .u64 ((hiN n3 : Nat) : Int), .int .u64 ((loN n3 : Nat) : Int)]) (by simp)).spot 1 _ rfl
    have vl := (hm8.box (w6.heap.size, [.int .u64 ((hiN n3 : Nat) : Int), .int .u64 ((loN n3 : Nat) : Int)]) (by simp)).lt
    go_wp2
    go_ret
    exact ⟨rfl, hm8.bel⟩
theorem shelfSites_any (L : LandedSh Mo) (g a b : ByteArray) (hg : g.size ≤ 140737488351232) (ha : a.size ≤ 140737488351232) (hb : b.size ≤ 140737488351232) (st : Int) (hst : -9223372036854775808 ≤ st ∧ st ≤ 9223372036854775807) (w : World) (hM : Mo w) :
    Calls Try.prog 4 #[.string g, .string a, .string b, .int .i64 st] w fun e w' => e = .returned (.bool true) ∧ Below w.heap.size w w' := by
  by_cases hout : 100 < g.size + a.size + b.size ∨ goodPl ⟨g, a, st⟩ = false ∨ goodPl ⟨g, b, 0⟩ = false
  · exact shelfSites_out L g a b hg ha hb st hst w hM hout
  · have h0 : ¬ 100 < g.size + a.size + b.size := fun e => hout (.inl e)
    have h1 : goodPl ⟨g, a, st⟩ = true := by
      cases h : goodPl ⟨g, a, st⟩
      · exact absurd (.inr (.inl h)) hout
      · rfl
    have h2 : goodPl ⟨g, b, 0⟩ = true := by
      cases h : goodPl ⟨g, b, 0⟩
      · exact absurd (.inr (.inr h)) hout
      · rfl
    have h3 := ((goodPl_iff _).1 h1).2.2
    dsimp only at h3
    have h4 : st = 0 ∨ st = 1 ∨ st = 2 := by omega
    rcases h4 with h4 | h4 | h4
    · exact shelfSites_in L g a b st 1 (.inl ⟨h4, rfl⟩) w hM h0 h1 h2
    · exact shelfSites_in L g a b st 2 (.inr (.inl ⟨h4, rfl⟩)) w hM h0 h1 h2
    · exact shelfSites_in L g a b st 0 (.inr (.inr ⟨h4, rfl⟩)) w hM h0 h1 h2
end
end Go.Proofs.Ytdphflbgecnhkaa
