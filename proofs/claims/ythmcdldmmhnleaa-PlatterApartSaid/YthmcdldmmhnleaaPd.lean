/- A call on both disks, walked; and the question whether they hold the same. -/
import Derived.Test.YthmcdldmmhnleaaPl
namespace Go.Proofs.Ythmcdldmmhnleaa
open Go.RowKit Go.Sort

theorem St.Ok.tried_fit {st : St} (h : st.Ok) : st.tried.Fit := h.toFit.tried
set_option maxRecDepth 100000 in
set_option maxHeartbeats 4000000 in
theorem does_any {Dk : (Nat → Prop) → World → Nat → St → Prop} (K : LandedDk Dk) (F G : Nat → Prop) (W : World) (p m : Nat) (st : St) (h : Pair Dk F G W p m st) (hok : st.Ok) (c : Call) (hc : c.Wf) :
    Calls Try.prog 12 #[.pointer (some ⟨p, 0, none⟩), .pointer (some ⟨m, 0, none⟩), .agg c.cells.toArray] W fun e W' => e = .returned (.bool true) ∧ PairPost Dk F G p m (callSt st c) W W' := by
  obtain ⟨kind, n, data, mask, cut⟩ := c
  have hdt := hc.data
  have hmk := hc.mask
  dsimp only at hdt hmk
  show Calls _ _ #[.pointer (some ⟨p, 0, none⟩), .pointer (some ⟨m, 0, none⟩), .agg #[.int .i64 kind, .int .i64 n, .string data, .int .u64 ((mask : Nat) : Int), .int .i64 cut]] W _
  have hX := BoxAt.new W [.int .i64 kind, .int .i64 n, .string data, .int .u64 ((mask : Nat) : Int), .int .i64 cut] 31
  have hal : Below W.heap.size W (W.alloc (.cells #[.int .i64 kind, .int .i64 n, .string data, .int .u64 ((mask : Nat) : Int), .int .i64 cut] 31)) := (Below.refl _ _).alloc (Nat.le_refl _) _
  have hP := h.later K hal
  have nF : ¬ F W.heap.size := fun e => by have := K.near _ _ _ _ h.a _ e; omega
  have nG : ¬ G W.heap.size := fun e => by have := h.b.near _ e; omega
  have hend := Lib.hid (fun s2 w1 w2 (a : DkPost Dk F p s2 _ w1) (b : RefPost G m s2 w1 w2) => (pair_both K hP a b).earlier hal)
  have hendd := Lib.hid (fun s2 w1 w2 (a : DkPost Dk F p s2 _ w1) (b : RefPost G m s2 w1 w2) => ((pair_both K (hP.later K ((Below.refl _ _).drew)) a b).earlier ((Below.refl _ _).drew)).earlier hal)
  have hsame := Lib.hid (show PairPost Dk F G p m st W _ from (show PairPost Dk F G p m st _ _ from ⟨F, G, hP, Only.refl _ _, fun _ _ e => e, fun _ _ e => e⟩).earlier hal)
  by_cases h0 : kind = 0
  · subst h0
    have hcs := Lib.hid (show callSt st ⟨0, n, data, mask, cut⟩ = (st.write n data).2 from rfl)
    rw [hcs.out]
    have hI := Lib.hid (fun W h => K.write F W p st n data h hok hdt)
    have hR := Lib.hid (fun W h => refwrite_any G W m st h hok n data hdt)
    have d1 := hX.spot 1 _ rfl
    have d2 := hX.spot 2 _ rfl
    have hll := hX.lt
    have hPd := hP.later K ((Below.refl _ _).drew)
    clear h hal hsame hend
    go_enter Try.func12, Try.ntmps12
    go_wp2_with fail
    generalize W.alloc (.cells #[.int .i64 0, .int .i64 n, .string data, .int .u64 ((mask : Nat) : Int), .int .i64 cut] 31) = wx at *
    generalize hBB : W.heap.size = B at *
    have hS3 : wx.cell? ⟨B, 1, none⟩ = some (.int .i64 n) ∧ wx.cell? ⟨B, 2, none⟩ = some (.string data) ∧ B < wx.heap.size := ⟨d1, d2, hll⟩
    go_region_held3 (fun w' => w'.cell? ⟨B, 1, none⟩ = some (.int .i64 n) ∧ w'.cell? ⟨B, 2, none⟩ = some (.string data) ∧ B < w'.heap.size)
      (first | exact hS3 | assumption | exact two_cells_only nF (by assumption) hp1.only | exact two_cells_only nG (by assumption) hp2.only | exact two_cells_call (by assumption) ((Below.refl _ _).drew))
      (first
        | (go_at_call 17; with_reducible refine (hI.out _ hPd.a).mono ?_; rintro e w1 ⟨rfl, hp1⟩)
        | (go_at_call 25; with_reducible refine (hR.out _ (hPd.ref K hp1)).mono ?_; rintro e w2 ⟨rfl, hp2⟩))
    go_wp2
    go_ret
    exact ⟨by simp, hendd.out _ _ _ hp1 hp2⟩
  · by_cases h1 : kind = 1
    · subst h1
      have hcs := Lib.hid (show callSt st ⟨1, n, data, mask, cut⟩ = st.sync.2 from rfl)
      rw [hcs.out]
      have hI := Lib.hid (fun W h => K.sync F W p st h hok)
      have hR := Lib.hid (fun W h => refsync_any G W m st h hok)
      clear h hsame hendd
      go_enter Try.func12, Try.ntmps12
      go_wp2_with fail
      refine (hI.out _ hP.a).mono ?_
      rintro e w1 ⟨rfl, hp1⟩
      go_wp2_with fail
      refine (hR.out _ (hP.ref K hp1)).mono ?_
      rintro e w2 ⟨rfl, hp2⟩
      go_wp2
      go_ret
      exact ⟨by simp, hend.out _ _ _ hp1 hp2⟩
    · by_cases h2 : kind = 2
      · subst h2
        have hcs := Lib.hid (show callSt st ⟨2, n, data, mask, cut⟩ = st.crashed mask n cut from rfl)
        rw [hcs.out]
        have hI := Lib.hid (fun W h => K.crash F W p st mask n cut h hok (by omega))
        have hR := Lib.hid (fun W h => refcrash_any G W m st h hok.toFit mask (by omega) n cut)
        clear h hsame hendd
        go_enter Try.func12, Try.ntmps12
        go_wp2_with fail
        refine (hI.out _ hP.a).mono ?_
        rintro e w1 ⟨rfl, hp1⟩
        have hX1 := hX.only hp1.only nF
        have d1 := hX1.spot 1 _ rfl
        have d3 := hX1.spot 3 _ rfl
        have d4 := hX1.spot 4 _ rfl
        have hll := hX1.lt
        go_wp2_with fail
        refine (hR.out _ (hP.ref K hp1)).mono ?_
        rintro e w2 ⟨rfl, hp2⟩
        have hp3 : ∃ c4v, w2.cell? ⟨m, 4, none⟩ = some c4v ∧ w2.frozen? ⟨m, 4, none⟩ = false ∧ m < w2.heap.size ∧ RefPost G m (st.crashed mask n cut) w1 (w2.setCell ⟨m, 4, none⟩ (.int .i64 0)) := by
          obtain ⟨G', ⟨vs, va, vd, hV, hG⟩, hO, hN⟩ := hp2
          refine ⟨_, hV.c4, hV.fz 4, hV.lt, G', ⟨vs, va, vd, hV.put4 0, hG⟩, ?_, hN⟩
          refine hO.setCell (fun hm => ?_) _
          exact hN m hm ((hG m).2 (.inl rfl))
        obtain ⟨c4v, c4, f4, l4, hp4⟩ := hp3
        replace hp4 := Lib.hid hp4
        clear hp2
        go_wp2
        go_ret
        exact ⟨rfl, hend.out _ _ _ hp1 hp4.out⟩
      · by_cases h3 : kind = 3
        · subst h3
          have hcs := Lib.hid (show callSt st ⟨3, n, data, mask, cut⟩ = st.armed n from rfl)
          rw [hcs.out]
          have hI := Lib.hid (fun W h => K.arm F W p st n h hok)
          have hP' := h.b
          clear h hsame hendd
          go_enter Try.func12, Try.ntmps12
          go_wp2_with fail
          refine (hI.out _ hP.a).mono ?_
          rintro e w1 ⟨rfl, hp1⟩
          have hX1 := hX.only hp1.only nF
          have d1 := hX1.spot 1 _ rfl
          have hll := hX1.lt
          have hp3 : ∃ c4v, w1.cell? ⟨m, 4, none⟩ = some c4v ∧ w1.frozen? ⟨m, 4, none⟩ = false ∧ m < w1.heap.size ∧ RefPost G m (st.armed n) w1 (w1.setCell ⟨m, 4, none⟩ (.int .i64 (max n 0))) := by
            obtain ⟨vs, va, vd, hV, hG⟩ := hP.ref K hp1
            exact ⟨_, hV.c4, hV.fz 4, hV.lt, G, ⟨vs, va, vd, hV.put4 _, hG⟩, (Only.refl _ _).setCell (fun _ => (hG m).2 (.inl rfl)) _, fun _ _ e => e⟩
          obtain ⟨c4v, c4, f4, l4, hp4⟩ := hp3
          replace hp4 := Lib.hid hp4
          go_wp2
          go_ret
          exact ⟨rfl, hend.out _ _ _ hp1 hp4.out⟩
        · have hcs := Lib.hid (show callSt st ⟨kind, n, data, mask, cut⟩ = st by unfold callSt; rw [if_neg h0, if_neg h1, if_neg h2, if_neg h3])
          rw [hcs.out]
          have e0 : (kind == 0) = false := by rw [beq_eq_false_iff_ne]; exact h0
          have e1 : (kind == 1) = false := by rw [beq_eq_false_iff_ne]; exact h1
          have e2 : (kind == 2) = false := by rw [beq_eq_false_iff_ne]; exact h2
          have e3 : (kind == 3) = false := by rw [beq_eq_false_iff_ne]; exact h3
          clear h hend hendd
          go_enter Try.func12, Try.ntmps12
          go_wp2
          go_ret
          exact ⟨rfl, hsame.out⟩
end Go.Proofs.Ythmcdldmmhnleaa
