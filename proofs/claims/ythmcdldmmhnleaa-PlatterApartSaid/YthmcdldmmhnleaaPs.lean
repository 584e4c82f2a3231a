/- Whether both disks hold the same, walked; and the question that each law asks first. -/
import Derived.Test.YthmcdldmmhnleaaPd
namespace Go.Proofs.Ythmcdldmmhnleaa
open Go.RowKit Go.Sort

theorem rdS_in (st : St) (i : Nat) (h : i < st.safe.length) : rdS st ((i : Nat) : Int) = st.now i := by
  unfold rdS; rw [if_pos (by omega), Int.toNat_natCast]
theorem rdE_in (st : St) (i : Nat) (h : i < st.safe.length) : rdE st ((i : Nat) : Int) = 0 := by
  unfold rdE; rw [if_pos (by omega)]
theorem read_in {Dk : (Nat → Prop) → World → Nat → St → Prop} (K : LandedDk Dk) (F : Nat → Prop) (W : World) (p : Nat) (st : St) (i : Nat) (h : Dk F W p st) (hok : st.Ok) (hi : i < st.safe.length) :
    Calls Try.prog 14 #[.pointer (some ⟨p, 0, none⟩), .int .i64 ((i : Nat) : Int)] W fun e W' => e = .returned (.tuple #[.string (st.now i), .int .i64 0]) ∧ Below W.heap.size W W' := by
  have := K.read F W p st ((i : Nat) : Int) h hok
  rw [rdS_in st i hi, rdE_in st i hi] at this
  exact this

set_option maxRecDepth 100000 in
set_option maxHeartbeats 4000000 in
theorem same_any {Dk : (Nat → Prop) → World → Nat → St → Prop} (K : LandedDk Dk) (F G : Nat → Prop) (W : World) (p m : Nat) (st : St) (h : Pair Dk F G W p m st) (hok : st.Ok) :
    Calls Try.prog 13 #[.pointer (some ⟨p, 0, none⟩), .pointer (some ⟨m, 0, none⟩)] W fun e W' => e = .returned (.bool true) ∧ Below W.heap.size W W' := by
  have h' := h.b
  obtain ⟨vs, va, vd, hV, hG⟩ := h'
  have c0 := hV.c0
  have c1 := hV.c1
  have c3 := hV.c3
  have hr1 := hV.o1
  rw [List.length_map] at hr1
  obtain ⟨ao1, k1, rfl, -⟩ := row_slice hr1
  obtain ⟨ao0, k0, rfl, -⟩ := row_slice hV.o0
  have hlt := hV.lt
  have hmany := hok.many
  have hfew := hok.few
  have hcS := Lib.hid (fun d os => Calls.regrown_of (w := W) (d := d) (os := os) (K.sectors F _ p st (K.later h.a (below_regrown W d os)) hok))
  have hcL := Lib.hid (fun d os => Calls.regrown_of (w := W) (d := d) (os := os) (K.later' F _ p st (K.later h.a (below_regrown W d os)) hok))
  have hcO := Lib.hid (fun d os => Calls.regrown_of (w := W) (d := d) (os := os) (K.ops F _ p st (K.later h.a (below_regrown W d os)) hok))
  have hI := Lib.hid (fun W i h hi => read_in K F W p st i h hok hi)
  have hN := Lib.hid (fun W i h hi => refnow_any G W m st h hok i hi)
  have hP := h
  clear hV hr1 hG h
  go_enter Try.func13, Try.ntmps13
  go_wp2
  have t0 := cell_regrown c0
  have t1 := cell_regrown c1
  have t3 := cell_regrown c3
  refine wp_region_quiet_below (by kernel_rfl) (by kernel_rfl) ?_
  repeat (quiet_step (first | with_reducible exact hcS.out _ _ | with_reducible exact hcL.out _ _ | with_reducible exact hcO.out _ _))
  refine wpQuiet_nil ?_
  intro w1 hw'
  obtain ⟨pq, hw''⟩ := hw'
  have hb : Below W.heap.size W w1 := by rw [hw'']; exact below_regrown _ _ _
  clear hw'' t0 t1 t3 hcS hcL hcO
  have d0 : w1.cell? ⟨m, 0, none⟩ = some (.slice ao0 st.safe.length k0) := by rw [hb.cell (p := ⟨m, 0, none⟩) hlt]; exact c0
  go_wp2
  go_loopw [40] (fun i wr => ∃ k : Nat, k ≤ st.safe.length ∧ i = .int .i64 k ∧ Below W.heap.size W wr) (fun i _ => (st.safe.length - intOf i).toNat)
  case atStart => exact ⟨0, by omega, rfl, hb⟩
  case round =>
    clear hb d0
    obtain ⟨k, hk, rfl, hb⟩ := hrel
    by_cases hkl : k < st.safe.length
    · have hPk := hP.later K hb
      go_wp2_with fail
      refine (hI.out _ k hPk.a hkl).mono ?_
      rintro e w2 ⟨rfl, hb2⟩
      replace hPk := hPk.later K hb2
      replace hb := hb.trans (hb2.mono hb.size)
      clear hb2
      go_wp2_with fail
      refine (hN.out _ k hPk.b hkl).mono ?_
      rintro e w3 ⟨rfl, rfl⟩
      go_wp2
      exact ⟨⟨k + 1, by omega, by go_num, hb⟩, by simp [intOf]; omega⟩
    · obtain rfl : k = st.safe.length := by omega
      go_wp2
      go_ret
      exact ⟨rfl, hb⟩
end Go.Proofs.Ythmcdldmmhnleaa
