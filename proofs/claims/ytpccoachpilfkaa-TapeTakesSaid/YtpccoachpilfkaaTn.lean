/- The landed reader where there is none. No condition. -/
import Derived.Test.YtpccoachpilfkaaTv
namespace Go.Proofs.Ytpccoachpilfkaa
open Go.RowKit Wm Go.Lib

set_option maxRecDepth 100000 in
theorem nilRaw_any (n : Int) (W : World) : Calls Try.prog 18 #[.pointer none, .int .i64 n] W fun e W' => e = .returned (.string ⟨#[]⟩) ∧ W = W' := by
  go_enter Try.func18, Try.ntmps18
  go_wp2
  go_ret
  exact ⟨rfl, rfl⟩
set_option maxRecDepth 100000 in
theorem nilInt_any (W : World) : Calls Try.prog 13 #[.pointer none, .int .i64 1] W fun e W' => e = .returned (.int .i64 0) ∧ Below W.heap.size W W' := by
  have hne := Lib.hid (fun w => nearest_any 1 w)
  have hr := Lib.hid nilRaw_any
  go_enter Try.func13, Try.ntmps13
  go_wp2_with fail
  refine (hne.out _).mono ?_
  rintro e W1 ⟨rfl, rfl⟩
  go_wp2_with fail
  refine (hr.out _ _).mono ?_
  rintro e W2 ⟨rfl, rfl⟩
  go_wp2
  refine wp_loop_rounds 1 ?_
  rw [rounds_succ]
  go_wp2
  go_ret
  exact ⟨rfl, Below.refl _ _⟩
set_option maxRecDepth 100000 in
set_option maxHeartbeats 1000000 in
theorem nilNum_any (W : World) : Calls Try.prog 16 #[.pointer none] W fun e W' => e = .returned (.agg #[.int .u64 0, .int .u64 0]) ∧ Below W.heap.size W W' := by
  have hr := Lib.hid nilRaw_any
  have hf := Lib.hid (fun w => frombytes_short ⟨#[]⟩ (by show 0 < 16; omega) w)
  have hbox := BoxF.new W [.int .u64 0, .int .u64 0] 34
  go_enter Try.func16, Try.ntmps16
  go_wp2_with fail
  refine (hr.out _ _).mono ?_
  rintro e W1 ⟨rfl, rfl⟩
  go_wp2_with fail
  refine (hf.out _).mono ?_
  rintro e W2 ⟨rfl, hb2⟩
  have hbox2 := hbox.later hb2
  have d0 := hbox2.box.spot 0 _ rfl
  have d1 := hbox2.box.spot 1 _ rfl
  have g0 := hbox2.fz 0
  have g1 := hbox2.fz 1
  have l0 := hbox2.box.lt
  have hb3 : Below W.heap.size W W2 := ((Below.refl _ _).alloc (Nat.le_refl _) _).trans (hb2.mono (by simp))
  clear hbox hbox2 hb2
  go_wp2
  have e0 := cell_put0 (x := .int .u64 0) (y := .int .u64 0) d0 d1
  have e1 := cell_put1 (x := .int .u64 0) (y := .int .u64 0) d0 d1
  have hO : Below W.heap.size W ((W2.setCell ⟨W.heap.size, 0, none⟩ (.int .u64 0)).setCell ⟨W.heap.size, 1, none⟩ (.int .u64 0)) :=
    (hb3.setCell (p := ⟨W.heap.size, 0, none⟩) (Nat.le_refl _) _).setCell (p := ⟨W.heap.size, 1, none⟩) (Nat.le_refl _) _
  have hz : W.heap.size < ((W2.setCell ⟨W.heap.size, 0, none⟩ (.int .u64 0)).setCell ⟨W.heap.size, 1, none⟩ (.int .u64 0)).heap.size := by simpa using l0
  generalize (W2.setCell ⟨W.heap.size, 0, none⟩ (.int .u64 0)).setCell ⟨W.heap.size, 1, none⟩ (.int .u64 0) = W3 at *
  have hal : ∀ o, Below W3.heap.size W3 (W3.alloc o) := fun o => (Below.refl _ _).alloc (Nat.le_refl _) o
  refine bodyPost_ret (v := .agg #[.int .u64 0, .int .u64 0]) ?_ rfl ⟨rfl, ?_⟩
  · have k0 : ∀ o, (W3.alloc o).cell? ⟨W.heap.size, 0, none⟩ = some (.int .u64 0) := fun o => by rw [(hal o).cell (p := ⟨W.heap.size, 0, none⟩) hz]; exact e0
    have k1 : ∀ o, (W3.alloc o).cell? ⟨W.heap.size, 1, none⟩ = some (.int .u64 0) := fun o => by rw [(hal o).cell (p := ⟨W.heap.size, 1, none⟩) hz]; exact e1
    simp [results, Try.results16, go_sem, k0, k1]
  · exact hO.trans ((hal _).mono (by omega))
set_option maxRecDepth 100000 in
theorem nilFlag_any (W : World) : Calls Try.prog 17 #[.pointer none] W fun e W' => e = .returned (.bool false) ∧ Below W.heap.size W W' := by
  have hr := Lib.hid nilRaw_any
  go_enter Try.func17, Try.ntmps17
  go_wp2_with fail
  refine (hr.out _ _).mono ?_
  rintro e W1 ⟨rfl, rfl⟩
  go_wp2
  go_ret
  exact ⟨rfl, Below.refl _ _⟩
theorem landedNil : LandedNil where
  raw := fun W => (nilRaw_any 1 W).mono fun _ _ ⟨he, hw⟩ => ⟨he, by rw [hw]; exact Below.refl _ _⟩
  int := nilInt_any
  num := nilNum_any
  flag := nilFlag_any
  torn := fun W => by
    go_enter Try.func20, Try.ntmps20
    go_wp2
    go_ret
    exact ⟨rfl, Below.refl _ _⟩
  left := fun W => by
    go_enter Try.func21, Try.ntmps21
    go_wp2
    go_ret
    exact ⟨rfl, Below.refl _ _⟩
  fin := fun W => by
    go_enter Try.func19, Try.ntmps19
    go_wp2
    go_ret
    exact ⟨rfl, Below.refl _ _⟩
end Go.Proofs.Ytpccoachpilfkaa
