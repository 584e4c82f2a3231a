/- Stage 9: the document's bytes of an account. No condition. -/
import Derived.Test.YtideooaefplbhaaDoorZAd
namespace Go.Proofs.YtideooaefplbhaaDoor
open Go.RowKit Go.Sort Wm Cr

/-- A contract asked behind a first world. -/
theorem ask_behind {W0 W : World} (h : Below W0.heap.size W0 W) {f : FuncId} {args : Array Value} {R : Ending → Prop} (hc : Calls Tryd.prog f args W fun e W' => R e ∧ Below W.heap.size W W') :
    Calls Tryd.prog f args W fun e W' => R e ∧ Below W0.heap.size W0 W' := by
  refine hc.mono ?_
  rintro e w2 ⟨hr, hb⟩
  exact ⟨hr, h.trans (hb.mono h.size)⟩
theorem accB_join (a : Acct) : accB a = ((((numB a.Id ++ numB a.DebitsPending) ++ numB a.DebitsPosted) ++ numB a.CreditsPending) ++ numB a.CreditsPosted) ++ intB 4 a.Ledger ++ intB 2 a.Code ++ intB 2 a.Flags ++ intB 8 a.Stamp := rfl
set_option maxRecDepth 100000 in
set_option maxHeartbeats 2000000 in
theorem refbytes_acct (a : Acct) (w : World) : Calls Tryd.prog 19 #[acctV a] w fun e w' => e = .returned (.string (accB a)) ∧ Below w.heap.size w w' := by
  have hbx := BoxAt.new w a.cells 26
  have hbl : Below w.heap.size w (w.alloc (.cells a.cells.toArray 26)) := (Below.refl _ _).alloc (Nat.le_refl _) _
  obtain ⟨W0, hW0⟩ : ∃ W0, W0 = w.alloc (.cells a.cells.toArray 26) := ⟨_, rfl⟩
  rw [← hW0] at hbx hbl
  have n0 := Lib.hid (fun W (h : Below W0.heap.size W0 W) => ask_behind h (refbytesN_any a.Id W))
  have n1 := Lib.hid (fun W (h : Below W0.heap.size W0 W) => ask_behind h (refbytesN_any a.DebitsPending W))
  have n2 := Lib.hid (fun W (h : Below W0.heap.size W0 W) => ask_behind h (refbytesN_any a.DebitsPosted W))
  have n3 := Lib.hid (fun W (h : Below W0.heap.size W0 W) => ask_behind h (refbytesN_any a.CreditsPending W))
  have n4 := Lib.hid (fun W (h : Below W0.heap.size W0 W) => ask_behind h (refbytesN_any a.CreditsPosted W))
  have i0 := Lib.hid (fun W (h : Below W0.heap.size W0 W) => ask_behind h (refint_any 4 a.Ledger W))
  have i1 := Lib.hid (fun W (h : Below W0.heap.size W0 W) => ask_behind h (refint_any 2 a.Code W))
  have i2 := Lib.hid (fun W (h : Below W0.heap.size W0 W) => ask_behind h (refint_any 2 a.Flags W))
  have i3 := Lib.hid (fun W (h : Below W0.heap.size W0 W) => ask_behind h (refint_any 8 a.Stamp W))
  have hj := Lib.hid (accB_join a)
  have hg := Lib.hid (fun W (hb : Below W0.heap.size W0 W) => (hbx.later hb).acct hb)
  have hz0 := numB_size a.Id
  have hz1 := numB_size a.DebitsPending
  have hz2 := numB_size a.DebitsPosted
  have hz3 := numB_size a.CreditsPending
  have hz4 := numB_size a.CreditsPosted
  have hy4 : (intB 4 a.Ledger).size = 4 := by rw [intB_size]; rfl
  have hy5 : (intB 2 a.Code).size = 2 := by rw [intB_size]; rfl
  have hy6 : (intB 2 a.Flags).size = 2 := by rw [intB_size]; rfl
  have hy7 := int8_size a.Stamp
  rw [hj.out, acctV_eq]
  unfold numV at n0 n1 n2 n3 n4
  generalize numB a.Id = B0 at *
  generalize numB a.DebitsPending = B1 at *
  generalize numB a.DebitsPosted = B2 at *
  generalize numB a.CreditsPending = B3 at *
  generalize numB a.CreditsPosted = B4 at *
  generalize intB 4 a.Ledger = B5 at *
  generalize intB 2 a.Code = B6 at *
  generalize intB 2 a.Flags = B7 at *
  generalize intB 8 a.Stamp = B8 at *
  have q1 : (B0 ++ B1).size = 32 := by rw [ByteArray.size_append]; omega
  have q2 : (B0 ++ B1 ++ B2).size = 48 := by rw [ByteArray.size_append]; omega
  have q3 : (B0 ++ B1 ++ B2 ++ B3).size = 64 := by rw [ByteArray.size_append]; omega
  have q4 : (B0 ++ B1 ++ B2 ++ B3 ++ B4).size = 80 := by rw [ByteArray.size_append]; omega
  have q5 : (B0 ++ B1 ++ B2 ++ B3 ++ B4 ++ B5).size = 84 := by rw [ByteArray.size_append]; omega
  have q6 : (B0 ++ B1 ++ B2 ++ B3 ++ B4 ++ B5 ++ B6).size = 86 := by rw [ByteArray.size_append]; omega
  have q7 : (B0 ++ B1 ++ B2 ++ B3 ++ B4 ++ B5 ++ B6 ++ B7).size = 88 := by rw [ByteArray.size_append]; omega
  have hd := Lib.hid (fun W (h : Below W0.heap.size W0 W) => h.drew)
  have hm2 := Below.refl W0.heap.size W0
  have hm2d := hm2.drew
  go_enter Tryd.func19, Tryd.ntmps19
  go_wp2_with fail
  dsimp only [Acct.cells] at hW0
  rw [← hW0]
  replace hW0 := Lib.hid hW0
  go_region_held3 (fun w' => w'.cell? ⟨w.heap.size, 0, none⟩ = some (.int .u64 ((hiN a.Id : Nat) : Int)) ∧ w'.cell? ⟨w.heap.size, 1, none⟩ = some (.int .u64 ((loN a.Id : Nat) : Int)) ∧ w'.cell? ⟨w.heap.size, 2, none⟩ = some (.int .u64 ((hiN a.DebitsPending : Nat) : Int)) ∧ w'.cell? ⟨w.heap.size, 3, none⟩ = some (.int .u64 ((loN a.DebitsPending : Nat) : Int)) ∧ w'.cell? ⟨w.heap.size, 4, none⟩ = some (.int .u64 ((hiN a.DebitsPosted : Nat) : Int)) ∧ w'.cell? ⟨w.heap.size, 5, none⟩ = some (.int .u64 ((loN a.DebitsPosted : Nat) : Int)) ∧ w'.cell? ⟨w.heap.size, 6, none⟩ = some (.int .u64 ((hiN a.CreditsPending : Nat) : Int)) ∧ w'.cell? ⟨w.heap.size, 7, none⟩ = some (.int .u64 ((loN a.CreditsPending : Nat) : Int)) ∧ w'.cell? ⟨w.heap.size, 8, none⟩ = some (.int .u64 ((hiN a.CreditsPosted : Nat) : Int)) ∧ w'.cell? ⟨w.heap.size, 9, none⟩ = some (.int .u64 ((loN a.CreditsPosted : Nat) : Int)) ∧ w'.cell? ⟨w.heap.size, 10, none⟩ = some (.int .i64 a.Ledger) ∧ w'.cell? ⟨w.heap.size, 11, none⟩ = some (.int .i64 a.Code) ∧ w'.cell? ⟨w.heap.size, 12, none⟩ = some (.int .i64 a.Flags) ∧ w'.cell? ⟨w.heap.size, 13, none⟩ = some (.int .i64 a.Stamp) ∧ w.heap.size < w'.heap.size ∧ Below W0.heap.size W0 w')
    (first | exact hg.out _ hmx | exact hg.out _ (hd.out _ hmx) | exact hg.out _ hm2 | exact hg.out _ hm2d)
    (first | (go_at_call 33; with_reducible refine (n0.out _ (by first | exact hmx | exact hd.out _ hmx | exact hm2 | exact hm2d)).mono ?_; rintro e wx ⟨rfl, hmx⟩) | (go_at_call 33; with_reducible refine (n1.out _ (by first | exact hmx | exact hd.out _ hmx | exact hm2 | exact hm2d)).mono ?_; rintro e wx ⟨rfl, hmx⟩) | (go_at_call 33; with_reducible refine (n2.out _ (by first | exact hmx | exact hd.out _ hmx | exact hm2 | exact hm2d)).mono ?_; rintro e wx ⟨rfl, hmx⟩) | (go_at_call 33; with_reducible refine (n3.out _ (by first | exact hmx | exact hd.out _ hmx | exact hm2 | exact hm2d)).mono ?_; rintro e wx ⟨rfl, hmx⟩) | (go_at_call 33; with_reducible refine (n4.out _ (by first | exact hmx | exact hd.out _ hmx | exact hm2 | exact hm2d)).mono ?_; rintro e wx ⟨rfl, hmx⟩))
  rename_i hH
  have hm3 := hH.2.2.2.2.2.2.2.2.2.2.2.2.2.2.2
  have hm3d := hm3.drew
  clear hmx hH n0 n1 n2 n3 n4 hm2 hm2d
  go_wp2_with fail
  go_region_held3 (fun w' => w'.cell? ⟨w.heap.size, 0, none⟩ = some (.int .u64 ((hiN a.Id : Nat) : Int)) ∧ w'.cell? ⟨w.heap.size, 1, none⟩ = some (.int .u64 ((loN a.Id : Nat) : Int)) ∧ w'.cell? ⟨w.heap.size, 2, none⟩ = some (.int .u64 ((hiN a.DebitsPending : Nat) : Int)) ∧ w'.cell? ⟨w.heap.size, 3, none⟩ = some (.int .u64 ((loN a.DebitsPending : Nat) : Int)) ∧ w'.cell? ⟨w.heap.size, 4, none⟩ = some (.int .u64 ((hiN a.DebitsPosted : Nat) : Int)) ∧ w'.cell? ⟨w.heap.size, 5, none⟩ = some (.int .u64 ((loN a.DebitsPosted : Nat) : Int)) ∧ w'.cell? ⟨w.heap.size, 6, none⟩ = some (.int .u64 ((hiN a.CreditsPending : Nat) : Int)) ∧ w'.cell? ⟨w.heap.size, 7, none⟩ = some (.int .u64 ((loN a.CreditsPending : Nat) : Int)) ∧ w'.cell? ⟨w.heap.size, 8, none⟩ = some (.int .u64 ((hiN a.CreditsPosted : Nat) : Int)) ∧ w'.cell? ⟨w.heap.size, 9, none⟩ = some (.int .u64 ((loN a.CreditsPosted : Nat) : Int)) ∧ w'.cell? ⟨w.heap.size, 10, none⟩ = some (.int .i64 a.Ledger) ∧ w'.cell? ⟨w.heap.size, 11, none⟩ = some (.int .i64 a.Code) ∧ w'.cell? ⟨w.heap.size, 12, none⟩ = some (.int .i64 a.Flags) ∧ w'.cell? ⟨w.heap.size, 13, none⟩ = some (.int .i64 a.Stamp) ∧ w.heap.size < w'.heap.size ∧ Below W0.heap.size W0 w')
    (first | exact hg.out _ hmy | exact hg.out _ (hd.out _ hmy) | exact hg.out _ hm3 | exact hg.out _ hm3d)
    (first | (go_at_call 34; with_reducible refine (i0.out _ (by first | exact hmy | exact hd.out _ hmy | exact hm3 | exact hm3d)).mono ?_; rintro e wy ⟨rfl, hmy⟩) | (go_at_call 34; with_reducible refine (i1.out _ (by first | exact hmy | exact hd.out _ hmy | exact hm3 | exact hm3d)).mono ?_; rintro e wy ⟨rfl, hmy⟩) | (go_at_call 34; with_reducible refine (i2.out _ (by first | exact hmy | exact hd.out _ hmy | exact hm3 | exact hm3d)).mono ?_; rintro e wy ⟨rfl, hmy⟩) | (go_at_call 34; with_reducible refine (i3.out _ (by first | exact hmy | exact hd.out _ hmy | exact hm3 | exact hm3d)).mono ?_; rintro e wy ⟨rfl, hmy⟩))
  rename_i hH2
  have hm4 := hH2.2.2.2.2.2.2.2.2.2.2.2.2.2.2.2
  go_wp2
  go_ret
  exact ⟨by first | rfl | simp, hbl.trans (hm4.mono hbl.size)⟩
end Go.Proofs.YtideooaefplbhaaDoor
