/- The landed accounts' Put. No condition but a text's size. -/
import Derived.Test.YtfdanlfiaoedfaaZKw
import Derived.Test.YtfdanlfiaoedfaaZMa
namespace Go.Proofs.Ytfdanlfiaoedfaa
open Go.RowKit Go.Sort Wm Cr

theorem accB_parts (a : Acct) (bs : ByteArray) : ((((((((bs ++ numB a.Id) ++ numB a.DebitsPending) ++ numB a.DebitsPosted) ++ numB a.CreditsPending) ++ numB a.CreditsPosted) ++ intB 4 a.Ledger) ++ intB 2 a.Code) ++ intB 2 a.Flags) ++ intB 8 a.Stamp = bs ++ accB a := by
  unfold accB
  simp only [ByteArray.append_assoc]
section
variable {Wr : (Nat → Prop) → World → Nat → ByteArray → Prop}
set_option maxRecDepth 100000 in
set_option maxHeartbeats 4000000 in
theorem acPut_good (K : LandedWr Wr) (F : Nat → Prop) (W : World) (p : Nat) (bs : ByteArray) (a : Acct) (ha : a.Wf) (hg : goodA a = true) (hW : Wr F W p bs) (hs : bs.size ≤ 15000) :
    Calls Try.prog 53 #[.pointer (some ⟨p, 0, none⟩), acctV a] W fun e W' => e = .returned (.tuple #[]) ∧ WrPost Wr F p (bs ++ accB (wantA a)) W W' := by
  have L0 := Wz.start K hW a.cells 58
  have kg := Lib.hid (fun W' (L : Wz Wr F W W' a.cells p bs) => L.ask K (acGood_any a W'))
  rw [hg, acctV_eq] at kg
  rw [acctV_eq]
  have hwg : wantA a = a := by unfold wantA; rw [hg]; rfl
  rw [hwg]
  obtain ⟨c, hca⟩ : ∃ c, c = a := ⟨_, rfl⟩
  have hcw : c.Wf := by rw [hca]; exact ha
  rw [← hca] at L0 kg ⊢
  clear hca ha hg hwg
  go_enter Try.func53, Try.ntmps53
  go_wp2_with fail
  refine (kg.out _ L0).mono ?_
  clear kg L0
  rintro e w1 ⟨rfl, L1⟩
  have i0 : ∀ w, (Instr.index 117 (.agg #[.int .u64 ((hiN c.Id : Nat) : Int), .int .u64 ((loN c.Id : Nat) : Int), .int .u64 ((hiN c.DebitsPending : Nat) : Int), .int .u64 ((loN c.DebitsPending : Nat) : Int), .int .u64 ((hiN c.DebitsPosted : Nat) : Int), .int .u64 ((loN c.DebitsPosted : Nat) : Int), .int .u64 ((hiN c.CreditsPending : Nat) : Int), .int .u64 ((loN c.CreditsPending : Nat) : Int), .int .u64 ((hiN c.CreditsPosted : Nat) : Int), .int .u64 ((loN c.CreditsPosted : Nat) : Int)]) (.int .i64 0)).run Try.prog w = .ok (numV c.Id) w := fun _ => by kernel_rfl
  have i1 : ∀ w, (Instr.index 117 (.agg #[.int .u64 ((hiN c.Id : Nat) : Int), .int .u64 ((loN c.Id : Nat) : Int), .int .u64 ((hiN c.DebitsPending : Nat) : Int), .int .u64 ((loN c.DebitsPending : Nat) : Int), .int .u64 ((hiN c.DebitsPosted : Nat) : Int), .int .u64 ((loN c.DebitsPosted : Nat) : Int), .int .u64 ((hiN c.CreditsPending : Nat) : Int), .int .u64 ((loN c.CreditsPending : Nat) : Int), .int .u64 ((hiN c.CreditsPosted : Nat) : Int), .int .u64 ((loN c.CreditsPosted : Nat) : Int)]) (.int .i64 1)).run Try.prog w = .ok (numV c.DebitsPending) w := fun _ => by kernel_rfl
  have i2 : ∀ w, (Instr.index 117 (.agg #[.int .u64 ((hiN c.Id : Nat) : Int), .int .u64 ((loN c.Id : Nat) : Int), .int .u64 ((hiN c.DebitsPending : Nat) : Int), .int .u64 ((loN c.DebitsPending : Nat) : Int), .int .u64 ((hiN c.DebitsPosted : Nat) : Int), .int .u64 ((loN c.DebitsPosted : Nat) : Int), .int .u64 ((hiN c.CreditsPending : Nat) : Int), .int .u64 ((loN c.CreditsPending : Nat) : Int), .int .u64 ((hiN c.CreditsPosted : Nat) : Int), .int .u64 ((loN c.CreditsPosted : Nat) : Int)]) (.int .i64 2)).run Try.prog w = .ok (numV c.DebitsPosted) w := fun _ => by kernel_rfl
  have i3 : ∀ w, (Instr.index 117 (.agg #[.int .u64 ((hiN c.Id : Nat) : Int), .int .u64 ((loN c.Id : Nat) : Int), .int .u64 ((hiN c.DebitsPending : Nat) : Int), .int .u64 ((loN c.DebitsPending : Nat) : Int), .int .u64 ((hiN c.DebitsPosted : Nat) : Int), .int .u64 ((loN c.DebitsPosted : Nat) : Int), .int .u64 ((hiN c.CreditsPending : Nat) : Int), .int .u64 ((loN c.CreditsPending : Nat) : Int), .int .u64 ((hiN c.CreditsPosted : Nat) : Int), .int .u64 ((loN c.CreditsPosted : Nat) : Int)]) (.int .i64 3)).run Try.prog w = .ok (numV c.CreditsPending) w := fun _ => by kernel_rfl
  have i4 : ∀ w, (Instr.index 117 (.agg #[.int .u64 ((hiN c.Id : Nat) : Int), .int .u64 ((loN c.Id : Nat) : Int), .int .u64 ((hiN c.DebitsPending : Nat) : Int), .int .u64 ((loN c.DebitsPending : Nat) : Int), .int .u64 ((hiN c.DebitsPosted : Nat) : Int), .int .u64 ((loN c.DebitsPosted : Nat) : Int), .int .u64 ((hiN c.CreditsPending : Nat) : Int), .int .u64 ((loN c.CreditsPending : Nat) : Int), .int .u64 ((hiN c.CreditsPosted : Nat) : Int), .int .u64 ((loN c.CreditsPosted : Nat) : Int)]) (.int .i64 4)).run Try.prog w = .ok (numV c.CreditsPosted) w := fun _ => by kernel_rfl
  have hc := Lib.hid (accB_parts c bs)
  have zn := numB_size
  have z4 : ∀ n, (intB 4 n).size = 4 := fun n => by rw [intB_size]; rfl
  have z2 : ∀ n, (intB 2 n).size = 2 := fun n => by rw [intB_size]; rfl
  have k1 := Lib.hid (fun W' (L : Wz Wr F W W' c.cells p bs) => L.put (S := fun e => e = .returned (.tuple #[])) (fun F' hF => K.num F' W' p bs c.Id hF (by omega) hcw.Id))
  have k2 := Lib.hid (fun W' (L : Wz Wr F W W' c.cells p (bs ++ numB c.Id)) => L.put (S := fun e => e = .returned (.tuple #[])) (fun F' hF => K.num F' W' p _ c.DebitsPending hF (by simp only [ByteArray.size_append, zn]; omega) hcw.DebitsPending))
  have k3 := Lib.hid (fun W' (L : Wz Wr F W W' c.cells p ((bs ++ numB c.Id) ++ numB c.DebitsPending)) => L.put (S := fun e => e = .returned (.tuple #[])) (fun F' hF => K.num F' W' p _ c.DebitsPosted hF (by simp only [ByteArray.size_append, zn]; omega) hcw.DebitsPosted))
  have k4 := Lib.hid (fun W' (L : Wz Wr F W W' c.cells p (((bs ++ numB c.Id) ++ numB c.DebitsPending) ++ numB c.DebitsPosted)) => L.put (S := fun e => e = .returned (.tuple #[])) (fun F' hF => K.num F' W' p _ c.CreditsPending hF (by simp only [ByteArray.size_append, zn]; omega) hcw.CreditsPending))
  have k5 := Lib.hid (fun W' (L : Wz Wr F W W' c.cells p ((((bs ++ numB c.Id) ++ numB c.DebitsPending) ++ numB c.DebitsPosted) ++ numB c.CreditsPending)) => L.put (S := fun e => e = .returned (.tuple #[])) (fun F' hF => K.num F' W' p _ c.CreditsPosted hF (by simp only [ByteArray.size_append, zn]; omega) hcw.CreditsPosted))
  have k6 := Lib.hid (fun W' (L : Wz Wr F W W' c.cells p (((((bs ++ numB c.Id) ++ numB c.DebitsPending) ++ numB c.DebitsPosted) ++ numB c.CreditsPending) ++ numB c.CreditsPosted)) => L.put (S := fun e => e = .returned (.tuple #[])) (fun F' hF => K.int F' W' p _ 4 c.Ledger hF (by simp only [ByteArray.size_append, zn]; omega) hcw.Ledger.1 hcw.Ledger.2))
  have k7 := Lib.hid (fun W' (L : Wz Wr F W W' c.cells p ((((((bs ++ numB c.Id) ++ numB c.DebitsPending) ++ numB c.DebitsPosted) ++ numB c.CreditsPending) ++ numB c.CreditsPosted) ++ intB 4 c.Ledger)) => L.put (S := fun e => e = .returned (.tuple #[])) (fun F' hF => K.int F' W' p _ 2 c.Code hF (by simp only [ByteArray.size_append, zn, z4]; omega) hcw.Code.1 hcw.Code.2))
  have k8 := Lib.hid (fun W' (L : Wz Wr F W W' c.cells p (((((((bs ++ numB c.Id) ++ numB c.DebitsPending) ++ numB c.DebitsPosted) ++ numB c.CreditsPending) ++ numB c.CreditsPosted) ++ intB 4 c.Ledger) ++ intB 2 c.Code)) => L.put (S := fun e => e = .returned (.tuple #[])) (fun F' hF => K.int F' W' p _ 2 c.Flags hF (by simp only [ByteArray.size_append, zn, z4, z2]; omega) hcw.Flags.1 hcw.Flags.2))
  have k9 := Lib.hid (fun W' (L : Wz Wr F W W' c.cells p ((((((((bs ++ numB c.Id) ++ numB c.DebitsPending) ++ numB c.DebitsPosted) ++ numB c.CreditsPending) ++ numB c.CreditsPosted) ++ intB 4 c.Ledger) ++ intB 2 c.Code) ++ intB 2 c.Flags)) => L.put (S := fun e => e = .returned (.tuple #[])) (fun F' hF => K.int F' W' p _ 8 c.Stamp hF (by simp only [ByteArray.size_append, zn, z4, z2]; omega) hcw.Stamp.1 hcw.Stamp.2))
  rw [hc.out] at k9
  have hlat := Lib.hid (fun x W1 W2 (L : Wz Wr F W W1 c.cells p x) (hb : Below W1.heap.size W1 W2) => L.later K hb)
  have hsp := Lib.hid (fun x W' (L : Wz Wr F W W' c.cells p x) => L.own.box.acct (a := c) trivial)
  clear zn z4 z2 hs hcw hc
  generalize hy9 : accB c = y9 at *
  replace hy9 := Lib.hid hy9
  generalize (((((((bs ++ numB c.Id) ++ numB c.DebitsPending) ++ numB c.DebitsPosted) ++ numB c.CreditsPending) ++ numB c.CreditsPosted) ++ intB 4 c.Ledger) ++ intB 2 c.Code) ++ intB 2 c.Flags = x8 at *
  generalize ((((((bs ++ numB c.Id) ++ numB c.DebitsPending) ++ numB c.DebitsPosted) ++ numB c.CreditsPending) ++ numB c.CreditsPosted) ++ intB 4 c.Ledger) ++ intB 2 c.Code = x7 at *
  generalize (((((bs ++ numB c.Id) ++ numB c.DebitsPending) ++ numB c.DebitsPosted) ++ numB c.CreditsPending) ++ numB c.CreditsPosted) ++ intB 4 c.Ledger = x6 at *
  generalize ((((bs ++ numB c.Id) ++ numB c.DebitsPending) ++ numB c.DebitsPosted) ++ numB c.CreditsPending) ++ numB c.CreditsPosted = x5 at *
  generalize (((bs ++ numB c.Id) ++ numB c.DebitsPending) ++ numB c.DebitsPosted) ++ numB c.CreditsPending = x4 at *
  generalize ((bs ++ numB c.Id) ++ numB c.DebitsPending) ++ numB c.DebitsPosted = x3 at *
  generalize (bs ++ numB c.Id) ++ numB c.DebitsPending = x2 at *
  generalize bs ++ numB c.Id = x1 at *
  obtain ⟨z0, z1, z2, z3, z4, z5, z6, z7, z8, z9, z10, z11, z12, z13, z14, -⟩ := hsp.out _ _ L1
  go_wp2_with fail
  clear z0 z1 z2 z3 z4 z5 z6 z7 z8 z9 z10 z11 z12 z13 z14
  go_loopw [21] (fun iv wr => (iv = .int .i64 0 ∧ Wz Wr F W wr c.cells p bs) ∨ (iv = .int .i64 1 ∧ Wz Wr F W wr c.cells p x1) ∨ (iv = .int .i64 2 ∧ Wz Wr F W wr c.cells p x2) ∨ (iv = .int .i64 3 ∧ Wz Wr F W wr c.cells p x3) ∨ (iv = .int .i64 4 ∧ Wz Wr F W wr c.cells p x4) ∨ (iv = .int .i64 5 ∧ Wz Wr F W wr c.cells p x5)) (fun iv _ => (5 - RowKit.intOf iv).toNat)
  case atStart => exact .inl ⟨rfl, L1⟩
  case round =>
    clear L1
    obtain ⟨rfl, L⟩ | ⟨rfl, L⟩ | ⟨rfl, L⟩ | ⟨rfl, L⟩ | ⟨rfl, L⟩ | ⟨rfl, L⟩ := hrel
    · have L2 := hlat.out _ _ _ L ((Below.refl _ _).alloc (Nat.le_refl _) (.cells #[.int .u64 ((hiN c.Id : Nat) : Int), .int .u64 ((loN c.Id : Nat) : Int)] 27))
      go_wp2_with fail
      refine (k1.out _ L2).mono ?_
      rintro e w9 ⟨rfl, L3⟩
      go_wp2_with fail
      exact ⟨.inr (.inl ⟨rfl, L3⟩), by decide⟩
    · have L2 := hlat.out _ _ _ L ((Below.refl _ _).alloc (Nat.le_refl _) (.cells #[.int .u64 ((hiN c.DebitsPending : Nat) : Int), .int .u64 ((loN c.DebitsPending : Nat) : Int)] 27))
      go_wp2_with fail
      refine (k2.out _ L2).mono ?_
      rintro e w9 ⟨rfl, L3⟩
      go_wp2_with fail
      exact ⟨.inr (.inr (.inl ⟨rfl, L3⟩)), by decide⟩
    · have L2 := hlat.out _ _ _ L ((Below.refl _ _).alloc (Nat.le_refl _) (.cells #[.int .u64 ((hiN c.DebitsPosted : Nat) : Int), .int .u64 ((loN c.DebitsPosted : Nat) : Int)] 27))
      go_wp2_with fail
      refine (k3.out _ L2).mono ?_
      rintro e w9 ⟨rfl, L3⟩
      go_wp2_with fail
      exact ⟨.inr (.inr (.inr (.inl ⟨rfl, L3⟩))), by decide⟩
    · have L2 := hlat.out _ _ _ L ((Below.refl _ _).alloc (Nat.le_refl _) (.cells #[.int .u64 ((hiN c.CreditsPending : Nat) : Int), .int .u64 ((loN c.CreditsPending : Nat) : Int)] 27))
      go_wp2_with fail
      refine (k4.out _ L2).mono ?_
      rintro e w9 ⟨rfl, L3⟩
      go_wp2_with fail
      exact ⟨.inr (.inr (.inr (.inr (.inl ⟨rfl, L3⟩)))), by decide⟩
    · have L2 := hlat.out _ _ _ L ((Below.refl _ _).alloc (Nat.le_refl _) (.cells #[.int .u64 ((hiN c.CreditsPosted : Nat) : Int), .int .u64 ((loN c.CreditsPosted : Nat) : Int)] 27))
      go_wp2_with fail
      refine (k5.out _ L2).mono ?_
      rintro e w9 ⟨rfl, L3⟩
      go_wp2_with fail
      exact ⟨.inr (.inr (.inr (.inr (.inr (⟨rfl, L3⟩))))), by decide⟩
    · obtain ⟨z0, z1, z2, z3, z4, z5, z6, z7, z8, z9, z10, z11, z12, z13, z14, -⟩ := hsp.out _ _ L
      go_wp2_with fail
      refine (k6.out _ L).mono ?_
      clear L z0 z1 z2 z3 z4 z5 z6 z7 z8 z9 z10 z11 z12 z13 z14
      rintro e w6 ⟨rfl, L⟩
      obtain ⟨z0, z1, z2, z3, z4, z5, z6, z7, z8, z9, z10, z11, z12, z13, z14, -⟩ := hsp.out _ _ L
      go_wp2_with fail
      refine (k7.out _ L).mono ?_
      clear L z0 z1 z2 z3 z4 z5 z6 z7 z8 z9 z10 z11 z12 z13 z14
      rintro e w7 ⟨rfl, L⟩
      obtain ⟨z0, z1, z2, z3, z4, z5, z6, z7, z8, z9, z10, z11, z12, z13, z14, -⟩ := hsp.out _ _ L
      go_wp2_with fail
      refine (k8.out _ L).mono ?_
      clear L z0 z1 z2 z3 z4 z5 z6 z7 z8 z9 z10 z11 z12 z13 z14
      rintro e w8 ⟨rfl, L⟩
      obtain ⟨z0, z1, z2, z3, z4, z5, z6, z7, z8, z9, z10, z11, z12, z13, z14, -⟩ := hsp.out _ _ L
      go_wp2_with fail
      refine (k9.out _ L).mono ?_
      clear L z0 z1 z2 z3 z4 z5 z6 z7 z8 z9 z10 z11 z12 z13 z14
      rintro e w9 ⟨rfl, L⟩
      go_wp2
      go_end0
      exact ⟨rfl, by rw [hy9.out]; exact L.post⟩
set_option maxRecDepth 100000 in
set_option maxHeartbeats 4000000 in
theorem acPut_none (K : LandedWr Wr) (F : Nat → Prop) (W : World) (p : Nat) (bs : ByteArray) (a : Acct) (hg : goodA a = false) (hW : Wr F W p bs) (hs : bs.size ≤ 15000) :
    Calls Try.prog 53 #[.pointer (some ⟨p, 0, none⟩), acctV a] W fun e W' => e = .returned (.tuple #[]) ∧ WrPost Wr F p (bs ++ accB (wantA a)) W W' := by
  have L0 := Wz.start K hW a.cells 58
  have kg := Lib.hid (fun W' (L : Wz Wr F W W' a.cells p bs) => L.ask K (acGood_any a W'))
  rw [hg, acctV_eq] at kg
  rw [acctV_eq]
  have hwg : wantA a = zeroA := by unfold wantA; rw [hg]; rfl
  rw [hwg]
  have hset := Lib.hid (fun W' (L : Wz Wr F W W' a.cells p bs) => L.set K (ds := (#[.int .u64 0, .int .u64 0, .int .u64 0, .int .u64 0, .int .u64 0, .int .u64 0, .int .u64 0, .int .u64 0, .int .u64 0, .int .u64 0, .int .i64 0, .int .i64 0, .int .i64 0, .int .i64 0] : Array Value).toList) rfl)
  have hzl : (#[.int .u64 0, .int .u64 0, .int .u64 0, .int .u64 0, .int .u64 0, .int .u64 0, .int .u64 0, .int .u64 0, .int .u64 0, .int .u64 0, .int .i64 0, .int .i64 0, .int .i64 0, .int .i64 0] : Array Value).toList = zeroA.cells := by kernel_rfl
  obtain ⟨c, hca⟩ : ∃ c, c = zeroA := ⟨_, rfl⟩
  have hcw : c.Wf := by rw [hca]; exact zeroA_wf
  rw [← hca] at hzl ⊢
  clear hca hg hwg
  go_enter Try.func53, Try.ntmps53
  go_wp2_with fail
  refine (kg.out _ L0).mono ?_
  clear kg L0
  rintro e w1 ⟨rfl, L1⟩
  have hth := Lib.hid L1.own.there
  have L2 := hset.out _ L1
  obtain ⟨w2, hw2⟩ : ∃ w2, w2 = w1.setCells W.heap.size 0 (#[.int .u64 0, .int .u64 0, .int .u64 0, .int .u64 0, .int .u64 0, .int .u64 0, .int .u64 0, .int .u64 0, .int .u64 0, .int .u64 0, .int .i64 0, .int .i64 0, .int .i64 0, .int .i64 0] : Array Value).toList := ⟨_, rfl⟩
  rw [← hw2, hzl] at L2
  replace hw2 := Lib.hid hw2
  clear hset hzl L1
  have L1 := L2
  clear L2
  have i0 : ∀ w, (Instr.index 117 (.agg #[.int .u64 ((hiN c.Id : Nat) : Int), .int .u64 ((loN c.Id : Nat) : Int), .int .u64 ((hiN c.DebitsPending : Nat) : Int), .int .u64 ((loN c.DebitsPending : Nat) : Int), .int .u64 ((hiN c.DebitsPosted : Nat) : Int), .int .u64 ((loN c.DebitsPosted : Nat) : Int), .int .u64 ((hiN c.CreditsPending : Nat) : Int), .int .u64 ((loN c.CreditsPending : Nat) : Int), .int .u64 ((hiN c.CreditsPosted : Nat) : Int), .int .u64 ((loN c.CreditsPosted : Nat) : Int)]) (.int .i64 0)).run Try.prog w = .ok (numV c.Id) w := fun _ => by kernel_rfl
  have i1 : ∀ w, (Instr.index 117 (.agg #[.int .u64 ((hiN c.Id : Nat) : Int), .int .u64 ((loN c.Id : Nat) : Int), .int .u64 ((hiN c.DebitsPending : Nat) : Int), .int .u64 ((loN c.DebitsPending : Nat) : Int), .int .u64 ((hiN c.DebitsPosted : Nat) : Int), .int .u64 ((loN c.DebitsPosted : Nat) : Int), .int .u64 ((hiN c.CreditsPending : Nat) : Int), .int .u64 ((loN c.CreditsPending : Nat) : Int), .int .u64 ((hiN c.CreditsPosted : Nat) : Int), .int .u64 ((loN c.CreditsPosted : Nat) : Int)]) (.int .i64 1)).run Try.prog w = .ok (numV c.DebitsPending) w := fun _ => by kernel_rfl
  have i2 : ∀ w, (Instr.index 117 (.agg #[.int .u64 ((hiN c.Id : Nat) : Int), .int .u64 ((loN c.Id : Nat) : Int), .int .u64 ((hiN c.DebitsPending : Nat) : Int), .int .u64 ((loN c.DebitsPending : Nat) : Int), .int .u64 ((hiN c.DebitsPosted : Nat) : Int), .int .u64 ((loN c.DebitsPosted : Nat) : Int), .int .u64 ((hiN c.CreditsPending : Nat) : Int), .int .u64 ((loN c.CreditsPending : Nat) : Int), .int .u64 ((hiN c.CreditsPosted : Nat) : Int), .int .u64 ((loN c.CreditsPosted : Nat) : Int)]) (.int .i64 2)).run Try.prog w = .ok (numV c.DebitsPosted) w := fun _ => by kernel_rfl
  have i3 : ∀ w, (Instr.index 117 (.agg #[.int .u64 ((hiN c.Id : Nat) : Int), .int .u64 ((loN c.Id : Nat) : Int), .int .u64 ((hiN c.DebitsPending : Nat) : Int), .int .u64 ((loN c.DebitsPending : Nat) : Int), .int .u64 ((hiN c.DebitsPosted : Nat) : Int), .int .u64 ((loN c.DebitsPosted : Nat) : Int), .int .u64 ((hiN c.CreditsPending : Nat) : Int), .int .u64 ((loN c.CreditsPending : Nat) : Int), .int .u64 ((hiN c.CreditsPosted : Nat) : Int), .int .u64 ((loN c.CreditsPosted : Nat) : Int)]) (.int .i64 3)).run Try.prog w = .ok (numV c.CreditsPending) w := fun _ => by kernel_rfl
  have i4 : ∀ w, (Instr.index 117 (.agg #[.int .u64 ((hiN c.Id : Nat) : Int), .int .u64 ((loN c.Id : Nat) : Int), .int .u64 ((hiN c.DebitsPending : Nat) : Int), .int .u64 ((loN c.DebitsPending : Nat) : Int), .int .u64 ((hiN c.DebitsPosted : Nat) : Int), .int .u64 ((loN c.DebitsPosted : Nat) : Int), .int .u64 ((hiN c.CreditsPending : Nat) : Int), .int .u64 ((loN c.CreditsPending : Nat) : Int), .int .u64 ((hiN c.CreditsPosted : Nat) : Int), .int .u64 ((loN c.CreditsPosted : Nat) : Int)]) (.int .i64 4)).run Try.prog w = .ok (numV c.CreditsPosted) w := fun _ => by kernel_rfl
  have hc := Lib.hid (accB_parts c bs)
  have zn := numB_size
  have z4 : ∀ n, (intB 4 n).size = 4 := fun n => by rw [intB_size]; rfl
  have z2 : ∀ n, (intB 2 n).size = 2 := fun n => by rw [intB_size]; rfl
  have k1 := Lib.hid (fun W' (L : Wz Wr F W W' c.cells p bs) => L.put (S := fun e => e = .returned (.tuple #[])) (fun F' hF => K.num F' W' p bs c.Id hF (by omega) hcw.Id))
  have k2 := Lib.hid (fun W' (L : Wz Wr F W W' c.cells p (bs ++ numB c.Id)) => L.put (S := fun e => e = .returned (.tuple #[])) (fun F' hF => K.num F' W' p _ c.DebitsPending hF (by simp only [ByteArray.size_append, zn]; omega) hcw.DebitsPending))
  have k3 := Lib.hid (fun W' (L : Wz Wr F W W' c.cells p ((bs ++ numB c.Id) ++ numB c.DebitsPending)) => L.put (S := fun e => e = .returned (.tuple #[])) (fun F' hF => K.num F' W' p _ c.DebitsPosted hF (by simp only [ByteArray.size_append, zn]; omega) hcw.DebitsPosted))
  have k4 := Lib.hid (fun W' (L : Wz Wr F W W' c.cells p (((bs ++ numB c.Id) ++ numB c.DebitsPending) ++ numB c.DebitsPosted)) => L.put (S := fun e => e = .returned (.tuple #[])) (fun F' hF => K.num F' W' p _ c.CreditsPending hF (by simp only [ByteArray.size_append, zn]; omega) hcw.CreditsPending))
  have k5 := Lib.hid (fun W' (L : Wz Wr F W W' c.cells p ((((bs ++ numB c.Id) ++ numB c.DebitsPending) ++ numB c.DebitsPosted) ++ numB c.CreditsPending)) => L.put (S := fun e => e = .returned (.tuple #[])) (fun F' hF => K.num F' W' p _ c.CreditsPosted hF (by simp only [ByteArray.size_append, zn]; omega) hcw.CreditsPosted))
  have k6 := Lib.hid (fun W' (L : Wz Wr F W W' c.cells p (((((bs ++ numB c.Id) ++ numB c.DebitsPending) ++ numB c.DebitsPosted) ++ numB c.CreditsPending) ++ numB c.CreditsPosted)) => L.put (S := fun e => e = .returned (.tuple #[])) (fun F' hF => K.int F' W' p _ 4 c.Ledger hF (by simp only [ByteArray.size_append, zn]; omega) hcw.Ledger.1 hcw.Ledger.2))
  have k7 := Lib.hid (fun W' (L : Wz Wr F W W' c.cells p ((((((bs ++ numB c.Id) ++ numB c.DebitsPending) ++ numB c.DebitsPosted) ++ numB c.CreditsPending) ++ numB c.CreditsPosted) ++ intB 4 c.Ledger)) => L.put (S := fun e => e = .returned (.tuple #[])) (fun F' hF => K.int F' W' p _ 2 c.Code hF (by simp only [ByteArray.size_append, zn, z4]; omega) hcw.Code.1 hcw.Code.2))
  have k8 := Lib.hid (fun W' (L : Wz Wr F W W' c.cells p (((((((bs ++ numB c.Id) ++ numB c.DebitsPending) ++ numB c.DebitsPosted) ++ numB c.CreditsPending) ++ numB c.CreditsPosted) ++ intB 4 c.Ledger) ++ intB 2 c.Code)) => L.put (S := fun e => e = .returned (.tuple #[])) (fun F' hF => K.int F' W' p _ 2 c.Flags hF (by simp only [ByteArray.size_append, zn, z4, z2]; omega) hcw.Flags.1 hcw.Flags.2))
  have k9 := Lib.hid (fun W' (L : Wz Wr F W W' c.cells p ((((((((bs ++ numB c.Id) ++ numB c.DebitsPending) ++ numB c.DebitsPosted) ++ numB c.CreditsPending) ++ numB c.CreditsPosted) ++ intB 4 c.Ledger) ++ intB 2 c.Code) ++ intB 2 c.Flags)) => L.put (S := fun e => e = .returned (.tuple #[])) (fun F' hF => K.int F' W' p _ 8 c.Stamp hF (by simp only [ByteArray.size_append, zn, z4, z2]; omega) hcw.Stamp.1 hcw.Stamp.2))
  rw [hc.out] at k9
  have hlat := Lib.hid (fun x W1 W2 (L : Wz Wr F W W1 c.cells p x) (hb : Below W1.heap.size W1 W2) => L.later K hb)
  have hsp := Lib.hid (fun x W' (L : Wz Wr F W W' c.cells p x) => L.own.box.acct (a := c) trivial)
  clear zn z4 z2 hs hcw hc
  generalize hy9 : accB c = y9 at *
  replace hy9 := Lib.hid hy9
  generalize (((((((bs ++ numB c.Id) ++ numB c.DebitsPending) ++ numB c.DebitsPosted) ++ numB c.CreditsPending) ++ numB c.CreditsPosted) ++ intB 4 c.Ledger) ++ intB 2 c.Code) ++ intB 2 c.Flags = x8 at *
  generalize ((((((bs ++ numB c.Id) ++ numB c.DebitsPending) ++ numB c.DebitsPosted) ++ numB c.CreditsPending) ++ numB c.CreditsPosted) ++ intB 4 c.Ledger) ++ intB 2 c.Code = x7 at *
  generalize (((((bs ++ numB c.Id) ++ numB c.DebitsPending) ++ numB c.DebitsPosted) ++ numB c.CreditsPending) ++ numB c.CreditsPosted) ++ intB 4 c.Ledger = x6 at *
  generalize ((((bs ++ numB c.Id) ++ numB c.DebitsPending) ++ numB c.DebitsPosted) ++ numB c.CreditsPending) ++ numB c.CreditsPosted = x5 at *
  generalize (((bs ++ numB c.Id) ++ numB c.DebitsPending) ++ numB c.DebitsPosted) ++ numB c.CreditsPending = x4 at *
  generalize ((bs ++ numB c.Id) ++ numB c.DebitsPending) ++ numB c.DebitsPosted = x3 at *
  generalize (bs ++ numB c.Id) ++ numB c.DebitsPending = x2 at *
  generalize bs ++ numB c.Id = x1 at *
  obtain ⟨z0, z1, z2, z3, z4, z5, z6, z7, z8, z9, z10, z11, z12, z13, z14, -⟩ := hsp.out _ _ L1
  go_wp2_with (refine wpList_store_mid rfl 58 _ _ rfl W.heap.size 0 _ rfl rfl hth.out (by kernel_rfl) (by kernel_rfl) ?_; rw [← hw2.out])
  clear z0 z1 z2 z3 z4 z5 z6 z7 z8 z9 z10 z11 z12 z13 z14
  go_loopw [21] (fun iv wr => (iv = .int .i64 0 ∧ Wz Wr F W wr c.cells p bs) ∨ (iv = .int .i64 1 ∧ Wz Wr F W wr c.cells p x1) ∨ (iv = .int .i64 2 ∧ Wz Wr F W wr c.cells p x2) ∨ (iv = .int .i64 3 ∧ Wz Wr F W wr c.cells p x3) ∨ (iv = .int .i64 4 ∧ Wz Wr F W wr c.cells p x4) ∨ (iv = .int .i64 5 ∧ Wz Wr F W wr c.cells p x5)) (fun iv _ => (5 - RowKit.intOf iv).toNat)
  case atStart => exact .inl ⟨rfl, L1⟩
  case round =>
    clear L1
    obtain ⟨rfl, L⟩ | ⟨rfl, L⟩ | ⟨rfl, L⟩ | ⟨rfl, L⟩ | ⟨rfl, L⟩ | ⟨rfl, L⟩ := hrel
    · have L2 := hlat.out _ _ _ L ((Below.refl _ _).alloc (Nat.le_refl _) (.cells #[.int .u64 ((hiN c.Id : Nat) : Int), .int .u64 ((loN c.Id : Nat) : Int)] 27))
      go_wp2_with fail
      refine (k1.out _ L2).mono ?_
      rintro e w9 ⟨rfl, L3⟩
      go_wp2_with fail
      exact ⟨.inr (.inl ⟨rfl, L3⟩), by decide⟩
    · have L2 := hlat.out _ _ _ L ((Below.refl _ _).alloc (Nat.le_refl _) (.cells #[.int .u64 ((hiN c.DebitsPending : Nat) : Int), .int .u64 ((loN c.DebitsPending : Nat) : Int)] 27))
      go_wp2_with fail
      refine (k2.out _ L2).mono ?_
      rintro e w9 ⟨rfl, L3⟩
      go_wp2_with fail
      exact ⟨.inr (.inr (.inl ⟨rfl, L3⟩)), by decide⟩
    · have L2 := hlat.out _ _ _ L ((Below.refl _ _).alloc (Nat.le_refl _) (.cells #[.int .u64 ((hiN c.DebitsPosted : Nat) : Int), .int .u64 ((loN c.DebitsPosted : Nat) : Int)] 27))
      go_wp2_with fail
      refine (k3.out _ L2).mono ?_
      rintro e w9 ⟨rfl, L3⟩
      go_wp2_with fail
      exact ⟨.inr (.inr (.inr (.inl ⟨rfl, L3⟩))), by decide⟩
    · have L2 := hlat.out _ _ _ L ((Below.refl _ _).alloc (Nat.le_refl _) (.cells #[.int .u64 ((hiN c.CreditsPending : Nat) : Int), .int .u64 ((loN c.CreditsPending : Nat) : Int)] 27))
      go_wp2_with fail
      refine (k4.out _ L2).mono ?_
      rintro e w9 ⟨rfl, L3⟩
      go_wp2_with fail
      exact ⟨.inr (.inr (.inr (.inr (.inl ⟨rfl, L3⟩)))), by decide⟩
    · have L2 := hlat.out _ _ _ L ((Below.refl _ _).alloc (Nat.le_refl _) (.cells #[.int .u64 ((hiN c.CreditsPosted : Nat) : Int), .int .u64 ((loN c.CreditsPosted : Nat) : Int)] 27))
      go_wp2_with fail
      refine (k5.out _ L2).mono ?_
      rintro e w9 ⟨rfl, L3⟩
      go_wp2_with fail
      exact ⟨.inr (.inr (.inr (.inr (.inr (⟨rfl, L3⟩))))), by decide⟩
    · obtain ⟨z0, z1, z2, z3, z4, z5, z6, z7, z8, z9, z10, z11, z12, z13, z14, -⟩ := hsp.out _ _ L
      go_wp2_with fail
      refine (k6.out _ L).mono ?_
      clear L z0 z1 z2 z3 z4 z5 z6 z7 z8 z9 z10 z11 z12 z13 z14
      rintro e w6 ⟨rfl, L⟩
      obtain ⟨z0, z1, z2, z3, z4, z5, z6, z7, z8, z9, z10, z11, z12, z13, z14, -⟩ := hsp.out _ _ L
      go_wp2_with fail
      refine (k7.out _ L).mono ?_
      clear L z0 z1 z2 z3 z4 z5 z6 z7 z8 z9 z10 z11 z12 z13 z14
      rintro e w7 ⟨rfl, L⟩
      obtain ⟨z0, z1, z2, z3, z4, z5, z6, z7, z8, z9, z10, z11, z12, z13, z14, -⟩ := hsp.out _ _ L
      go_wp2_with fail
      refine (k8.out _ L).mono ?_
      clear L z0 z1 z2 z3 z4 z5 z6 z7 z8 z9 z10 z11 z12 z13 z14
      rintro e w8 ⟨rfl, L⟩
      obtain ⟨z0, z1, z2, z3, z4, z5, z6, z7, z8, z9, z10, z11, z12, z13, z14, -⟩ := hsp.out _ _ L
      go_wp2_with fail
      refine (k9.out _ L).mono ?_
      clear L z0 z1 z2 z3 z4 z5 z6 z7 z8 z9 z10 z11 z12 z13 z14
      rintro e w9 ⟨rfl, L⟩
      go_wp2
      go_end0
      exact ⟨rfl, by rw [hy9.out]; exact L.post⟩
theorem acPut_any (K : LandedWr Wr) (F : Nat → Prop) (W : World) (p : Nat) (bs : ByteArray) (a : Acct) (ha : a.Wf) (hW : Wr F W p bs) (hs : bs.size ≤ 15000) :
    Calls Try.prog 53 #[.pointer (some ⟨p, 0, none⟩), acctV a] W fun e W' => e = .returned (.tuple #[]) ∧ WrPost Wr F p (bs ++ accB (wantA a)) W W' := by
  by_cases h : goodA a = true
  · exact acPut_good K F W p bs a ha h hW hs
  · exact acPut_none K F W p bs a (by simpa using h) hW hs
end
end Go.Proofs.Ytfdanlfiaoedfaa
