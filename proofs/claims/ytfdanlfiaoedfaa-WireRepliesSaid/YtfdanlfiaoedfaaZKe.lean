/- The landed accounts' Get; the landed accounts keep what the walks ask. No condition but that the variable Most holds the greatest number. -/
import Derived.Test.YtfdanlfiaoedfaaZKd
import Derived.Test.YtfdanlfiaoedfaaZMa
namespace Go.Proofs.Ytfdanlfiaoedfaa
open Go.RowKit Go.Sort Wm Cr

/-- The account that so many bytes are taken apart into. -/
def cutA (x : ByteArray) : Acct :=
  ⟨valL (bytesN (rdPart (behB x 0) 16)), valL (bytesN (rdPart (behB x 16) 16)), valL (bytesN (rdPart (behB x 32) 16)), valL (bytesN (rdPart (behB x 48) 16)), valL (bytesN (rdPart (behB x 64) 16)),
    backZ (rdPart (behB x 80) 4), backZ (rdPart (behB x 84) 2), backZ (rdPart (behB x 86) 2), backZ (rdPart (behB x 88) 8)⟩
theorem cutA_take (st : Option ByteArray) : cutA (rdPart st 96) = takeA st := by
  have hp : ∀ (x : ByteArray) (k m : Nat) (n : Int), n = (m : Int) → rdPart (behB x k) n = if k + m ≤ x.size then x.extract k (k + m) else ByteArray.empty := fun x k m n hn => by rw [hn]; exact behB_part x k m
  have hall : ∀ x : ByteArray, cutA x = ⟨valL (bytesN (if 0 + 16 ≤ x.size then x.extract 0 (0 + 16) else ByteArray.empty)), valL (bytesN (if 16 + 16 ≤ x.size then x.extract 16 (16 + 16) else ByteArray.empty)), valL (bytesN (if 32 + 16 ≤ x.size then x.extract 32 (32 + 16) else ByteArray.empty)), valL (bytesN (if 48 + 16 ≤ x.size then x.extract 48 (48 + 16) else ByteArray.empty)), valL (bytesN (if 64 + 16 ≤ x.size then x.extract 64 (64 + 16) else ByteArray.empty)),
      backZ (if 80 + 4 ≤ x.size then x.extract 80 (80 + 4) else ByteArray.empty), backZ (if 84 + 2 ≤ x.size then x.extract 84 (84 + 2) else ByteArray.empty), backZ (if 86 + 2 ≤ x.size then x.extract 86 (86 + 2) else ByteArray.empty), backZ (if 88 + 8 ≤ x.size then x.extract 88 (88 + 8) else ByteArray.empty)⟩ := fun x => by
    unfold cutA
    rw [hp x 0 16 16 rfl, hp x 16 16 16 rfl, hp x 32 16 16 rfl, hp x 48 16 16 rfl, hp x 64 16 16 rfl, hp x 80 4 4 rfl, hp x 84 2 2 rfl, hp x 86 2 2 rfl, hp x 88 8 8 rfl]
  have hempty : cutA ByteArray.empty = zeroA := by
    rw [hall]
    have e : ByteArray.empty.size = 0 := rfl
    have e1 : valL (bytesN ByteArray.empty) = 0 := by decide +kernel
    have e2 : backZ ByteArray.empty = 0 := by decide +kernel
    rw [if_neg (by omega), if_neg (by omega), if_neg (by omega), if_neg (by omega), if_neg (by omega), if_neg (by omega), if_neg (by omega), if_neg (by omega), if_neg (by omega), e1, e2]
    rfl
  unfold takeA
  match st with
  | none => exact hempty
  | some s =>
    dsimp only
    unfold rdPart
    dsimp only
    by_cases h : 96 ≤ s.size
    · rw [if_pos h, if_pos (by omega), show (96 : Int).toNat = 96 from rfl]
      have z : (s.extract 0 96).size = 96 := by rw [ByteArray.size_extract]; omega
      rw [hall, z, if_pos (by omega), if_pos (by omega), if_pos (by omega), if_pos (by omega), if_pos (by omega), if_pos (by omega), if_pos (by omega), if_pos (by omega), if_pos (by omega)]
      have e : s = s.extract 0 96 ++ s.extract 96 s.size := by rw [cut_join _ _ _ h (Nat.le_refl _), cut_all _ _ rfl]
      have e2 : accOf s = accOf (s.extract 0 96) := by
        conv => lhs; rw [e]
        exact accOf_cut _ _ (by omega)
      rw [e2]
      rfl
    · rw [if_neg h, if_neg (by omega)]
      exact hempty
theorem rdNext_rest (st : Option ByteArray) : rdNext st 96 = restA st := by
  unfold rdNext restA
  match st with
  | none => rfl
  | some s =>
    dsimp only
    by_cases h : 96 ≤ s.size
    · rw [if_pos h, if_pos (by omega)]; rfl
    · rw [if_neg h, if_neg (by omega)]
section
variable {Wr : (Nat → Prop) → World → Nat → ByteArray → Prop} {Rd : (Nat → Prop) → World → Nat → Option ByteArray → Prop}
set_option maxRecDepth 100000 in
set_option maxHeartbeats 4000000 in
theorem acGet_any (R : LandedRd Rd) (F : Nat → Prop) (W : World) (p : Nat) (st : Option ByteArray) (hW : Rd F W p st) :
    Calls Try.prog 48 #[.pointer (some ⟨p, 0, none⟩)] W fun e W' => e = .returned (acctV (takeA st)) ∧ RdPost Rd F p (restA st) W W' := by
  have L0 := Rz.start R hW (#[.int .u64 0, .int .u64 0, .int .u64 0, .int .u64 0, .int .u64 0, .int .u64 0, .int .u64 0, .int .u64 0, .int .u64 0, .int .u64 0, .int .i64 0, .int .i64 0, .int .i64 0, .int .i64 0] : Array Value).toList 58
  have kr := Lib.hid (fun W' (L : Rz Rd F W W' (#[.int .u64 0, .int .u64 0, .int .u64 0, .int .u64 0, .int .u64 0, .int .u64 0, .int .u64 0, .int .u64 0, .int .u64 0, .int .u64 0, .int .i64 0, .int .i64 0, .int .i64 0, .int .i64 0] : Array Value).toList p st) => L.get (S := fun e => e = .returned (.string (rdPart st 96))) (fun F' hF => R.raw F' W' p st 96 hF (by omega) (by omega)))
  have hx := Lib.hid (cutA_take st)
  rw [rdNext_rest] at kr
  have hxs : (rdPart st 96).size ≤ 16384 := by
    unfold rdPart
    split
    · exact Nat.zero_le _
    · split
      · rw [ByteArray.size_extract, show (96 : Int).toNat = 96 from rfl]; omega
      · exact Nat.zero_le _
  generalize rdPart st 96 = x at *
  generalize restA st = rest at *
  have hrd := Lib.hid (fun W' => R.read x W' hxs)
  have k1 := Lib.hid (fun w W' q (h : Ry Rd w W' [] q (behB x 0)) => h.get (S := fun e => e = .returned (numV (valL (bytesN (rdPart (behB x 0) 16))))) (fun G hG => R.num G W' q (behB x 0) hG))
  have k2 := Lib.hid (fun w W' q (h : Ry Rd w W' [] q (behB x 16)) => h.get (S := fun e => e = .returned (numV (valL (bytesN (rdPart (behB x 16) 16))))) (fun G hG => R.num G W' q (behB x 16) hG))
  have k3 := Lib.hid (fun w W' q (h : Ry Rd w W' [] q (behB x 32)) => h.get (S := fun e => e = .returned (numV (valL (bytesN (rdPart (behB x 32) 16))))) (fun G hG => R.num G W' q (behB x 32) hG))
  have k4 := Lib.hid (fun w W' q (h : Ry Rd w W' [] q (behB x 48)) => h.get (S := fun e => e = .returned (numV (valL (bytesN (rdPart (behB x 48) 16))))) (fun G hG => R.num G W' q (behB x 48) hG))
  have k5 := Lib.hid (fun w W' q (h : Ry Rd w W' [] q (behB x 64)) => h.get (S := fun e => e = .returned (numV (valL (bytesN (rdPart (behB x 64) 16))))) (fun G hG => R.num G W' q (behB x 64) hG))
  have k6 := Lib.hid (fun w W' q (h : Ry Rd w W' [] q (behB x 80)) => h.get (S := fun e => e = .returned (.int .i64 (backZ (rdPart (behB x 80) 4)))) (fun G hG => R.int G W' q (behB x 80) 4 hG))
  have k7 := Lib.hid (fun w W' q (h : Ry Rd w W' [] q (behB x 84)) => h.get (S := fun e => e = .returned (.int .i64 (backZ (rdPart (behB x 84) 2)))) (fun G hG => R.int G W' q (behB x 84) 2 hG))
  have k8 := Lib.hid (fun w W' q (h : Ry Rd w W' [] q (behB x 86)) => h.get (S := fun e => e = .returned (.int .i64 (backZ (rdPart (behB x 86) 2)))) (fun G hG => R.int G W' q (behB x 86) 2 hG))
  have k9 := Lib.hid (fun w W' q (h : Ry Rd w W' [] q (behB x 88)) => h.get (S := fun e => e = .returned (.int .i64 (backZ (rdPart (behB x 88) 8)))) (fun G hG => R.int G W' q (behB x 88) 8 hG))
  rw [show rdNext (behB x 0) 16 = behB x 16 from behB_next x 0 16] at k1
  rw [show rdNext (behB x 16) 16 = behB x 32 from behB_next x 16 16] at k2
  rw [show rdNext (behB x 32) 16 = behB x 48 from behB_next x 32 16] at k3
  rw [show rdNext (behB x 48) 16 = behB x 64 from behB_next x 48 16] at k4
  rw [show rdNext (behB x 64) 16 = behB x 80 from behB_next x 64 16] at k5
  rw [show rdNext (behB x 80) ((sizeK 4 : Nat) : Int) = behB x 84 from behB_next x 80 4] at k6
  rw [show rdNext (behB x 84) ((sizeK 2 : Nat) : Int) = behB x 86 from behB_next x 84 2] at k7
  rw [show rdNext (behB x 86) ((sizeK 2 : Nat) : Int) = behB x 88 from behB_next x 86 2] at k8
  have hb0 := Lib.hid (behB_zero x)
  have hset := Lib.hid (fun ds (hl : ds.length = 14) W' (L : Rz Rd F W W' (#[.int .u64 0, .int .u64 0, .int .u64 0, .int .u64 0, .int .u64 0, .int .u64 0, .int .u64 0, .int .u64 0, .int .u64 0, .int .u64 0, .int .i64 0, .int .i64 0, .int .i64 0, .int .i64 0] : Array Value).toList p rest) => L.set R (ds := ds) hl)
  have hlat := Lib.hid (fun W1 W2 (L : Rz Rd F W W1 (#[.int .u64 0, .int .u64 0, .int .u64 0, .int .u64 0, .int .u64 0, .int .u64 0, .int .u64 0, .int .u64 0, .int .u64 0, .int .u64 0, .int .i64 0, .int .i64 0, .int .i64 0, .int .i64 0] : Array Value).toList p rest) (hb : Below W1.heap.size W1 W2) => L.later R hb)
  have hc := Lib.hid (show cutA x = ⟨valL (bytesN (rdPart (behB x 0) 16)), valL (bytesN (rdPart (behB x 16) 16)), valL (bytesN (rdPart (behB x 32) 16)), valL (bytesN (rdPart (behB x 48) 16)), valL (bytesN (rdPart (behB x 64) 16)), backZ (rdPart (behB x 80) 4), backZ (rdPart (behB x 84) 2), backZ (rdPart (behB x 86) 2), backZ (rdPart (behB x 88) 8)⟩ from rfl)
  rw [hx.out] at hc
  generalize takeA st = c at *
  generalize valL (bytesN (rdPart (behB x 0) 16)) = v0 at *
  generalize valL (bytesN (rdPart (behB x 16) 16)) = v1 at *
  generalize valL (bytesN (rdPart (behB x 32) 16)) = v2 at *
  generalize valL (bytesN (rdPart (behB x 48) 16)) = v3 at *
  generalize valL (bytesN (rdPart (behB x 64) 16)) = v4 at *
  generalize backZ (rdPart (behB x 80) 4) = v5 at *
  generalize backZ (rdPart (behB x 84) 2) = v6 at *
  generalize backZ (rdPart (behB x 86) 2) = v7 at *
  generalize backZ (rdPart (behB x 88) 8) = v8 at *
  rw [hc.out]
  clear hxs hW hx hc
  go_enter Try.func48, Try.ntmps48
  go_wp2_with fail
  refine (kr.out _ L0).mono ?_
  rintro e w1 ⟨rfl, L1⟩
  go_wp2_with fail
  refine (hrd.out _).mono ?_
  rintro e w2 hp
  obtain ⟨q, rfl, hR⟩ := Ry.start (l := []) (Below.refl _ _) (fun x hx => by cases hx) hp
  rw [← hb0.out] at hR
  clear hb0 kr hrd L0 hp
  go_wp2_with fail
  refine (k1.out _ _ _ hR).mono ?_
  clear k1 hR
  rintro e w3 ⟨rfl, hR⟩
  go_wp2_with fail
  refine (k2.out _ _ _ hR).mono ?_
  clear k2 hR
  rintro e w4 ⟨rfl, hR⟩
  go_wp2_with fail
  refine (k3.out _ _ _ hR).mono ?_
  clear k3 hR
  rintro e w5 ⟨rfl, hR⟩
  go_wp2_with fail
  refine (k4.out _ _ _ hR).mono ?_
  clear k4 hR
  rintro e w6 ⟨rfl, hR⟩
  go_wp2_with fail
  refine (k5.out _ _ _ hR).mono ?_
  clear k5 hR
  rintro e w7 ⟨rfl, hR⟩
  go_wp2_with fail
  refine (k6.out _ _ _ hR).mono ?_
  clear k6 hR
  rintro e w8 ⟨rfl, hR⟩
  go_wp2_with fail
  refine (k7.out _ _ _ hR).mono ?_
  clear k7 hR
  rintro e w9 ⟨rfl, hR⟩
  go_wp2_with fail
  refine (k8.out _ _ _ hR).mono ?_
  clear k8 hR
  rintro e w10 ⟨rfl, hR⟩
  go_wp2_with fail
  refine (k9.out _ _ _ hR).mono ?_
  clear k9 hR
  rintro e w11 ⟨rfl, hR⟩
  have L2 := hlat.out _ _ L1 hR.bel
  have hth := Lib.hid L2.own.there
  have L3 := hset.out (#[.int .u64 ((hiN v0 : Nat) : Int), .int .u64 ((loN v0 : Nat) : Int), .int .u64 ((hiN v1 : Nat) : Int), .int .u64 ((loN v1 : Nat) : Int), .int .u64 ((hiN v2 : Nat) : Int), .int .u64 ((loN v2 : Nat) : Int), .int .u64 ((hiN v3 : Nat) : Int), .int .u64 ((loN v3 : Nat) : Int), .int .u64 ((hiN v4 : Nat) : Int), .int .u64 ((loN v4 : Nat) : Int), .int .i64 v5, .int .i64 v6, .int .i64 v7, .int .i64 v8] : Array Value).toList rfl _ L2
  obtain ⟨w12, hw12⟩ : ∃ w12, w12 = w11.setCells W.heap.size 0 (#[.int .u64 ((hiN v0 : Nat) : Int), .int .u64 ((loN v0 : Nat) : Int), .int .u64 ((hiN v1 : Nat) : Int), .int .u64 ((loN v1 : Nat) : Int), .int .u64 ((hiN v2 : Nat) : Int), .int .u64 ((loN v2 : Nat) : Int), .int .u64 ((hiN v3 : Nat) : Int), .int .u64 ((loN v3 : Nat) : Int), .int .u64 ((hiN v4 : Nat) : Int), .int .u64 ((loN v4 : Nat) : Int), .int .i64 v5, .int .i64 v6, .int .i64 v7, .int .i64 v8] : Array Value).toList := ⟨_, rfl⟩
  rw [← hw12] at L3
  replace hw12 := Lib.hid hw12
  clear hset hlat L1 L2 hR
  go_wp2_with (refine wpList_store_mid rfl 58 _ _ rfl W.heap.size 0 _ rfl rfl hth.out (by kernel_rfl) (by kernel_rfl) ?_; rw [← hw12.out])
  have hb := L3.own.box
  have c0 := hb.spot 0 _ rfl
  have c1 := hb.spot 1 _ rfl
  have c2 := hb.spot 2 _ rfl
  have c3 := hb.spot 3 _ rfl
  have c4 := hb.spot 4 _ rfl
  have c5 := hb.spot 5 _ rfl
  have c6 := hb.spot 6 _ rfl
  have c7 := hb.spot 7 _ rfl
  have c8 := hb.spot 8 _ rfl
  have c9 := hb.spot 9 _ rfl
  have c10 := hb.spot 10 _ rfl
  have c11 := hb.spot 11 _ rfl
  have c12 := hb.spot 12 _ rfl
  have c13 := hb.spot 13 _ rfl
  refine bodyPost_ret (v := acctV ⟨v0, v1, v2, v3, v4, v5, v6, v7, v8⟩) ?_ rfl ⟨rfl, L3.post⟩
  rw [acctV_eq]
  simp [results, Try.results48, go_sem, c0, c1, c2, c3, c4, c5, c6, c7, c8, c9, c10, c11, c12, c13]
end
end Go.Proofs.Ytfdanlfiaoedfaa
