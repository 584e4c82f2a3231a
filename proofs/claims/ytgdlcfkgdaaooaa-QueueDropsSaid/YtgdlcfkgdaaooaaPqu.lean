/- Stage 13: the question that each law asks first. No condition but the landed package's. -/
import Derived.Test.YtgdlcfkgdaaooaaPqi
import Derived.Test.YtgdlcfkgdaaooaaAsr
import Derived.Lib.Hide
import Derived.BigQuiet
import Derived.Deep.DeepCutAuto
namespace Go.Proofs.Ytgdlcfkgdaaooaa
open Go.RowKit Wm

theorem itemV_eq (x : Qit) : itemV x = .agg #[.int .i64 x.Due, .int .i64 x.Stamp, .int .u64 ((hiN x.Id : Nat) : Int), .int .u64 ((loN x.Id : Nat) : Int)] := rfl
theorem itemV_lit (a b : Int) : itemV ⟨a, b, 0⟩ = .agg #[.int .i64 a, .int .i64 b, .int .u64 0, .int .u64 0] := by
  have h1 : hiN 0 = 0 := rfl
  have h2 : loN 0 = 0 := rfl
  rw [itemV_eq]
  simp [h1, h2]
theorem zeroQ_wf : zeroQ.Wf := ⟨by decide, by decide, by decide +kernel⟩
theorem lit_wf {a b : Int} (h1 : -9223372036854775808 ≤ a) (h2 : a ≤ 9223372036854775807) (h3 : -9223372036854775808 ≤ b) (h4 : b ≤ 9223372036854775807) : (⟨a, b, 0⟩ : Qit).Wf := ⟨⟨h1, h2⟩, ⟨h3, h4⟩, by show 0 < big; rw [big_eq]; omega⟩
section
variable {O : Kind (List Qit)} {R : Asr} {w : World}
/-- The landed calls, by what a law holds. -/
theorem quPut_h (K : LandedQu O) (L : IsAsr R) {W : World} {p : Nat} {m : List Qit} (x : Qit) (hl : m.length ≤ 10000) (hx : x.Wf) (hn : x.Stamp ∉ m.map Qit.Stamp) (h : Held w W (star (objA O p m) R)) :
    Calls Try.prog 9 #[.pointer (some ⟨p, 0, none⟩), itemV x] W fun e w2 => e = .returned (.tuple #[]) ∧ Held w w2 (star (objA O p (m ++ [x])) R) :=
  h.turn (isAsr_obj K.toIsKind _ _) L (fun F hF => K.put F W p m x hF hl hx hn)
theorem quDrop_h (K : LandedQu O) (L : IsAsr R) {W : World} {p : Nat} {m : List Qit} (s : Int) (h1 : -9223372036854775808 ≤ s) (h2 : s ≤ 9223372036854775807) (h : Held w W (star (objA O p m) R)) :
    Calls Try.prog 10 #[.pointer (some ⟨p, 0, none⟩), .int .i64 s] W fun e w2 => e = .returned (.bool (hasQ m s)) ∧ Held w w2 (star (objA O p (dropQ m s)) R) :=
  h.turn (isAsr_obj K.toIsKind _ _) L (fun F hF => K.drop F W p m s hF h1 h2)
theorem quPop_h (K : LandedQu O) (L : IsAsr R) {W : World} {p : Nat} {m : List Qit} (s : Int) (h1 : -9223372036854775808 ≤ s) (h2 : s ≤ 9223372036854775807) (h : Held w W (star (objA O p m) R)) :
    Calls Try.prog 12 #[.pointer (some ⟨p, 0, none⟩), .int .i64 s] W fun e w2 => e = .returned (popV (popR m s)) ∧ Held w w2 (star (objA O p (popQ m s)) R) :=
  h.turn (isAsr_obj K.toIsKind _ _) L (fun F hF => K.pop F W p m s hF h1 h2)
theorem quLen_h (K : LandedQu O) (L : IsAsr R) {W : World} {p : Nat} {m : List Qit} (h : Held w W (star (objA O p m) R)) :
    Calls Try.prog 15 #[.pointer (some ⟨p, 0, none⟩)] W fun e w2 => e = .returned (.int .i64 ((m.length : Nat) : Int)) ∧ Held w w2 (star (objA O p m) R) :=
  h.ask (isAsr_obj K.toIsKind _ _) L (S := fun e _ => e = .returned (.int .i64 ((m.length : Nat) : Int))) (fun F hF => K.len F W p m hF)
theorem quFirst_h (K : LandedQu O) (L : IsAsr R) {W : World} {p : Nat} {m : List Qit} (h : Held w W (star (objA O p m) R)) :
    Calls Try.prog 14 #[.pointer (some ⟨p, 0, none⟩)] W fun e w2 => e = .returned (popV (bestQ m)) ∧ Held w w2 (star (objA O p m) R) :=
  h.ask (isAsr_obj K.toIsKind _ _) L (S := fun e _ => e = .returned (popV (bestQ m))) (fun F hF => K.first F W p m hF)
theorem Held.once (K : LandedQu O) {W : World} {p : Nat} {m : List Qit} (h : Held w W (star (objA O p m) R)) : OnceQ m := by
  obtain ⟨F, hF⟩ := h.head
  exact K.once F W p m hF
set_option maxRecDepth 100000 in
set_option maxHeartbeats 1000000 in
theorem queueAlive_any (K : LandedQu O) (w : World) :
    Calls Try.prog 7 #[] w fun e w' => e = .returned (.bool true) ∧ Below w.heap.size w w' := by
  have hT0 : Held w (w.alloc (.cells #[.slice none 0 0] 28)) (star (objA O w.heap.size []) nilA) := (Held.start w).obj (cs := [.slice none 0 0]) isAsr_nil (K.new w)
  have k1 := Lib.hid (quPut_h K isAsr_nil ⟨5, 1, 0⟩ (by decide) (lit_wf (by decide) (by decide) (by decide) (by decide)) (by simp) hT0)
  have e3 : popV (popR [⟨5, 1, 0⟩, ⟨3, 2, 0⟩] 4) = .tuple #[.agg #[.int .i64 3, .int .i64 2, .int .u64 0, .int .u64 0], .bool true] := rfl
  have q3 : popQ [⟨5, 1, 0⟩, ⟨3, 2, 0⟩] 4 = [⟨5, 1, 0⟩] := rfl
  have e4 : popV (popR [⟨5, 1, 0⟩] 4) = .tuple #[.agg #[.int .i64 0, .int .i64 0, .int .u64 0, .int .u64 0], .bool false] := rfl
  have q4 : popQ [⟨5, 1, 0⟩] 4 = [⟨5, 1, 0⟩] := rfl
  replace e3 := Lib.hid e3
  replace e4 := Lib.hid e4
  replace q3 := Lib.hid q3
  replace q4 := Lib.hid q4
  rw [itemV_lit] at k1
  clear hT0
  go_enter Try.func7, Try.ntmps7
  go_wp2_with fail
  refine k1.out.mono ?_
  rintro e w2 ⟨rfl, hT2⟩
  have k2 := Lib.hid (quPut_h K isAsr_nil ⟨3, 2, 0⟩ (by decide) (lit_wf (by decide) (by decide) (by decide) (by decide)) (by simp) hT2)
  rw [itemV_lit] at k2
  clear k1 hT2
  go_wp2_with fail
  refine k2.out.mono ?_
  rintro e w3 ⟨rfl, hT3⟩
  have k3 := quPop_h K isAsr_nil 4 (by decide) (by decide) hT3
  change Calls _ _ _ _ (fun e w2 => e = .returned (popV (popR [⟨5, 1, 0⟩, ⟨3, 2, 0⟩] 4)) ∧ Held w w2 (star (objA O w.heap.size (popQ [⟨5, 1, 0⟩, ⟨3, 2, 0⟩] 4)) nilA)) at k3
  rw [e3.out, q3.out] at k3
  replace k3 := Lib.hid k3
  clear k2 hT3 e3 q3
  go_wp2_with fail
  refine k3.out.mono ?_
  rintro e w4 ⟨rfl, hT4⟩
  have hT5 := (hT4.box (isAsr_obj K.toIsKind _ _ |>.star isAsr_nil) [.int .i64 3, .int .i64 2, .int .u64 0, .int .u64 0] 34).pull
  have k4 := quPop_h K ((isAsr_box _ _).star isAsr_nil) 4 (by decide) (by decide) hT5
  rw [e4.out, q4.out] at k4
  replace k4 := Lib.hid k4
  clear k3 hT4 hT5 e4 q4
  go_wp2_with fail
  refine k4.out.mono ?_
  rintro e w6 ⟨rfl, hT6⟩
  have hT7 := (hT6.box (isAsr_obj K.toIsKind _ _ |>.star ((isAsr_box _ _).star isAsr_nil)) [.int .i64 0, .int .i64 0, .int .u64 0, .int .u64 0] 34).pull
  have hbx := hT7.pull3.boxAt.1
  have c1 := hbx.spot 1 _ rfl
  have lx := hbx.lt
  have k5 := Lib.hid (quLen_h K ((isAsr_box _ _).star ((isAsr_box _ _).star isAsr_nil)) hT7)
  clear k4 hT6 hT7 hbx
  go_upto_region 6 with (fail)
  generalize (w6.alloc (.cells #[.int .i64 0, .int .i64 0, .int .u64 0, .int .u64 0] 34)) = w7 at *
  go_wp2_with fail
  refine k5.out.mono ?_
  rintro e w8 ⟨rfl, hT8⟩
  have hfin := Lib.hid hT8.below
  clear hT8 k5 c1 lx
  go_wp2
  go_ret
  exact ⟨rfl, hfin.out⟩
end
end Go.Proofs.Ytgdlcfkgdaaooaa
