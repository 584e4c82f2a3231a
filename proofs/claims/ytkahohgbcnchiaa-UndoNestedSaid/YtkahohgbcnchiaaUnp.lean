/- Stage 14: the document's Add, Set and New in memory. No condition but sizes. -/
import Derived.Test.YtkahohgbcnchiaaUno
namespace Go.Proofs.Ytkahohgbcnchiaa
open Go.RowKit Wm

/-- One list more, which reads so; the other one as it was. -/
def AddedP (W : World) (p : Nat) (vA vB : Value) (la lb : List Rw) (ra rb : Rw) (sec : Bool) (xs : List Int) (W' : World) : Prop :=
  ∃ r' : Rw, r'.xs = xs ∧ (∀ k, r'.val.ownBlock = some k → W.heap.size ≤ k) ∧ PostP W p vA vB ((la ++ [ra]) ++ [cond sec ra r']) ((lb ++ [rb]) ++ [cond sec r' rb]) W'
section
variable {W W' W1 : World} {p : Nat} {vA vB : Value} {la lb : List Rw} {ra rb r : Rw}
theorem apart_new {xs : List Int} (h : PastV W p vA vB la lb) (hn : NewRow W W1 r.val xs) (hx : r.xs = xs) : Apart W1 p vA vB r :=
  ⟨by unfold Rw.reads; rw [hx]; exact hn.1, fun k e x => by have := hn.2.1 k e; have := h.lp; omega, fun k e x => by have := hn.2.1 k e; have := (h.oA.lt k x).2; omega, fun k e x => by have := hn.2.1 k e; have := (h.oB.lt k x).2; omega⟩
set_option maxRecDepth 100000 in
set_option maxHeartbeats 2000000 in
theorem refadd_any (h : PastV W p vA vB (la ++ [ra]) (lb ++ [rb])) (hA : la.length < 10000) (hB : lb.length < 10000) (xA : ra.xs.length ≤ 10000) (xB : rb.xs.length ≤ 10000) (sec : Bool) (x : Int) :
    Calls Try.prog 22 #[.pointer (some ⟨p, 0, none⟩), .bool sec, .int .i64 x] W fun e W' => e = .returned (.tuple #[]) ∧
      AddedP W p vA vB la lb ra rb sec (cond sec rb.xs ra.xs ++ [x]) W' := by
  have hnow := Lib.hid (refnow_any h (by omega) (by omega))
  cases sec with
  | false =>
    simp only [cond_false] at *
    go_enter Try.func22, Try.ntmps22
    go_wp2_with fail
    refine hnow.out.mono ?_
    rintro e w1 ⟨rfl, hb⟩
    have h1 := h.later hb
    clear hnow h
    obtain ⟨ao, n, c, w2, w3, r', e1, e2, hn, hx⟩ := app_copy1 (h1.apart (r := ra) (.inl (by simp))).reads xA x
    have h3 := h1.later hn.2.2
    have hch := Lib.hid (refchange_any h3 (by simp; omega) (by simp; omega) (apart_new h1 hn hx) (h3.apart (r := rb) (.inr (by simp))))
    have hfin := Lib.hid (fun W' (hp : PostP w3 p vA vB ((la ++ [ra]) ++ [r']) ((lb ++ [rb]) ++ [rb]) W') => show AddedP W p vA vB la lb ra rb false (ra.xs ++ [x]) W' from
      ⟨r', hx, fun k e => Nat.le_trans hb.size (hn.2.1 k e), (hp.below hn.2.2).below hb⟩)
    replace e1 := Lib.hid e1
    replace e2 := Lib.hid e2
    clear h1 h3 hn hx hb
    unfold Rw.val at *
    have tok1 : True := trivial
    go_wp2_with (first | (at_builtin; have _t := tok1; refine Lib.wpList_append_run _ rfl _ _ _ _ rfl _ _ rfl rfl _ _ e1.out ?_; clear tok1 e1) | (at_builtin; refine Lib.wpList_append_run _ rfl _ _ _ _ rfl _ _ rfl rfl _ _ e2.out ?_))
    refine hch.out.mono ?_
    rintro e w4 ⟨rfl, hp⟩
    replace hfin := Lib.hid (hfin.out _ hp)
    clear hch hp
    go_wp2
    go_end0
    exact ⟨rfl, hfin.out⟩
  | true =>
    simp only [cond_true] at *
    go_enter Try.func22, Try.ntmps22
    go_wp2_with fail
    refine hnow.out.mono ?_
    rintro e w1 ⟨rfl, hb⟩
    have h1 := h.later hb
    clear hnow h
    obtain ⟨ao, n, c, w2, w3, r', e1, e2, hn, hx⟩ := app_copy1 (h1.apart (r := rb) (.inr (by simp))).reads xB x
    have h3 := h1.later hn.2.2
    have hch := Lib.hid (refchange_any h3 (by simp; omega) (by simp; omega) (h3.apart (r := ra) (.inl (by simp))) (apart_new h1 hn hx))
    have hfin := Lib.hid (fun W' (hp : PostP w3 p vA vB ((la ++ [ra]) ++ [ra]) ((lb ++ [rb]) ++ [r']) W') => show AddedP W p vA vB la lb ra rb true (rb.xs ++ [x]) W' from
      ⟨r', hx, fun k e => Nat.le_trans hb.size (hn.2.1 k e), (hp.below hn.2.2).below hb⟩)
    replace e1 := Lib.hid e1
    replace e2 := Lib.hid e2
    clear h1 h3 hn hx hb
    unfold Rw.val at *
    have tok1 : True := trivial
    go_wp2_with (first | (at_builtin; have _t := tok1; refine Lib.wpList_append_run _ rfl _ _ _ _ rfl _ _ rfl rfl _ _ e1.out ?_; clear tok1 e1) | (at_builtin; refine Lib.wpList_append_run _ rfl _ _ _ _ rfl _ _ rfl rfl _ _ e2.out ?_))
    refine hch.out.mono ?_
    rintro e w4 ⟨rfl, hp⟩
    replace hfin := Lib.hid (hfin.out _ hp)
    clear hch hp
    go_wp2
    go_end0
    exact ⟨rfl, hfin.out⟩
set_option maxRecDepth 100000 in
set_option maxHeartbeats 2000000 in
theorem refset_any (h : PastV W p vA vB (la ++ [ra]) (lb ++ [rb])) (hA : la.length < 10000) (hB : lb.length < 10000) (xA : ra.xs.length ≤ 10000) (xB : rb.xs.length ≤ 10000) (sec : Bool) (i x : Int) (hi : hasU (cond sec rb.xs ra.xs) i = true) :
    Calls Try.prog 23 #[.pointer (some ⟨p, 0, none⟩), .bool sec, .int .i64 i, .int .i64 x] W fun e W' => e = .returned (.bool true) ∧
      AddedP W p vA vB la lb ra rb sec ((cond sec rb.xs ra.xs).set i.toNat x) W' := by
  have hnow := Lib.hid (refnow_any h (by omega) (by omega))
  cases sec with
  | false =>
    simp only [cond_false] at *
    go_enter Try.func23, Try.ntmps23
    go_wp2_with fail
    refine hnow.out.mono ?_
    rintro e w1 ⟨rfl, hb⟩
    have h1 := h.later hb
    clear hnow h
    have hput := Lib.hid (refput_any (h1.apart (r := ra) (.inl (by simp))).reads (by omega) i x hi)
    clear hi
    replace h1 := Lib.hid h1
    replace hb := Lib.hid hb
    unfold Rw.val at hput
    go_upto_region 4 with (fail)
    go_wp2_with fail
    refine hput.out.mono ?_
    rintro e w3 ⟨r', rfl, hn, hx⟩
    have h3 := h1.out.later hn.2.2
    have hch := Lib.hid (refchange_any h3 (by simp; omega) (by simp; omega) (apart_new h1.out hn hx) (h3.apart (r := rb) (.inr (by simp))))
    have hfin := Lib.hid (fun W' (hp : PostP w3 p vA vB ((la ++ [ra]) ++ [r']) ((lb ++ [rb]) ++ [rb]) W') => show AddedP W p vA vB la lb ra rb false (ra.xs.set i.toNat x) W' from
      ⟨r', hx, fun k e => Nat.le_trans hb.out.size (hn.2.1 k e), (hp.below hn.2.2).below hb.out⟩)
    clear h1 h3 hn hx hb hput
    unfold Rw.val at *
    go_wp2_with fail
    refine hch.out.mono ?_
    rintro e w4 ⟨rfl, hp⟩
    replace hfin := Lib.hid (hfin.out _ hp)
    clear hch hp
    go_wp2
    go_ret
    exact ⟨rfl, hfin.out⟩
  | true =>
    simp only [cond_true] at *
    go_enter Try.func23, Try.ntmps23
    go_wp2_with fail
    refine hnow.out.mono ?_
    rintro e w1 ⟨rfl, hb⟩
    have h1 := h.later hb
    clear hnow h
    have hput := Lib.hid (refput_any (h1.apart (r := rb) (.inr (by simp))).reads (by omega) i x hi)
    clear hi
    replace h1 := Lib.hid h1
    replace hb := Lib.hid hb
    unfold Rw.val at hput
    go_upto_region 4 with (fail)
    go_wp2_with fail
    refine hput.out.mono ?_
    rintro e w3 ⟨r', rfl, hn, hx⟩
    have h3 := h1.out.later hn.2.2
    have hch := Lib.hid (refchange_any h3 (by simp; omega) (by simp; omega) (h3.apart (r := ra) (.inl (by simp))) (apart_new h1.out hn hx))
    have hfin := Lib.hid (fun W' (hp : PostP w3 p vA vB ((la ++ [ra]) ++ [ra]) ((lb ++ [rb]) ++ [r']) W') => show AddedP W p vA vB la lb ra rb true (rb.xs.set i.toNat x) W' from
      ⟨r', hx, fun k e => Nat.le_trans hb.out.size (hn.2.1 k e), (hp.below hn.2.2).below hb.out⟩)
    clear h1 h3 hn hx hb hput
    unfold Rw.val at *
    go_wp2_with fail
    refine hch.out.mono ?_
    rintro e w4 ⟨rfl, hp⟩
    replace hfin := Lib.hid (hfin.out _ hp)
    clear hch hp
    go_wp2
    go_ret
    exact ⟨rfl, hfin.out⟩

set_option maxRecDepth 100000 in
set_option maxHeartbeats 2000000 in
theorem refset_out (h : PastV W p vA vB (la ++ [ra]) (lb ++ [rb])) (hA : la.length < 10000) (hB : lb.length < 10000) (sec : Bool) (i x : Int) (hi : hasU (cond sec rb.xs ra.xs) i = false) :
    Calls Try.prog 23 #[.pointer (some ⟨p, 0, none⟩), .bool sec, .int .i64 i, .int .i64 x] W fun e W' => e = .returned (.bool false) ∧ Below W.heap.size W W' := by
  have hnow := Lib.hid (refnow_any h (by omega) (by omega))
  cases sec with
  | false =>
    simp only [cond_false] at *
    go_enter Try.func23, Try.ntmps23
    go_wp2_with fail
    refine hnow.out.mono ?_
    rintro e w1 ⟨rfl, hb⟩
    have hput := Lib.hid (refput_out ((h.later hb).apart (r := ra) (.inl (by simp))).reads i x hi)
    clear hnow h hi
    replace hb := Lib.hid hb
    unfold Rw.val at *
    go_wp2_with fail
    refine hput.out.mono ?_
    rintro e w3 ⟨rfl, rfl⟩
    clear hput
    go_wp2
    go_ret
    exact ⟨rfl, hb.out⟩
  | true =>
    simp only [cond_true] at *
    go_enter Try.func23, Try.ntmps23
    go_wp2_with fail
    refine hnow.out.mono ?_
    rintro e w1 ⟨rfl, hb⟩
    have hput := Lib.hid (refput_out ((h.later hb).apart (r := rb) (.inr (by simp))).reads i x hi)
    clear hnow h hi
    replace hb := Lib.hid hb
    unfold Rw.val at *
    go_wp2_with fail
    refine hput.out.mono ?_
    rintro e w3 ⟨rfl, rfl⟩
    clear hput
    go_wp2
    go_ret
    exact ⟨rfl, hb.out⟩
set_option maxRecDepth 100000 in
set_option maxHeartbeats 1000000 in
theorem refnew_any (W : World) : Calls Try.prog 9 #[] W fun e W' => ∃ p vA vB, e = .returned (.pointer (some ⟨p, 0, none⟩)) ∧ PastV W' p vA vB [nilRw] [nilRw] ∧ Below W.heap.size W W' ∧ ∀ k, footP p vA vB [nilRw] [nilRw] k → W.heap.size ≤ k := by
  obtain ⟨W1, hW1⟩ : ∃ W1, W1 = W.alloc (.cells #[.slice none 0 0] 39) := ⟨_, rfl⟩
  obtain ⟨W2, hW2⟩ : ∃ W2, W2 = W1.alloc (.cells #[.slice none 0 0] 39) := ⟨_, rfl⟩
  have hs1 : W1.heap.size = W.heap.size + 1 := by rw [hW1]; simp
  have hs2 : W2.heap.size = W.heap.size + 2 := by rw [hW2]; simp [hs1]
  obtain ⟨W3, hW3⟩ : ∃ W3, W3 = W2.alloc (.cells #[.slice (some ⟨W.heap.size, 0, none⟩) 1 1, .slice (some ⟨W1.heap.size, 0, none⟩) 1 1] 38) := ⟨_, rfl⟩
  have b1 : Below W.heap.size W W1 := by rw [hW1]; exact (Below.refl _ _).alloc (Nat.le_refl _) _
  have b2 : Below W1.heap.size W1 W2 := by rw [hW2]; exact (Below.refl _ _).alloc (Nat.le_refl _) _
  have b3 : Below W2.heap.size W2 W3 := by rw [hW3]; exact (Below.refl _ _).alloc (Nat.le_refl _) _
  have o1 : W1.ownsRow 0 39 1 (.slice (some ⟨W.heap.size, 0, none⟩) 1 1) [nilRw].length (rowK csR [nilRw]) := by rw [hW1]; exact row_one' W nilRw
  have o2 : W2.ownsRow 0 39 1 (.slice (some ⟨W1.heap.size, 0, none⟩) 1 1) [nilRw].length (rowK csR [nilRw]) := by rw [hW2]; exact row_one' W1 nilRw
  have hbx : BoxAt W3 W2.heap.size [.slice (some ⟨W.heap.size, 0, none⟩) 1 1, .slice (some ⟨W1.heap.size, 0, none⟩) 1 1] := by rw [hW3]; exact BoxAt.new W2 _ _
  have hfz : ∀ j, W3.frozen? ⟨W2.heap.size, j, none⟩ = false := fun j => by rw [hW3]; simp [go_sem]
  have hr : ∀ r, r ∈ [nilRw] → r.val.ownBlock = none := fun r x => by rw [List.mem_singleton.1 x]; rfl
  have hV : PastV W3 W2.heap.size (.slice (some ⟨W.heap.size, 0, none⟩) 1 1) (.slice (some ⟨W1.heap.size, 0, none⟩) 1 1) [nilRw] [nilRw] :=
    ⟨hbx.spot 0 _ rfl, hbx.spot 1 _ rfl, hfz, hbx.lt, (Only.of_below (F := fun _ => False) (b2.trans (b3.mono b2.size))).row o1 (fun _ _ e => e), (Only.of_below (F := fun _ => False) b3).row o2 (fun _ _ e => e),
      fun r x => by rw [List.mem_singleton.1 x]; exact nilRw_reads _, fun r x => by rw [List.mem_singleton.1 x]; exact nilRw_reads _,
      fun e => by have : W.heap.size = W2.heap.size := by injection e
                  omega,
      fun e => by have : W1.heap.size = W2.heap.size := by injection e
                  omega,
      fun k e e2 => by have x1 : W.heap.size = k := by injection e
                       have x2 : W1.heap.size = k := by injection e2
                       omega,
      fun r x e => (by rw [x.elim (hr r) (hr r)] at e; cases e), fun r x k e => (by rw [x.elim (hr r) (hr r)] at e; cases e), fun r x k e => (by rw [x.elim (hr r) (hr r)] at e; cases e)⟩
  have hfoot : ∀ k, footP W2.heap.size (.slice (some ⟨W.heap.size, 0, none⟩) 1 1) (.slice (some ⟨W1.heap.size, 0, none⟩) 1 1) [nilRw] [nilRw] k → W.heap.size ≤ k := by
    rintro k (e | e | e | ⟨r, x, e⟩)
    · omega
    · have : W.heap.size = k := by injection e
      omega
    · have : W1.heap.size = k := by injection e
      omega
    · rw [x.elim (hr r) (hr r)] at e; cases e
  have hb : Below W.heap.size W W3 := (b1.trans (b2.mono b1.size)).trans (b3.mono (by omega))
  have hfin := Lib.hid (show ∃ p vA vB, Ending.returned (Value.pointer (some ⟨W2.heap.size, 0, none⟩)) = .returned (.pointer (some ⟨p, 0, none⟩)) ∧ PastV W3 p vA vB [nilRw] [nilRw] ∧ Below W.heap.size W W3 ∧ ∀ k, footP p vA vB [nilRw] [nilRw] k → W.heap.size ≤ k from ⟨_, _, _, rfl, hV, hb, hfoot⟩)
  clear hV hfoot hb hr hfz hbx o1 o2 b1 b2 b3
  rw [hs2] at hfin
  rw [hs1] at hW3
  rw [hW3, hW2, hW1] at hfin
  clear hW3 hW2 hW1 hs1 hs2
  go_enter Try.func9, Try.ntmps9
  go_wp2
  go_ret
  exact hfin.out
end
end Go.Proofs.Ytkahohgbcnchiaa
