/- The landed Bytes of a leaf. No condition but a text's size. -/
import Derived.Test.YtgolddcmhjdmdaaZGa
import Derived.Test.YtgolddcmhjdmdaaZGr
import Derived.Test.YtgolddcmhjdmdaaZTw
import Derived.Test.YtgolddcmhjdmdaaZCt
namespace Go.Proofs.Ytgolddcmhjdmdaa
open Go.RowKit Go.Sort Cr Wm

/-- A writer in the making, over a block of known cells that lies ahead of it. -/
structure Lw (W0 : World) (cs : List Value) (w : World) (p : Nat) (bs : ByteArray) : Prop where
  wr : ∃ F, WrIs F w p bs ∧ ∀ k, F k → W0.heap.size < k
  box : BoxAt w W0.heap.size cs
  bel : Below W0.heap.size W0 w
theorem Lw.later {W0 : World} {cs : List Value} {w w' : World} {p : Nat} {bs : ByteArray} (h : Lw W0 cs w p bs) (hb : Below w.heap.size w w') : Lw W0 cs w' p bs := by
  obtain ⟨F, h1, h2⟩ := h.wr
  exact ⟨⟨F, wrIs_later h1 hb, h2⟩, h.box.later hb, h.bel.trans (hb.mono h.bel.size)⟩
/-- A call that puts, as it is met. -/
theorem Lw.put {W0 : World} {cs : List Value} {w : World} {p : Nat} {bs : ByteArray} (h : Lw W0 cs w p bs) {f : Nat} {args : Array Value} {bs' : ByteArray} {P : Program}
    (hc : ∀ F, WrIs F w p bs → Calls P f args w fun e w' => e = .returned (.tuple #[]) ∧ WrPost WrIs F p bs' w w') :
    Calls P f args w fun e w' => e = .returned (.tuple #[]) ∧ Lw W0 cs w' p bs' := by
  obtain ⟨F, h1, h2⟩ := h.wr
  refine (hc F h1).mono ?_
  rintro e w' ⟨rfl, F', k1, k2, k3⟩
  refine ⟨rfl, ⟨F', k1, fun k hk => ?_⟩, h.box.only k2 (fun e => by have := h2 _ e; omega), h.bel.trans (k2.to_below h.bel.size (fun k hk => by have := h2 _ hk; omega))⟩
  by_cases e : k < w.heap.size
  · exact h2 k (k3 k e hk)
  · have := h.box.lt
    omega
theorem Lw.say {W0 : World} {cs : List Value} {w : World} {p : Nat} {bs : ByteArray} (h : Lw W0 cs w p bs) {f : Nat} {args : Array Value} {P : Program} {v : Value}
    (hc : ∀ F, WrIs F w p bs → Calls P f args w fun e w' => e = .returned v ∧ Below w.heap.size w w') :
    Calls P f args w fun e w' => e = .returned v ∧ Lw W0 cs w' p bs := by
  obtain ⟨F, h1, _⟩ := h.wr
  refine (hc F h1).mono ?_
  rintro e w' ⟨rfl, hb⟩
  exact ⟨rfl, h.later hb⟩
theorem bytes_parts (N I : Int) (D : ByteArray) :
    ((((((ByteArray.empty ++ intB 8 N) ++ intB 2 I) ++ intB 2 ((D.size : Nat) : Int)) ++ D) ++ zerosB (104 - D.size)) = bodyB N I D) ∧
    bodyB N I D ++ fourT (sumC 0 (bytesC (bodyB N I D))) ++ intB 8 N = secB N I D := by
  constructor
  · unfold bodyB
    rw [ByteArray.empty_append, ByteArray.append_assoc, ByteArray.append_assoc, ByteArray.append_assoc]
  · unfold secB
    rw [ByteArray.append_assoc]
set_option maxRecDepth 100000 in
set_option maxHeartbeats 1000000 in
theorem stBytes_any (N I : Int) (D : ByteArray) (W : World) (hD : D.size ≤ 140737488351232) :
    Calls Try.prog 46 #[leafA N I D] W fun e W' => e = .returned (.tuple #[.string (bytesS N I D), .int .i64 (bytesE N I D)]) ∧ Below W.heap.size W W' := by
  have hc := Lib.hid (fun W => canBe_any N I D W)
  by_cases hok : okLeaf N I D = true
  · have hl := (okLeaf_iff N I D).1 hok
    have hd := hl.d
    have l1 := hl.n
    have l2 := hl.i
    have hS := Lib.hid (show bytesS N I D = secB N I D by unfold bytesS; rw [if_pos hok])
    have hE := Lib.hid (show bytesE N I D = 0 by unfold bytesE; rw [if_pos hok])
    rw [hok] at hc
    have hr := Lib.hid (show (104 : Int) - ((D.size : Nat) : Int) = ((104 - D.size : Nat) : Int) by omega)
    clear hl hok
    unfold leafA at *
    go_enter Try.func46, Try.ntmps46
    go_wp2_with fail
    refine (hc.out _).mono ?_
    rintro e W1 ⟨rfl, hb1⟩
    have b1 : Below W.heap.size W W1 := ((Below.refl _ _).alloc (Nat.le_refl _) (.cells #[.int .i64 N, .int .i64 I, .string D] 49)).trans (hb1.mono (by simp))
    have L0 : Lw W [.int .i64 N, .int .i64 I, .string D] (W1.alloc (.cells #[.slice none 0 0] 55)) W1.heap.size ByteArray.empty :=
      ⟨⟨_, wrIs_new W1, fun k hk => by rw [hk]; have := hb1.size; simp at this; omega⟩,
        ((BoxAt.new W [.int .i64 N, .int .i64 I, .string D] 49).later hb1).later ((Below.refl _ _).alloc (Nat.le_refl _) _), b1.trans (((Below.refl _ _).alloc (Nat.le_refl _) _).mono b1.size)⟩
    have c0 := L0.box.spot 0 _ rfl
    clear hb1 b1
    obtain ⟨hp1, hp2⟩ := bytes_parts N I D
    have z8 := int8_size N
    have z2 := int2_size I
    have z3 := int2_size ((D.size : Nat) : Int)
    have z4 := zerosB_size (104 - D.size)
    have z5 := fourT_size (sumC 0 (bytesC (bodyB N I D)))
    have z6 := bodyB_size (N := N) (I := I) hd
    have k1 := Lib.hid (fun w L => Lw.put (W0 := W) (cs := [.int .i64 N, .int .i64 I, .string D]) (w := w) (p := W1.heap.size) L (fun F hF => wrInt_any F w W1.heap.size ByteArray.empty 8 N hF (by decide) (by omega) (by omega)))
    have k2 := Lib.hid (fun w L => Lw.put (W0 := W) (cs := [.int .i64 N, .int .i64 I, .string D]) (w := w) (p := W1.heap.size) L (fun F hF => wrInt_any F w W1.heap.size (ByteArray.empty ++ intB 8 N) 2 I hF (by rw [ByteArray.empty_append]; omega) (by omega) (by omega)))
    have k3 := Lib.hid (fun w L => Lw.put (W0 := W) (cs := [.int .i64 N, .int .i64 I, .string D]) (w := w) (p := W1.heap.size) L (fun F hF => wrInt_any F w W1.heap.size ((ByteArray.empty ++ intB 8 N) ++ intB 2 I) 2 ((D.size : Nat) : Int) hF
      (by rw [ByteArray.empty_append, ByteArray.size_append]; omega) (by omega) (by omega)))
    have k4 := Lib.hid (fun w L => Lw.put (W0 := W) (cs := [.int .i64 N, .int .i64 I, .string D]) (w := w) (p := W1.heap.size) L (fun F hF => wrRaw_any F w W1.heap.size (((ByteArray.empty ++ intB 8 N) ++ intB 2 I) ++ intB 2 ((D.size : Nat) : Int)) D hF
      (by rw [ByteArray.empty_append, ByteArray.size_append, ByteArray.size_append]; omega) (by omega)))
    have k5 := Lib.hid (fun w L => Lw.put (W0 := W) (cs := [.int .i64 N, .int .i64 I, .string D]) (w := w) (p := W1.heap.size) L (fun F hF => wrRaw_any F w W1.heap.size ((((ByteArray.empty ++ intB 8 N) ++ intB 2 I) ++ intB 2 ((D.size : Nat) : Int)) ++ D) (zerosB (104 - D.size)) hF
      (by rw [ByteArray.empty_append, ByteArray.size_append, ByteArray.size_append, ByteArray.size_append]; omega) (by omega)))
    rw [hp1] at k5
    have k6 := Lib.hid (fun w L => Lw.say (W0 := W) (cs := [.int .i64 N, .int .i64 I, .string D]) (w := w) (p := W1.heap.size) L (fun F hF => wrStr_any F w W1.heap.size (bodyB N I D) hF (by omega)))
    have k7 := Lib.hid (fun w => sum_any 0 (by decide) (bodyB N I D) (by omega) w)
    rw [show ((0 : Nat) : Int) = 0 from rfl] at k7
    have k8 := Lib.hid (fun w => bytes4_any (sumC 0 (bytesC (bodyB N I D))) (sumC_lt _ _) w)
    have k9 := Lib.hid (fun w L => Lw.put (W0 := W) (cs := [.int .i64 N, .int .i64 I, .string D]) (w := w) (p := W1.heap.size) L (fun F hF => wrRaw_any F w W1.heap.size (bodyB N I D) (fourT (sumC 0 (bytesC (bodyB N I D)))) hF (by omega) (by omega)))
    have k10 := Lib.hid (fun w L => Lw.put (W0 := W) (cs := [.int .i64 N, .int .i64 I, .string D]) (w := w) (p := W1.heap.size) L (fun F hF => wrInt_any F w W1.heap.size (bodyB N I D ++ fourT (sumC 0 (bytesC (bodyB N I D)))) 8 N hF (by rw [ByteArray.size_append]; omega) (by omega) (by omega)))
    rw [hp2] at k10
    have k11 := Lib.hid (fun w L => Lw.say (W0 := W) (cs := [.int .i64 N, .int .i64 I, .string D]) (w := w) (p := W1.heap.size) L (fun F hF => wrStr_any F w W1.heap.size (secB N I D) hF (by rw [secB_size hd]; decide)))
    have hz := Lib.hid (noughts_any (104 - D.size) (by omega))
    clear hp1 hp2 z8 z2 z3 z4 z5 z6 l1 l2
    generalize bodyB N I D = body at *
    generalize sumC 0 (bytesC body) = sm at *
    generalize fourT sm = t4 at *
    go_wp2_with fail
    refine (k1.out _ L0).mono ?_
    clear k1 L0
    rintro e W2 ⟨rfl, L⟩
    replace c0 := L.box.spot 1 _ rfl
    go_wp2_with fail
    refine (k2.out _ L).mono ?_
    clear k2 L
    rintro e W3 ⟨rfl, L⟩
    replace c0 := L.box.spot 2 _ rfl
    go_wp2_with fail
    refine (k3.out _ L).mono ?_
    clear k3 L
    rintro e W4 ⟨rfl, L⟩
    replace c0 := L.box.spot 2 _ rfl
    go_wp2_with fail
    refine (k4.out _ L).mono ?_
    clear k4 L
    rintro e W5 ⟨rfl, L⟩
    replace c0 := L.box.spot 2 _ rfl
    go_wp2_with fail
    rw [hr.out]
    refine (hz.out _).mono ?_
    clear hz hr
    rintro e W6 ⟨rfl, hb⟩
    replace L := L.later hb
    clear hb c0
    go_wp2_with fail
    refine (k5.out _ L).mono ?_
    clear k5 L
    rintro e W7 ⟨rfl, L⟩
    go_wp2_with fail
    refine (k6.out _ L).mono ?_
    clear k6 L
    rintro e W8 ⟨rfl, L⟩
    go_wp2_with fail
    refine (k7.out _).mono ?_
    rintro e W9 ⟨rfl, rfl⟩
    go_wp2_with fail
    refine (k8.out _).mono ?_
    rintro e W9 ⟨rfl, hb⟩
    replace L := L.later hb
    clear hb
    go_wp2_with fail
    refine (k9.out _ L).mono ?_
    clear k9 L
    rintro e W10 ⟨rfl, L⟩
    replace c0 := L.box.spot 0 _ rfl
    go_wp2_with fail
    refine (k10.out _ L).mono ?_
    clear k10 L
    rintro e W11 ⟨rfl, L⟩
    go_wp2_with fail
    refine (k11.out _ L).mono ?_
    clear k11 L
    rintro e W12 ⟨rfl, L⟩
    go_wp2
    go_ret2
    exact ⟨by rw [hS.out, hE.out]; rfl, L.bel⟩
  · have hb := Lib.hid (show okLeaf N I D = false by simpa using hok)
    rw [hb.out] at hc
    have hS := Lib.hid (show bytesS N I D = ⟨#[]⟩ by unfold bytesS; rw [if_neg hok])
    have hE := Lib.hid (show bytesE N I D = 1 by unfold bytesE; rw [if_neg hok])
    unfold leafA at *
    clear hok
    go_enter Try.func46, Try.ntmps46
    go_wp2_with fail
    refine (hc.out _).mono ?_
    rintro e W1 ⟨rfl, hb1⟩
    have b1 : Below W.heap.size W W1 := ((Below.refl _ _).alloc (Nat.le_refl _) (.cells #[.int .i64 N, .int .i64 I, .string D] 49)).trans (hb1.mono (by simp))
    clear hb1
    go_wp2
    go_ret2
    exact ⟨by rw [hS.out, hE.out]; rfl, b1⟩
end Go.Proofs.Ytgolddcmhjdmdaa
