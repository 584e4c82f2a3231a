/- CrownRaw's walk, out of the landed contracts. -/
import Derived.Test.YtgolddcmhjdmdaaZUc
namespace Go.Proofs.Ytgolddcmhjdmdaa
open Go.RowKit Go.Sort Cr

/-- What is known of the newest head where it stands. -/
theorem newest_at {st : St} {h : Hd} (e : st.newest = some h) : h.Ok ∧ h.t.tmod 2 = ((h.spot : Nat) : Int) ∧ h.spot ≤ 1 ∧ ∃ N, leafOf (st.now h.spot) = some (N, 0, h.B) := by
  obtain ⟨ho, N, hl⟩ := newest_some e
  have ht := ho.t
  refine ⟨ho, ?_, h.spot_le.1, N, hl⟩
  rw [Int.tmod_eq_emod_of_nonneg (by omega)]
  exact h.spot_le.2
theorem held_raw {w wr w2 : World} {b bl : Nat} {x0 x1 x2 x3 y0 y1 y2 : Value} (h : Bx w wr b x0 x1 x2 x3) (hY : BoxAt wr bl [y0, y1, y2]) (hb : Below wr.heap.size wr w2) :
    w2.cell? ⟨b, 0, none⟩ = some x0 ∧ w2.cell? ⟨b, 1, none⟩ = some x1 ∧ w2.cell? ⟨b, 2, none⟩ = some x2 ∧ w2.cell? ⟨b, 3, none⟩ = some x3 ∧ w2.cell? ⟨bl, 1, none⟩ = some y1 ∧ w2.cell? ⟨bl, 2, none⟩ = some y2 ∧ Below wr.heap.size wr w2 :=
  ⟨(h.box.later hb).spot 0 _ rfl, (h.box.later hb).spot 1 _ rfl, (h.box.later hb).spot 2 _ rfl, (h.box.later hb).spot 3 _ rfl, (hY.later hb).spot 1 _ rfl, (hY.later hb).spot 2 _ rfl, hb⟩
theorem past_raw {wr w1 w2 : World} {A B C D E F : Prop} (hS : A ∧ B ∧ C ∧ D ∧ E ∧ F ∧ Below wr.heap.size wr w1) (hb : Below w1.heap.size w1 w2) : Below wr.heap.size wr w2 :=
  hS.2.2.2.2.2.2.trans (hb.mono hS.2.2.2.2.2.2.size)
/-- The disk behind the write of a text, which may be too long. -/
def RawTo (st st' : St) (i : Nat) (s : ByteArray) : Prop := (s.size ≤ 128 ∧ st' = (st.write (i : Int) s).2) ∨ (¬ s.size ≤ 128 ∧ st' = st)
theorem raw_to {st : St} {n k : Nat} (h : st.Calm n k) (i : Nat) (hi : i < n) (s : ByteArray) : ∃ st', RawTo st st' i s ∧ st'.Calm n (k + 1) := by
  by_cases e : s.size ≤ 128
  · obtain ⟨st', e1, C, _⟩ := h.write i hi s e
    exact ⟨st', .inl ⟨e, by rw [e1]⟩, C⟩
  · exact ⟨st, .inr ⟨e, rfl⟩, h.mono (by omega)⟩
set_option maxRecDepth 100000 in
set_option maxHeartbeats 4000000 in
theorem crownRaw_any {Dk : (Nat → Prop) → World → Nat → St → Prop} (K : LandedDk Dk) (S : LandedSt Dk) (L : LandedCr Dk) (a : ByteArray) (ha : a.size ≤ 140737488351232) (b : ByteArray) (hb : b.size ≤ 140737488351232) (w : World) :
    Calls Try.prog 7 #[.string a, .string b] w fun e w' => e = .returned (.bool true) ∧ Below w.heap.size w w' := by
  have hal := Lib.hid (crownAlive_any K L)
  have hnew := Lib.hid (fun W => K.new 2 W (by decide) (by decide))
  have C0 := St.Calm.new 2 (by omega)
  rw [show ((2 : Nat) : Int) = 2 from rfl] at C0
  generalize St.new 2 = st0 at *
  obtain ⟨st1, r1, C1⟩ := raw_to C0 0 (by omega) a
  obtain ⟨st2, r2, C2⟩ := raw_to C1 1 (by omega) b
  have hok2 := C2.ok (by omega) (by omega)
  have hlen := C2.len
  have hw1 := Lib.hid (fun F W p h => K.write F W p st0 0 a h (C0.ok (by omega) (by omega)) ha)
  have hw2 := Lib.hid (fun F W p h => K.write F W p st1 1 b h (C1.ok (by omega) (by omega)) hb)
  have hget := Lib.hid (fun F W p h => L.newest F W p st2 h hok2)
  unfold RawTo at r1 r2
  rw [show ((0 : Nat) : Int) = 0 from rfl] at r1
  rw [show ((1 : Nat) : Int) = 1 from rfl] at r2
  have hrd := Lib.hid (fun (i : Nat) (hi : i < 2) => (fun F W p h => by
    have := K.read F W p st2 (i : Int) h hok2
    rw [(rd_now (st := st2) (i := i) (by omega)).1, (rd_now (st := st2) (i := i) (by omega)).2] at this
    exact this : ∀ F W p, Dk F W p st2 → Calls Try.prog 20 #[.pointer (some ⟨p, 0, none⟩), .int .i64 (i : Int)] W fun e W' => e = .returned (.tuple #[.string (st2.now i), .int .i64 0]) ∧ Below W.heap.size W W'))
  have hsr := Lib.hid (fun i W (hi : i < 2) => S.read (st2.now i) W (by rw [now_size hok2 i (by omega)]; omega))
  have hcase : st2.newest = none ∨ ∃ h N, st2.newest = some h ∧ h.Ok ∧ h.t.tmod 2 = ((h.spot : Nat) : Int) ∧ h.spot ≤ 1 ∧ leafOf (st2.now h.spot) = some (N, 0, h.B) := by
    cases e : st2.newest with
    | none => exact .inl rfl
    | some h =>
      obtain ⟨h1, h2, h3, N, h4⟩ := newest_at e
      exact .inr ⟨h, N, rfl, h1, h2, h3, h4⟩
  clear C0 C1 C2 hok2 hlen
  rcases r1 with ⟨d1, rfl⟩ | ⟨d1, rfl⟩
  · have d1' : (a.size : Int) ≤ 128 := by omega
    rcases r2 with ⟨d2, rfl⟩ | ⟨d2, rfl⟩
    · have d2' : (b.size : Int) ≤ 128 := by omega
      go_enter Try.func7, Try.ntmps7
      go_wp2_with fail
      refine (hal.out _).mono ?_
      rintro e w1 ⟨rfl, hb1⟩
      go_wp2_with fail
      refine (hnew.out _).mono ?_
      rintro e w2 hm
      obtain ⟨p, _, rfl, -⟩ := id hm
      have hT := Have.made hb1 hm
      clear hm hb1 hnew hal
      replace hw1 := Lib.hid (hT.op (fun F h => hw1.out F _ _ h))
      clear hT
      go_wp2_with fail
      refine hw1.out.mono ?_
      rintro e w3 ⟨rfl, hT⟩
      clear hw1
      replace hw2 := Lib.hid (hT.op (fun F h => hw2.out F _ _ h))
      clear hT
      go_wp2_with fail
      refine hw2.out.mono ?_
      rintro e w4 ⟨rfl, hT⟩
      clear hw2
      rcases hcase with hn | ⟨h, N, hn, hok, hmod, hsp, hlf⟩
      · rw [hn, show hdO none = hd0 from rfl, show (none : Option Hd).isSome = false from rfl] at hget
        unfold headA hd0 at hget
        dsimp only at hget
        replace hget := Lib.hid (hT.ask K (fun F h => hget.out F _ _ h))
        clear hT
        go_wp2_with fail
        refine hget.out.mono ?_
        rintro e w5 ⟨rfl, hT⟩
        have hb1 := hT.below
        have hbl : Below w.heap.size w (w5.alloc (.cells #[.int .i64 0, .int .i64 0, .int .i64 0, .int .i64 0] 23)) := hb1.alloc hb1.size _
        clear hget hT
        go_wp2
        go_ret
        exact ⟨by first | rfl | simp, hbl⟩
      · rw [hn, show hdO (some h) = h from rfl, show (some h).isSome = true from rfl] at hget
        have hlg := Lib.hid (fun W => lawgood_any h hok.isIn W)
        have hlb := Lib.hid (fun W => lawbytes_any h W)
        rw [(Hd.good_iff h).2 hok] at hlg
        have hsr2 := Lib.hid (fun W => hsr.out h.spot W (by omega))
        rw [hlf] at hsr2
        have hrd2 := Lib.hid (hrd.out h.spot (by omega))
        have hl3 : (h.B.toList == h.B.toList) = true := beq_self_eq_true _
        generalize h.B = hB at *
        generalize hsx : h.spot = sp at *
        clear hsx hsr hrd hn hok
        unfold headA at *
        unfold leafV leafA at hsr2
        obtain ⟨t, n, z, q⟩ := h
        dsimp only at *
        rw [show (some (N, (0 : Int), hB)).isSome = true from rfl] at hsr2
        replace hget := Lib.hid (hT.ask K (fun F h => hget.out F _ _ h))
        clear hT
        go_wp2_with fail
        refine hget.out.mono ?_
        rintro e w5 ⟨rfl, hT⟩
        clear hget
        have hX := Bx.made hT.below (.int .i64 t) (.int .i64 n) (.int .i64 z) (.int .i64 q)
        replace hT := hT.later K ((Below.refl w5.heap.size w5).alloc (Nat.le_refl _) (.cells #[.int .i64 t, .int .i64 n, .int .i64 z, .int .i64 q] 23))
        replace hrd2 := Lib.hid (hT.ask2 K hX (fun F h => hrd2.out F _ _ h))
        go_wp2_with fail
        refine hrd2.out.mono ?_
        rintro e w7 ⟨rfl, hT, hX⟩
        clear hrd2
        generalize w5.heap.size = bk at *
        go_wp2_with fail
        refine (hsr2.out _).mono ?_
        rintro e w8 ⟨rfl, hb8⟩
        replace hX := hX.later hb8
        clear hT hsr2
        have hY := BoxAt.new w8 [.int .i64 N, .int .i64 0, .string hB] 49
        have ha8 : Below w8.heap.size w8 (w8.alloc (.cells #[.int .i64 N, .int .i64 0, .string hB] 49)) := (Below.refl _ _).alloc (Nat.le_refl _) _
        replace hX := hX.later ha8
        clear hb8 ha8
        obtain ⟨c0, c1, c2, c3, lt⟩ := hX.cells
        generalize hw9 : w8.alloc (.cells #[.int .i64 N, .int .i64 0, .string hB] 49) = w9 at *
        go_wp2_with fail
        clear hw9 c0 c1 c2 c3 lt
        generalize w8.heap.size = bl at *
        go_region_held3 (fun w' => w'.cell? ⟨bk, 0, none⟩ = some (.int .i64 t) ∧ w'.cell? ⟨bk, 1, none⟩ = some (.int .i64 n) ∧ w'.cell? ⟨bk, 2, none⟩ = some (.int .i64 z) ∧ w'.cell? ⟨bk, 3, none⟩ = some (.int .i64 q) ∧ w'.cell? ⟨bl, 1, none⟩ = some (.int .i64 0) ∧ w'.cell? ⟨bl, 2, none⟩ = some (.string hB) ∧ Below w9.heap.size w9 w')
          (first | exact held_raw hX hY (Below.refl _ _) | exact held_raw hX hY ((Below.refl _ _).drew) | exact held_raw hX hY (past_raw (by assumption) hbx) | exact held_raw hX hY (past_raw (by assumption) ((Below.refl _ _).drew)))
          (first | (go_at_call 11; with_reducible refine (hlg.out _).mono ?_; rintro e wx ⟨rfl, hbx⟩) | (go_at_call 13; with_reducible refine (hlb.out _).mono ?_; rintro e wx ⟨rfl, hbx⟩))
        rename_i hH
        have hbl := hX.bel.trans (hH.2.2.2.2.2.2.mono hX.bel.size)
        clear hH hX hY
        go_wp2
        go_ret
        exact ⟨by first | rfl | simp, hbl⟩
    · have d2' : ¬ (b.size : Int) ≤ 128 := by omega
      go_enter Try.func7, Try.ntmps7
      go_wp2_with fail
      refine (hal.out _).mono ?_
      rintro e w1 ⟨rfl, hb1⟩
      go_wp2_with fail
      refine (hnew.out _).mono ?_
      rintro e w2 hm
      obtain ⟨p, _, rfl, -⟩ := id hm
      have hT := Have.made hb1 hm
      clear hm hb1 hnew hal
      replace hw1 := Lib.hid (hT.op (fun F h => hw1.out F _ _ h))
      clear hT
      go_wp2_with fail
      refine hw1.out.mono ?_
      rintro e w3 ⟨rfl, hT⟩
      clear hw1
      rcases hcase with hn | ⟨h, N, hn, hok, hmod, hsp, hlf⟩
      · rw [hn, show hdO none = hd0 from rfl, show (none : Option Hd).isSome = false from rfl] at hget
        unfold headA hd0 at hget
        dsimp only at hget
        replace hget := Lib.hid (hT.ask K (fun F h => hget.out F _ _ h))
        clear hT
        go_wp2_with fail
        refine hget.out.mono ?_
        rintro e w5 ⟨rfl, hT⟩
        have hb1 := hT.below
        have hbl : Below w.heap.size w (w5.alloc (.cells #[.int .i64 0, .int .i64 0, .int .i64 0, .int .i64 0] 23)) := hb1.alloc hb1.size _
        clear hget hT
        go_wp2
        go_ret
        exact ⟨by first | rfl | simp, hbl⟩
      · rw [hn, show hdO (some h) = h from rfl, show (some h).isSome = true from rfl] at hget
        have hlg := Lib.hid (fun W => lawgood_any h hok.isIn W)
        have hlb := Lib.hid (fun W => lawbytes_any h W)
        rw [(Hd.good_iff h).2 hok] at hlg
        have hsr2 := Lib.hid (fun W => hsr.out h.spot W (by omega))
        rw [hlf] at hsr2
        have hrd2 := Lib.hid (hrd.out h.spot (by omega))
        have hl3 : (h.B.toList == h.B.toList) = true := beq_self_eq_true _
        generalize h.B = hB at *
        generalize hsx : h.spot = sp at *
        clear hsx hsr hrd hn hok
        unfold headA at *
        unfold leafV leafA at hsr2
        obtain ⟨t, n, z, q⟩ := h
        dsimp only at *
        rw [show (some (N, (0 : Int), hB)).isSome = true from rfl] at hsr2
        replace hget := Lib.hid (hT.ask K (fun F h => hget.out F _ _ h))
        clear hT
        go_wp2_with fail
        refine hget.out.mono ?_
        rintro e w5 ⟨rfl, hT⟩
        clear hget
        have hX := Bx.made hT.below (.int .i64 t) (.int .i64 n) (.int .i64 z) (.int .i64 q)
        replace hT := hT.later K ((Below.refl w5.heap.size w5).alloc (Nat.le_refl _) (.cells #[.int .i64 t, .int .i64 n, .int .i64 z, .int .i64 q] 23))
        replace hrd2 := Lib.hid (hT.ask2 K hX (fun F h => hrd2.out F _ _ h))
        go_wp2_with fail
        refine hrd2.out.mono ?_
        rintro e w7 ⟨rfl, hT, hX⟩
        clear hrd2
        generalize w5.heap.size = bk at *
        go_wp2_with fail
        refine (hsr2.out _).mono ?_
        rintro e w8 ⟨rfl, hb8⟩
        replace hX := hX.later hb8
        clear hT hsr2
        have hY := BoxAt.new w8 [.int .i64 N, .int .i64 0, .string hB] 49
        have ha8 : Below w8.heap.size w8 (w8.alloc (.cells #[.int .i64 N, .int .i64 0, .string hB] 49)) := (Below.refl _ _).alloc (Nat.le_refl _) _
        replace hX := hX.later ha8
        clear hb8 ha8
        obtain ⟨c0, c1, c2, c3, lt⟩ := hX.cells
        generalize hw9 : w8.alloc (.cells #[.int .i64 N, .int .i64 0, .string hB] 49) = w9 at *
        go_wp2_with fail
        clear hw9 c0 c1 c2 c3 lt
        generalize w8.heap.size = bl at *
        go_region_held3 (fun w' => w'.cell? ⟨bk, 0, none⟩ = some (.int .i64 t) ∧ w'.cell? ⟨bk, 1, none⟩ = some (.int .i64 n) ∧ w'.cell? ⟨bk, 2, none⟩ = some (.int .i64 z) ∧ w'.cell? ⟨bk, 3, none⟩ = some (.int .i64 q) ∧ w'.cell? ⟨bl, 1, none⟩ = some (.int .i64 0) ∧ w'.cell? ⟨bl, 2, none⟩ = some (.string hB) ∧ Below w9.heap.size w9 w')
          (first | exact held_raw hX hY (Below.refl _ _) | exact held_raw hX hY ((Below.refl _ _).drew) | exact held_raw hX hY (past_raw (by assumption) hbx) | exact held_raw hX hY (past_raw (by assumption) ((Below.refl _ _).drew)))
          (first | (go_at_call 11; with_reducible refine (hlg.out _).mono ?_; rintro e wx ⟨rfl, hbx⟩) | (go_at_call 13; with_reducible refine (hlb.out _).mono ?_; rintro e wx ⟨rfl, hbx⟩))
        rename_i hH
        have hbl := hX.bel.trans (hH.2.2.2.2.2.2.mono hX.bel.size)
        clear hH hX hY
        go_wp2
        go_ret
        exact ⟨by first | rfl | simp, hbl⟩
  · have d1' : ¬ (a.size : Int) ≤ 128 := by omega
    rcases r2 with ⟨d2, rfl⟩ | ⟨d2, rfl⟩
    · have d2' : (b.size : Int) ≤ 128 := by omega
      go_enter Try.func7, Try.ntmps7
      go_wp2_with fail
      refine (hal.out _).mono ?_
      rintro e w1 ⟨rfl, hb1⟩
      go_wp2_with fail
      refine (hnew.out _).mono ?_
      rintro e w2 hm
      obtain ⟨p, _, rfl, -⟩ := id hm
      have hT := Have.made hb1 hm
      clear hm hb1 hnew hal
      replace hw2 := Lib.hid (hT.op (fun F h => hw2.out F _ _ h))
      clear hT
      go_wp2_with fail
      refine hw2.out.mono ?_
      rintro e w4 ⟨rfl, hT⟩
      clear hw2
      rcases hcase with hn | ⟨h, N, hn, hok, hmod, hsp, hlf⟩
      · rw [hn, show hdO none = hd0 from rfl, show (none : Option Hd).isSome = false from rfl] at hget
        unfold headA hd0 at hget
        dsimp only at hget
        replace hget := Lib.hid (hT.ask K (fun F h => hget.out F _ _ h))
        clear hT
        go_wp2_with fail
        refine hget.out.mono ?_
        rintro e w5 ⟨rfl, hT⟩
        have hb1 := hT.below
        have hbl : Below w.heap.size w (w5.alloc (.cells #[.int .i64 0, .int .i64 0, .int .i64 0, .int .i64 0] 23)) := hb1.alloc hb1.size _
        clear hget hT
        go_wp2
        go_ret
        exact ⟨by first | rfl | simp, hbl⟩
      · rw [hn, show hdO (some h) = h from rfl, show (some h).isSome = true from rfl] at hget
        have hlg := Lib.hid (fun W => lawgood_any h hok.isIn W)
        have hlb := Lib.hid (fun W => lawbytes_any h W)
        rw [(Hd.good_iff h).2 hok] at hlg
        have hsr2 := Lib.hid (fun W => hsr.out h.spot W (by omega))
        rw [hlf] at hsr2
        have hrd2 := Lib.hid (hrd.out h.spot (by omega))
        have hl3 : (h.B.toList == h.B.toList) = true := beq_self_eq_true _
        generalize h.B = hB at *
        generalize hsx : h.spot = sp at *
        clear hsx hsr hrd hn hok
        unfold headA at *
        unfold leafV leafA at hsr2
        obtain ⟨t, n, z, q⟩ := h
        dsimp only at *
        rw [show (some (N, (0 : Int), hB)).isSome = true from rfl] at hsr2
        replace hget := Lib.hid (hT.ask K (fun F h => hget.out F _ _ h))
        clear hT
        go_wp2_with fail
        refine hget.out.mono ?_
        rintro e w5 ⟨rfl, hT⟩
        clear hget
        have hX := Bx.made hT.below (.int .i64 t) (.int .i64 n) (.int .i64 z) (.int .i64 q)
        replace hT := hT.later K ((Below.refl w5.heap.size w5).alloc (Nat.le_refl _) (.cells #[.int .i64 t, .int .i64 n, .int .i64 z, .int .i64 q] 23))
        replace hrd2 := Lib.hid (hT.ask2 K hX (fun F h => hrd2.out F _ _ h))
        go_wp2_with fail
        refine hrd2.out.mono ?_
        rintro e w7 ⟨rfl, hT, hX⟩
        clear hrd2
        generalize w5.heap.size = bk at *
        go_wp2_with fail
        refine (hsr2.out _).mono ?_
        rintro e w8 ⟨rfl, hb8⟩
        replace hX := hX.later hb8
        clear hT hsr2
        have hY := BoxAt.new w8 [.int .i64 N, .int .i64 0, .string hB] 49
        have ha8 : Below w8.heap.size w8 (w8.alloc (.cells #[.int .i64 N, .int .i64 0, .string hB] 49)) := (Below.refl _ _).alloc (Nat.le_refl _) _
        replace hX := hX.later ha8
        clear hb8 ha8
        obtain ⟨c0, c1, c2, c3, lt⟩ := hX.cells
        generalize hw9 : w8.alloc (.cells #[.int .i64 N, .int .i64 0, .string hB] 49) = w9 at *
        go_wp2_with fail
        clear hw9 c0 c1 c2 c3 lt
        generalize w8.heap.size = bl at *
        go_region_held3 (fun w' => w'.cell? ⟨bk, 0, none⟩ = some (.int .i64 t) ∧ w'.cell? ⟨bk, 1, none⟩ = some (.int .i64 n) ∧ w'.cell? ⟨bk, 2, none⟩ = some (.int .i64 z) ∧ w'.cell? ⟨bk, 3, none⟩ = some (.int .i64 q) ∧ w'.cell? ⟨bl, 1, none⟩ = some (.int .i64 0) ∧ w'.cell? ⟨bl, 2, none⟩ = some (.string hB) ∧ Below w9.heap.size w9 w')
          (first | exact held_raw hX hY (Below.refl _ _) | exact held_raw hX hY ((Below.refl _ _).drew) | exact held_raw hX hY (past_raw (by assumption) hbx) | exact held_raw hX hY (past_raw (by assumption) ((Below.refl _ _).drew)))
          (first | (go_at_call 11; with_reducible refine (hlg.out _).mono ?_; rintro e wx ⟨rfl, hbx⟩) | (go_at_call 13; with_reducible refine (hlb.out _).mono ?_; rintro e wx ⟨rfl, hbx⟩))
        rename_i hH
        have hbl := hX.bel.trans (hH.2.2.2.2.2.2.mono hX.bel.size)
        clear hH hX hY
        go_wp2
        go_ret
        exact ⟨by first | rfl | simp, hbl⟩
    · have d2' : ¬ (b.size : Int) ≤ 128 := by omega
      go_enter Try.func7, Try.ntmps7
      go_wp2_with fail
      refine (hal.out _).mono ?_
      rintro e w1 ⟨rfl, hb1⟩
      go_wp2_with fail
      refine (hnew.out _).mono ?_
      rintro e w2 hm
      obtain ⟨p, _, rfl, -⟩ := id hm
      have hT := Have.made hb1 hm
      clear hm hb1 hnew hal
      rcases hcase with hn | ⟨h, N, hn, hok, hmod, hsp, hlf⟩
      · rw [hn, show hdO none = hd0 from rfl, show (none : Option Hd).isSome = false from rfl] at hget
        unfold headA hd0 at hget
        dsimp only at hget
        replace hget := Lib.hid (hT.ask K (fun F h => hget.out F _ _ h))
        clear hT
        go_wp2_with fail
        refine hget.out.mono ?_
        rintro e w5 ⟨rfl, hT⟩
        have hb1 := hT.below
        have hbl : Below w.heap.size w (w5.alloc (.cells #[.int .i64 0, .int .i64 0, .int .i64 0, .int .i64 0] 23)) := hb1.alloc hb1.size _
        clear hget hT
        go_wp2
        go_ret
        exact ⟨by first | rfl | simp, hbl⟩
      · rw [hn, show hdO (some h) = h from rfl, show (some h).isSome = true from rfl] at hget
        have hlg := Lib.hid (fun W => lawgood_any h hok.isIn W)
        have hlb := Lib.hid (fun W => lawbytes_any h W)
        rw [(Hd.good_iff h).2 hok] at hlg
        have hsr2 := Lib.hid (fun W => hsr.out h.spot W (by omega))
        rw [hlf] at hsr2
        have hrd2 := Lib.hid (hrd.out h.spot (by omega))
        have hl3 : (h.B.toList == h.B.toList) = true := beq_self_eq_true _
        generalize h.B = hB at *
        generalize hsx : h.spot = sp at *
        clear hsx hsr hrd hn hok
        unfold headA at *
        unfold leafV leafA at hsr2
        obtain ⟨t, n, z, q⟩ := h
        dsimp only at *
        rw [show (some (N, (0 : Int), hB)).isSome = true from rfl] at hsr2
        replace hget := Lib.hid (hT.ask K (fun F h => hget.out F _ _ h))
        clear hT
        go_wp2_with fail
        refine hget.out.mono ?_
        rintro e w5 ⟨rfl, hT⟩
        clear hget
        have hX := Bx.made hT.below (.int .i64 t) (.int .i64 n) (.int .i64 z) (.int .i64 q)
        replace hT := hT.later K ((Below.refl w5.heap.size w5).alloc (Nat.le_refl _) (.cells #[.int .i64 t, .int .i64 n, .int .i64 z, .int .i64 q] 23))
        replace hrd2 := Lib.hid (hT.ask2 K hX (fun F h => hrd2.out F _ _ h))
        go_wp2_with fail
        refine hrd2.out.mono ?_
        rintro e w7 ⟨rfl, hT, hX⟩
        clear hrd2
        generalize w5.heap.size = bk at *
        go_wp2_with fail
        refine (hsr2.out _).mono ?_
        rintro e w8 ⟨rfl, hb8⟩
        replace hX := hX.later hb8
        clear hT hsr2
        have hY := BoxAt.new w8 [.int .i64 N, .int .i64 0, .string hB] 49
        have ha8 : Below w8.heap.size w8 (w8.alloc (.cells #[.int .i64 N, .int .i64 0, .string hB] 49)) := (Below.refl _ _).alloc (Nat.le_refl _) _
        replace hX := hX.later ha8
        clear hb8 ha8
        obtain ⟨c0, c1, c2, c3, lt⟩ := hX.cells
        generalize hw9 : w8.alloc (.cells #[.int .i64 N, .int .i64 0, .string hB] 49) = w9 at *
        go_wp2_with fail
        clear hw9 c0 c1 c2 c3 lt
        generalize w8.heap.size = bl at *
        go_region_held3 (fun w' => w'.cell? ⟨bk, 0, none⟩ = some (.int .i64 t) ∧ w'.cell? ⟨bk, 1, none⟩ = some (.int .i64 n) ∧ w'.cell? ⟨bk, 2, none⟩ = some (.int .i64 z) ∧ w'.cell? ⟨bk, 3, none⟩ = some (.int .i64 q) ∧ w'.cell? ⟨bl, 1, none⟩ = some (.int .i64 0) ∧ w'.cell? ⟨bl, 2, none⟩ = some (.string hB) ∧ Below w9.heap.size w9 w')
          (first | exact held_raw hX hY (Below.refl _ _) | exact held_raw hX hY ((Below.refl _ _).drew) | exact held_raw hX hY (past_raw (by assumption) hbx) | exact held_raw hX hY (past_raw (by assumption) ((Below.refl _ _).drew)))
          (first | (go_at_call 11; with_reducible refine (hlg.out _).mono ?_; rintro e wx ⟨rfl, hbx⟩) | (go_at_call 13; with_reducible refine (hlb.out _).mono ?_; rintro e wx ⟨rfl, hbx⟩))
        rename_i hH
        have hbl := hX.bel.trans (hH.2.2.2.2.2.2.mono hX.bel.size)
        clear hH hX hY
        go_wp2
        go_ret
        exact ⟨by first | rfl | simp, hbl⟩
end Go.Proofs.Ytgolddcmhjdmdaa
