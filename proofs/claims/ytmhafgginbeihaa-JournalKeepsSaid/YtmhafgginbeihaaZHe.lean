/- The landed journal's write, and Add. No condition but the disk's, a landed stamp's, and sizes. -/
import Derived.Test.YtmhafgginbeihaaZHd
namespace Go.Proofs.Ytmhafgginbeihaa
open Go.RowKit Go.Sort Cr Wm

theorem St.Room.less {st : St} {n m : Nat} (h : st.Room n) (hm : m ≤ n) : st.Room m :=
  ⟨h.safe, h.data, h.many, by have := h.few; omega, by have := h.ops; omega, by have := h.arm; omega⟩
theorem layAll_room (N : Int) (s : ByteArray) (f m : Nat) : ∀ (k i : Nat) (st : St), st.Room (k + m) → (layAll N s f i k st).2.Room m
  | 0, _, st, h => h.less (by omega)
  | k + 1, i, st, h => by
    have h2 := St.Room.write (n := k + m) (h.less (by omega)) ((f + i : Nat) : Int) (secB N ((i : Nat) : Int) (partS s i))
    rw [layAll]
    split
    · exact layAll_room N s f m k (i + 1) _ h2
    · exact h2.less (by omega)
theorem lay_room {st : St} {s : ByteArray} {m : Nat} (h : st.Room (countN s.size + m)) (fr upto N : Int) : (st.lay fr upto N s).2.Room m := by
  unfold St.lay
  split
  · split
    · exact h.less (by omega)
    · exact layAll_room N s _ m _ _ _ h
  · exact h.less (by omega)
theorem Tk.int {W0 w : World} {p : Nat} {bs : ByteArray} (h : Tk W0 w p bs) (size n : Int) (hb : bs.size ≤ 800000) (h1 : -9223372036854775808 ≤ n) (h2 : n ≤ 9223372036854775807) :
    Calls Try.prog 49 #[.pointer (some ⟨p, 0, none⟩), .int .i64 size, .int .i64 n] w fun e w' => e = .returned (.tuple #[]) ∧ Tk W0 w' p (bs ++ intB size n) := by
  obtain ⟨F, h3, h4⟩ := h.wr
  refine (wrInt_any F w p bs size n h3 hb h1 h2).mono ?_
  rintro e w' ⟨rfl, F', k1, k2, k3⟩
  refine ⟨rfl, ⟨F', k1, fun k hk => ?_⟩, h.bel.trans (k2.to_below h.bel.size (fun k hk => h4 _ hk))⟩
  by_cases e : k < w.heap.size
  · exact h4 k (k3 k e hk)
  · have := h.bel.size
    omega
theorem DkPost.before {Dk : (Nat → Prop) → World → Nat → St → Prop} {F : Nat → Prop} {p : Nat} {st : St} {W0 W W1 : World} (hb : Below W0.heap.size W0 W) (h : DkPost Dk F p st W W1) : DkPost Dk F p st W0 W1 := by
  obtain ⟨F', h1, h2, h3⟩ := h
  exact ⟨F', h1, (Only.of_below (F := F) hb).trans h2 (fun _ _ e => e), fun k hk e => h3 k (Nat.lt_of_lt_of_le hk hb.size) e⟩
/-- What writing the next record answers, and makes of the disk. -/
def writeJ (st : St) (js : JSt) (N : Int) (s : ByteArray) : Int × St :=
  if (st.lay (js.spot : Int) (js.upto : Int) N (frameB (js.seq + 1) s)).1 ≠ 0 then st.lay (js.spot : Int) (js.upto : Int) N (frameB (js.seq + 1) s) else (st.lay (js.spot : Int) (js.upto : Int) N (frameB (js.seq + 1) s)).2.sync
theorem JoV.heldC {W' : World} {j p : Nat} {js : JSt} (h : JoV W' j p js) :
    W'.cell? ⟨j, 0, none⟩ = some (.pointer (some ⟨p, 0, none⟩)) ∧ W'.cell? ⟨j, 2, none⟩ = some (.int .i64 (js.upto : Int)) ∧ W'.cell? ⟨j, 3, none⟩ = some (.int .i64 (js.spot : Int)) ∧ W'.cell? ⟨j, 4, none⟩ = some (.int .i64 js.seq) :=
  ⟨h.c0, h.c2, h.c3, h.c4⟩
set_option maxRecDepth 100000 in
set_option maxHeartbeats 1000000 in
theorem jwrite_any {Dk : (Nat → Prop) → World → Nat → St → Prop} (K : LandedDk Dk) (S : LandedSt Dk) (G : Nat → Prop) (W : World) (j p : Nat) (st : St) (js : JSt) (N : Int) (s : ByteArray) (hd : Dk G W p st) (hV : JoV W j p js) (hg : ¬ G j)
    (hroom : st.Room (cntR s.size + 1)) (hs : s.size ≤ 32768) (hq : js.seq < 1152921504606846976) :
    Calls Try.prog 36 #[.pointer (some ⟨j, 0, none⟩), .int .i64 N, .string s] W fun e W' => e = .returned (.int .i64 (writeJ st js N s).1) ∧ DkPost Dk G p (writeJ st js N s).2 W W' := by
  have hf := hV.few
  have hj := Lib.hid hV
  have hfs := frameB_size (js.seq + 1) s
  have hcn : countN (frameB (js.seq + 1) s).size = cntR s.size := by rw [hfs]; rfl
  have hlay := Lib.hid (fun W1 (hb : Below W.heap.size W W1) => S.lay G W1 p st (js.spot : Int) (js.upto : Int) N (frameB (js.seq + 1) s) (K.later hd hb) (by rw [hcn]; exact hroom.less (by omega)) (by omega))
  have hr2 := lay_room (s := frameB (js.seq + 1) s) (m := 1) (by rw [hcn]; exact hroom) (js.spot : Int) (js.upto : Int) N
  have hW := Lib.hid (show writeJ st js N s = if (st.lay (js.spot : Int) (js.upto : Int) N (frameB (js.seq + 1) s)).1 ≠ 0 then st.lay (js.spot : Int) (js.upto : Int) N (frameB (js.seq + 1) s) else (st.lay (js.spot : Int) (js.upto : Int) N (frameB (js.seq + 1) s)).2.sync from rfl)
  have hfr := Lib.hid (show ((ByteArray.empty ++ intB 8 (js.seq + 1)) ++ intB 4 ((s.size : Nat) : Int)) ++ s = frameB (js.seq + 1) s by unfold frameB; rw [ByteArray.empty_append, ByteArray.append_assoc])
  have hz1 : (ByteArray.empty ++ intB 8 (js.seq + 1)).size = 8 := by rw [ByteArray.empty_append, int8_size]
  have hz2 : ((ByteArray.empty ++ intB 8 (js.seq + 1)) ++ intB 4 ((s.size : Nat) : Int)).size = 12 := by rw [ByteArray.size_append, hz1, int4_size]
  have k1 := Lib.hid (fun w (h : Tk W w W.heap.size ByteArray.empty) => h.int 8 (js.seq + 1) (Nat.zero_le _) (by omega) (by omega))
  have k2 := Lib.hid (fun w (h : Tk W w W.heap.size (ByteArray.empty ++ intB 8 (js.seq + 1))) => h.int 4 ((s.size : Nat) : Int) (by omega) (by omega) (by omega))
  have k3 := Lib.hid (fun w (h : Tk W w W.heap.size ((ByteArray.empty ++ intB 8 (js.seq + 1)) ++ intB 4 ((s.size : Nat) : Int))) => h.raw s (by omega) (by omega))
  rw [hfr.out] at k3
  have k4 := Lib.hid (fun w (h : Tk W w W.heap.size (frameB (js.seq + 1) s)) => h.str (by omega))
  generalize ByteArray.empty ++ intB 8 (js.seq + 1) = b1 at *
  generalize b1 ++ intB 4 ((s.size : Nat) : Int) = b2 at *
  generalize frameB (js.seq + 1) s = fb at *
  generalize st.lay (js.spot : Int) (js.upto : Int) N fb = lr at *
  generalize writeJ st js N s = wj at *
  have hwq : IntKind.i64.wrap (js.seq + 1) = js.seq + 1 := by rw [IntKind.wrap_i64]; omega
  have hT0 : Tk W (W.alloc (.cells #[.slice none 0 0] 81)) W.heap.size ByteArray.empty := ⟨⟨fun k => k = W.heap.size, wrIs_new W, fun k hk => by omega⟩, (Below.refl _ _).alloc (Nat.le_refl _) _⟩
  clear hfs hcn hz1 hz2 hfr
  go_enter Try.func36, Try.ntmps36
  have c4 := hj.out.c4
  have lt := hj.out.lt
  go_wp2_with fail
  refine (k1.out _ hT0).mono ?_
  rintro e w1 ⟨rfl, hT1⟩
  clear c4 lt hT0 k1
  go_wp2_with fail
  refine (k2.out _ hT1).mono ?_
  rintro e w2 ⟨rfl, hT2⟩
  clear k2 hT1
  go_wp2_with fail
  refine (k3.out _ hT2).mono ?_
  rintro e w3 ⟨rfl, hT3⟩
  clear k3 hT2
  have hT3d := hT3.later ((Below.refl _ _).drew)
  go_wp2_with fail
  go_region_held3 (fun w' => w'.cell? ⟨j, 0, none⟩ = some (.pointer (some ⟨p, 0, none⟩)) ∧ w'.cell? ⟨j, 2, none⟩ = some (.int .i64 (js.upto : Int)) ∧ w'.cell? ⟨j, 3, none⟩ = some (.int .i64 (js.spot : Int)) ∧ w'.cell? ⟨j, 4, none⟩ = some (.int .i64 js.seq))
    (first | exact (hj.out.later hT3.bel).heldC | exact (hj.out.later hT3d.bel).heldC | exact (hj.out.later (Tk.bel hTx)).heldC | exact ((hj.out.later (Tk.bel hTx)).keep (DkPost.only hPx) hg).heldC)
    (first | (go_at_call 52; with_reducible refine (k4.out _ hT3d).mono ?_; rintro e wx ⟨rfl, hTx⟩) | (go_at_call 51; with_reducible refine (hlay.out _ (Tk.bel hTx)).mono ?_; rintro e wy ⟨rfl, hPx⟩))
  rename_i hH
  obtain ⟨F2, d1, d2, d3⟩ := hPx.before hTx.bel
  have hj2 := (hj.out.later hTx.bel).keep hPx.only hg
  clear hH hTx hT3 hT3d hlay k4 hPx
  replace hW := hW.out
  by_cases he : lr.1 = 0
  · rw [if_neg (fun h => h he)] at hW
    subst hW
    have hsy := Lib.hid (K.sync F2 wy p lr.2 d1 hr2.ok)
    have c0 := hj2.c0
    go_wp2_with fail
    refine (hsy.out).mono ?_
    rintro e w5 ⟨rfl, F3, n1, n2, n3⟩
    have hP : DkPost Dk G p lr.2.sync.2 W w5 := ⟨F3, n1, d2.trans n2 (fun k hk e => d3 k hk e), fun k hk e => d3 k hk (n3 k (Nat.lt_of_lt_of_le hk d2.size) e)⟩
    clear hsy d1 d2 d3 n1 n2 n3
    go_wp2
    go_ret
    exact ⟨rfl, hP⟩
  · rw [if_pos he] at hW
    subst hW
    have hP : DkPost Dk G p wj.2 W wy := ⟨F2, d1, d2, d3⟩
    go_wp2
    go_ret
    exact ⟨rfl, hP⟩
theorem addJ_write {st : St} {js : JSt} {N : Int} {s : ByteArray} (h1 : js.sick = false) (h2 : 1 ≤ N ∧ N ≤ 1152921504606846976) (h3 : js.room ((s.size : Nat) : Int) = true) :
    addJ st js N s = if (writeJ st js N s).1 ≠ 0 then ((writeJ st js N s).1, (writeJ st js N s).2, { js with sick := true }) else (0, (writeJ st js N s).2, { js with spot := js.spot + cntR s.size, seq := js.seq + 1 }) := by
  unfold addJ writeJ
  rw [h1, if_neg (by decide), if_neg (fun e => e h2), if_neg (fun e => e h3)]
  generalize st.lay (js.spot : Int) (js.upto : Int) N (frameB (js.seq + 1) s) = lr
  by_cases e : lr.1 ≠ 0
  · rw [if_pos e, if_pos e, if_pos e]
  · rw [if_neg e, if_neg e]
theorem AddPost.same {Dk : (Nat → Prop) → World → Nat → St → Prop} (K : LandedDk Dk) {Fd Fj : Nat → Prop} {p j : Nat} {st : St} {js : JSt} {W W' : World} (hd : Dk Fd W p st) (h : JoIs Fj W j p js) (hx : ∀ k, Fd k → ¬ Fj k) (hb : Below W.heap.size W W') : AddPost Dk JoIs Fd Fj p j st js W W' :=
  ⟨Fd, Fj, K.later hd hb, h.later hb, hx, Only.of_below hb, fun _ _ e => e, fun _ _ e => e⟩
set_option maxRecDepth 100000 in
set_option maxHeartbeats 1000000 in
theorem jadd_any {Dk : (Nat → Prop) → World → Nat → St → Prop} (K : LandedDk Dk) (S : LandedSt Dk) (Fd Fj : Nat → Prop) (W : World) (p j : Nat) (st : St) (js : JSt) (N : Int) (s : ByteArray) (hd : Dk Fd W p st) (h : JoIs Fj W j p js) (hx : ∀ k, Fd k → ¬ Fj k)
    (hok : js.Ok st) (hroom : st.Room (cntR s.size + 1)) (hs : s.size ≤ 140737488351232) :
    Calls Try.prog 16 #[.pointer (some ⟨j, 0, none⟩), .int .i64 N, .string s] W fun e W' => e = .returned (.int .i64 (addJ st js N s).1) ∧ AddPost Dk JoIs Fd Fj p j (addJ st js N s).2.1 (addJ st js N s).2.2 W W' := by
  have hV := h.1
  have c5 := hV.c5
  have hg : ¬ Fd j := fun e => hx j e ((h.2 j).2 rfl)
  have hsame := Lib.hid (fun W' (hb : Below W.heap.size W W') => AddPost.same K hd h hx hb)
  cases hsk : js.sick with
  | true =>
    have ha := Lib.hid (add_sick (st := st) hsk N s)
    rw [ha.out]
    rw [hsk] at c5
    go_enter Try.func16, Try.ntmps16
    go_wp2
    go_ret
    exact ⟨rfl, hsame.out _ (Below.refl _ _)⟩
  | false =>
    rw [hsk] at c5
    by_cases hN : 1 ≤ N ∧ N ≤ 1152921504606846976
    · cases hr : js.room ((s.size : Nat) : Int) with
      | true =>
        have ha := Lib.hid (addJ_write (st := st) hsk hN hr)
        obtain ⟨-, r1, r2⟩ := (room_iff _ _).1 hr
        rw [Int.toNat_natCast] at r2
        have hs2 : s.size ≤ 32768 := by omega
        have hrm := Lib.hid (fun W => jroom_any S Fj W j p js ((s.size : Nat) : Int))
        rw [hr] at hrm
        have hrm2 := Lib.hid (hrm.out W h (by omega) (by omega))
        have hnum := Lib.hid (fun w h => hasNumber_any Fj w j p js h)
        rw [decide_eq_true hok.seq.2] at hnum
        have hwr := Lib.hid (fun w (hb : Below W.heap.size W w) => jwrite_any K S Fd w j p st js N s (K.later hd hb) (hV.later hb) hg hroom hs2 hok.seq.2)
        have hps := Lib.hid (fun w h => jpass_any S (fun k => k = j) w j p js s.size h hs2 r2 hok.seq.2)
        have hnr := K.near _ _ _ _ hd
        have hjl := hV.lt
        have hI := Lib.hid (fun w (hb : Below W.heap.size W w) => h.later hb)
        have hVk := Lib.hid (fun w (hO : Only Fd W w) => hV.keep hO hg)
        have hFj := h.2
        generalize writeJ st js N s = wj at *
        generalize addJ st js N s = aj at *
        obtain ⟨n1, n2⟩ := hN
        clear hrm hr hsame hsk hV h
        go_enter Try.func16, Try.ntmps16
        go_wp2_with fail
        refine (hrm2.out).mono ?_
        rintro e W1 ⟨rfl, hb⟩
        clear hrm2
        have hI1 := hI.out _ hb
        go_wp2_with fail
        refine (hnum.out _ hI1).mono ?_
        rintro e W2 ⟨rfl, rfl⟩
        go_wp2_with fail
        refine (hwr.out _ hb).mono ?_
        rintro e W3 ⟨rfl, hP⟩
        obtain ⟨F2, d1, d2, d3⟩ := hP.before hb
        have hV3 := hVk.out _ d2
        clear hP hwr hnum hI hVk hI1
        replace ha := ha.out
        by_cases he : wj.1 = 0
        · rw [if_neg (fun h => h he)] at ha
          subst ha
          have hps3 := Lib.hid (hps.out _ ⟨hV3, fun _ => Iff.rfl⟩)
          clear hps
          go_wp2_with fail
          refine (hps3.out).mono ?_
          rintro e W4 ⟨rfl, p1, p2⟩
          clear hps3
          have hfin : AddPost Dk JoIs Fd Fj p j wj.2 { js with spot := js.spot + cntR s.size, seq := js.seq + 1 } W W4 := by
            refine ⟨F2, Fj, K.keep _ _ _ _ _ _ d1 p2 (fun k hk e => ?_), ⟨p1.1, hFj⟩, fun k hk hf => ?_, d2.mono (fun _ _ e => .inl e) |>.trans p2 (fun k hk e => .inr ((hFj k).2 e)), d3, fun _ _ e => e⟩
            · subst e
              exact hg (d3 _ hjl hk)
            · obtain rfl := (hFj k).1 hf
              exact hg (d3 _ hjl hk)
          replace hfin := Lib.hid hfin
          clear p1 p2 d1 d2 d3 hV3
          go_wp2
          go_ret
          exact ⟨rfl, hfin.out⟩
        · rw [if_pos he] at ha
          subst ha
          have c5' := hV3.c5
          have f5' := hV3.fz 5
          have hV4 := hV3.sick1
          have hO4 : Only (fun k => k = j) W3 (W3.setCell ⟨j, 5, none⟩ (.bool true)) := (Only.refl (fun k => k = j) W3).setCell (p := ⟨j, 5, none⟩) (fun _ => rfl) _
          have hfin : AddPost Dk JoIs Fd Fj p j wj.2 { js with sick := true } W (W3.setCell ⟨j, 5, none⟩ (.bool true)) := by
            refine ⟨F2, Fj, K.keep _ _ _ _ _ _ d1 hO4 (fun k hk e => ?_), ⟨hV4, hFj⟩, fun k hk hf => ?_, d2.mono (fun _ _ e => .inl e) |>.trans hO4 (fun k hk e => .inr ((hFj k).2 e)), d3, fun _ _ e => e⟩
            · subst e
              exact hg (d3 _ hjl hk)
            · obtain rfl := (hFj k).1 hf
              exact hg (d3 _ hjl hk)
          replace hfin := Lib.hid hfin
          clear hps hV4 hO4 d1 d2 d3 hV3
          go_wp2
          go_ret
          exact ⟨rfl, hfin.out⟩
      | false =>
        have ha := Lib.hid (add_full (st := st) hsk hN hr)
        rw [ha.out]
        have hrm := Lib.hid (fun W => jroom_any S Fj W j p js ((s.size : Nat) : Int))
        rw [hr] at hrm
        have hrm2 := Lib.hid (hrm.out W h (by omega) (by omega))
        obtain ⟨n1, n2⟩ := hN
        clear hrm hr
        go_enter Try.func16, Try.ntmps16
        go_wp2_with fail
        refine (hrm2.out).mono ?_
        rintro e W1 ⟨rfl, hb⟩
        go_wp2
        go_ret
        exact ⟨rfl, hsame.out _ hb⟩
    · have ha := Lib.hid (show addJ st js N s = (1, st, js) by unfold addJ; rw [hsk, if_neg (by decide), if_pos hN])
      rw [ha.out]
      have hN2 : N < 1 ∨ (¬ N < 1 ∧ 1152921504606846976 < N) := by omega
      clear hN ha
      rcases hN2 with q | ⟨q, q'⟩
      all_goals
        go_enter Try.func16, Try.ntmps16
        go_wp2
        go_ret
        exact ⟨rfl, hsame.out _ (Below.refl _ _)⟩
set_option maxRecDepth 100000 in
set_option maxHeartbeats 1000000 in
theorem jopenBad_any {Dk : (Nat → Prop) → World → Nat → St → Prop} (K : LandedDk Dk) (G : Nat → Prop) (W : World) (p : Nat) (st : St) (fr upto seq : Int) (hd : Dk G W p st) (hok : st.Ok) (hpl : ¬ openPlace st fr upto seq) :
    Calls Try.prog 11 #[.pointer (some ⟨p, 0, none⟩), .int .i64 fr, .int .i64 upto, .int .i64 seq] W (OpenBad W) := by
  have hsec := Lib.hid (K.sectors G W p st hd hok)
  unfold openPlace at hpl
  generalize ((st.safe.length : Nat) : Int) = M at *
  have hb0 := Lib.hid (fun W' (hb : Below W.heap.size W W') => (show OpenBad W (.returned (.tuple #[.pointer none, .slice none 0 0, .int .i64 1])) W' from ⟨none, 0, rfl, hb⟩))
  have hc : fr < 0 ∨ (¬ fr < 0 ∧ upto ≤ fr) ∨ (¬ fr < 0 ∧ ¬ upto ≤ fr ∧ M < upto) ∨ (¬ fr < 0 ∧ ¬ upto ≤ fr ∧ ¬ M < upto ∧ seq < 0) ∨ (¬ fr < 0 ∧ ¬ upto ≤ fr ∧ ¬ M < upto ∧ ¬ seq < 0 ∧ 1152921504606846976 < seq) := by omega
  clear hpl hd
  rcases hc with q1 | ⟨q1, q2⟩ | ⟨q1, q2, q3⟩ | ⟨q1, q2, q3, q4⟩ | ⟨q1, q2, q3, q4, q5⟩
  · go_enter Try.func11, Try.ntmps11
    go_wp2
    go_ret3
    exact hb0.out _ (Below.refl _ _)
  · go_enter Try.func11, Try.ntmps11
    go_wp2
    go_ret3
    exact hb0.out _ (Below.refl _ _)
  all_goals
    go_enter Try.func11, Try.ntmps11
    go_wp2_with fail
    refine (hsec.out).mono ?_
    rintro e W1 ⟨rfl, hb⟩
    clear hsec
    go_wp2
    go_ret3
    exact hb0.out _ hb
theorem landedJo {Dk : (Nat → Prop) → World → Nat → St → Prop} (K : LandedDk Dk) (S : LandedSt Dk) : LandedJo Dk JoIs where
  near := fun _ _ _ _ _ h => h.near
  keep := fun _ _ _ _ _ _ _ h hO hG => h.keep hO hG
  openJ := fun Fd W p st fr upto seq l e hd hok hpl hr => jopen_any K S Fd W p st fr upto seq l e hd hok hpl hr
  openBad := fun Fd W p st fr upto seq hd hok hpl => jopenBad_any K Fd W p st fr upto seq hd hok hpl
  openNil := fun W => by
    have hb0 := Lib.hid (fun W' (hb : Below W.heap.size W W') => (show OpenNil W (.returned (.tuple #[.pointer none, .slice none 0 0, .int .i64 2])) W' from ⟨_, _, rfl, hb⟩))
    go_enter Try.func11, Try.ntmps11
    go_wp2
    go_ret3
    exact hb0.out _ (Below.refl _ _)
  room := fun F W j p js n h h0 h1 => jroom_any S F W j p js n h h0 h1
  add := fun Fd Fj W p j st js N s hd h hx hok hr hs => jadd_any K S Fd Fj W p j st js N s hd h hx hok hr hs
  restart := fun F W j p js h => jrestart_any F W j p js h
  seq := fun F W j p js h => jseq_any F W j p js h
  spot := fun F W j p js h => jspot_any F W j p js h
  sick := fun F W j p js h => jsick_any F W j p js h
end Go.Proofs.Ytmhafgginbeihaa
