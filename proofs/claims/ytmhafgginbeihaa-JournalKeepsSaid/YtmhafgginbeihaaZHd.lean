/- The landed Open. No condition but the disk's, and a landed stamp's. -/
import Derived.Test.YtmhafgginbeihaaZHc
import Derived.OwnWalk
namespace Go.Proofs.Ytmhafgginbeihaa
open Go.RowKit Go.Sort Cr Wm

/-- A journal and a row of records in the making, both new. -/
structure Opn (W0 wr : World) (j p : Nat) (js : JSt) (v : Value) (l : List ByteArray) : Prop where
  jo : JoV wr j p js
  new : W0.heap.size ≤ j
  row : wr.ownsRow 0 9 1 v l.length (rowS l)
  far : ∀ g, v.ownBlock = some g → W0.heap.size ≤ g ∧ g ≠ j
  bel : Below W0.heap.size W0 wr
theorem Opn.later {W0 wr w2 : World} {j p : Nat} {js : JSt} {v : Value} {l : List ByteArray} (h : Opn W0 wr j p js v l) (hb : Below wr.heap.size wr w2) : Opn W0 w2 j p js v l :=
  ⟨h.jo.later hb, h.new, (Only.of_below (F := fun _ => False) hb).row h.row (fun _ _ e => e), h.far, h.bel.trans (hb.mono h.bel.size)⟩
theorem Opn.push {W0 wr : World} {j p : Nat} {js : JSt} {v : Value} {l : List ByteArray} (h : Opn W0 wr j p js v l) (s : ByteArray) (hn : l.length ≤ 5000) :
    ∃ g cap w', (Builtin.append_ #[28, 28] 28 #[v, .slice (some ⟨wr.heap.size, 0, none⟩) 1 1]).run Try.prog (wr.alloc (.cells #[.string s] 9)) = .ok (.slice (some ⟨g, 0, none⟩) (l.length + 1) cap) w' ∧
      Opn W0 w' j p js (.slice (some ⟨g, 0, none⟩) (l.length + 1) cap) (l ++ [s]) := by
  obtain ⟨hj, hnw, hr, hf, hbl⟩ := h
  obtain ⟨g, cap, w', hrun, ho, hgr, hat⟩ := app_one Try.underlying28 str_info rfl (by omega) wr v l.length _ hr (.string s) rfl (by omega)
  have hO : Only (fun i => v.ownBlock = some i) wr w' := (Only.of_below ((Below.refl _ _).alloc (Nat.le_refl _) _)).trans (Only.of_grown (F := fun i => v.ownBlock = some i) hgr (fun i _ hi => hi)) (fun _ _ e => e)
  have hsz := hbl.size
  have hlt := hj.lt
  have hlen : (l ++ [s]).length = l.length + 1 := by simp
  refine ⟨g, cap, w', hrun, ⟨hj.keep hO (fun e => (hf j e).2 rfl), hnw, ?_, fun i hi => ?_, hbl.trans (hO.to_below hsz (fun i hi => (hf i hi).1))⟩⟩
  · have e : rowS (l ++ [s]) = rowS l ++ [.string s] := by unfold rowS; rw [List.map_append]; rfl
    rw [hlen, e]; exact ho
  · have hi2 : g = i := by simpa [Value.ownBlock] using hi
    subst hi2
    rcases hat with e | e
    · exact hf g e
    · omega
theorem Opn.pass {Dk : (Nat → Prop) → World → Nat → St → Prop} (S : LandedSt Dk) {W0 wr : World} {j p : Nat} {js : JSt} {v : Value} {l : List ByteArray} (h : Opn W0 wr j p js v l) (n : Nat) (hn : n ≤ 32768) (hfit : js.spot + cntR n ≤ js.upto) (hq : js.seq < 1152921504606846976) :
    Calls Try.prog 33 #[.pointer (some ⟨j, 0, none⟩), .int .i64 ((n : Nat) : Int)] wr fun e w2 => e = .returned (.tuple #[]) ∧ Opn W0 w2 j p { js with spot := js.spot + cntR n, seq := js.seq + 1 } v l := by
  obtain ⟨hj, hnw, hr, hf, hbl⟩ := h
  refine (jpass_any S (fun k => k = j) wr j p js n ⟨hj, fun _ => Iff.rfl⟩ hn hfit hq).mono ?_
  rintro e w2 ⟨rfl, h1, h2⟩
  exact ⟨rfl, h1.1, hnw, h2.row hr (fun g hg e => (hf g hg).2 e), hf, hbl.trans (h2.to_below hbl.size (fun k hk => by rw [hk]; exact hnw))⟩
def lenV : Value → Nat
  | .slice _ n _ => n
  | _ => 0
/-- How far opening has come. -/
structure Openg (st : St) (l : List ByteArray) (fr upto : Nat) (seq : Int) (e : Nat) (W wr : World) (j p : Nat) (v : Value) : Prop where
  ex : ∃ (done rest : List ByteArray) (a : Nat), l = done ++ rest ∧ fr + done.length ≤ a ∧ Recs st.now upto a (seq + (done.length : Nat)) rest e ∧ Opn W wr j p ⟨fr, upto, a, seq + (done.length : Nat), false⟩ v done
theorem Openg.read {Dk : (Nat → Prop) → World → Nat → St → Prop} (K : LandedDk Dk) (S : LandedSt Dk) {G : Nat → Prop} {st : St} {l : List ByteArray} {fr upto : Nat} {seq : Int} {e : Nat} {W wr : World} {j p : Nat} {v : Value} (hd : Dk G W p st) (hok : st.Ok) (hup : upto ≤ st.safe.length) (h : Openg st l fr upto seq e W wr j p v) :
    (Calls Try.prog 32 #[.pointer (some ⟨j, 0, none⟩)] wr (fun e2 w2 => e2 = .returned (.tuple #[.string ⟨#[]⟩, .bool false]) ∧ Opn W w2 j p ⟨fr, upto, e, seq + (l.length : Nat), false⟩ v l)) ∨
    ∃ (done rest : List ByteArray) (s : ByteArray) (a : Nat), l = done ++ s :: rest ∧ s.size ≤ 32768 ∧ a + cntR s.size ≤ upto ∧ seq + (done.length : Nat) < 1152921504606846976 ∧ Recs st.now upto (a + cntR s.size) (seq + (done.length : Nat) + 1) rest e ∧ fr + done.length ≤ a ∧ lenV v = done.length ∧
      Calls Try.prog 32 #[.pointer (some ⟨j, 0, none⟩)] wr (fun e2 w2 => e2 = .returned (.tuple #[.string s, .bool true]) ∧ Opn W w2 j p ⟨fr, upto, a, seq + (done.length : Nat), false⟩ v done) := by
  obtain ⟨done, rest, a, rfl, hfa, ⟨hch, hst⟩, hO⟩ := h.ex
  have hrow := hO.row
  have hlv : lenV v = done.length := by
    rcases hrow.2 with ⟨rfl, h0⟩ | ⟨g, cap, cur, rfl, _⟩
    · rw [h0]; rfl
    · rfl
  have hc := jread_any K S (fun k => k = j) G wr j p st _ (K.later hd hO.bel) hok ⟨hO.jo, fun _ => Iff.rfl⟩ hup
  have hf := hO.jo.few
  cases hch with
  | nil =>
    left
    have hn : nextJ st ⟨fr, upto, e, seq + (done.length : Nat), false⟩ = none := by
      rw [show seq + (done.length : Nat) + (([] : List ByteArray).length : Nat) + 1 = seq + (done.length : Nat) + 1 by simp] at hst
      exact hst
    rw [hn] at hc
    rw [List.append_nil]
    refine hc.mono ?_
    rintro e2 w2 ⟨rfl, hb⟩
    exact ⟨rfl, hO.later hb⟩
  | @cons _ _ N s r _ hr hch2 =>
    right
    have hn : nextJ st ⟨fr, upto, a, seq + (done.length : Nat), false⟩ = some s := recOf_some hr
    rw [hn] at hc
    have hnum := hr.num
    have hfit := hr.fit
    have hsp : a ≤ upto := hf.2.1
    refine ⟨done, r, s, a, rfl, hr.len, hr.fit, by omega, ⟨hch2, ?_⟩, hfa, hlv, hc.mono ?_⟩
    · rw [show seq + (done.length : Nat) + 1 + (r.length : Nat) + 1 = seq + (done.length : Nat) + ((s :: r).length : Nat) + 1 by rw [List.length_cons]; omega]
      exact hst
    · rintro e2 w2 ⟨rfl, hb⟩
      exact ⟨rfl, hO.later hb⟩
set_option maxRecDepth 100000 in
set_option maxHeartbeats 1000000 in
theorem jopen_any {Dk : (Nat → Prop) → World → Nat → St → Prop} (K : LandedDk Dk) (S : LandedSt Dk) (G : Nat → Prop) (W : World) (p : Nat) (st : St) (fr upto : Nat) (seq : Int) (l : List ByteArray) (e : Nat) (hd : Dk G W p st) (hok : st.Ok) (hpl : openPlace st fr upto seq) (hr : Recs st.now upto fr seq l e) :
    Calls Try.prog 11 #[.pointer (some ⟨p, 0, none⟩), .int .i64 (fr : Int), .int .i64 (upto : Int), .int .i64 seq] W (OpenPost JoIs p l ⟨fr, upto, e, seq + (l.length : Nat), false⟩ W) := by
  obtain ⟨h1, h2, h3, h4, h5⟩ := hpl
  have hmany := hok.many
  have hsec := Lib.hid (K.sectors G W p st hd hok)
  have hup : upto ≤ st.safe.length := by omega
  have hrd := Lib.hid (fun wr j v h => Openg.read K S (l := l) (fr := fr) (upto := upto) (seq := seq) (e := e) (W := W) (wr := wr) (j := j) (v := v) hd hok hup h)
  generalize hlen : ((st.safe.length : Nat) : Int) = M at *
  have hup4 : upto ≤ 4096 := by omega
  have hpost := Lib.hid (fun (w2 : World) (j : Nat) (v : Value) (hO : Opn W w2 j p ⟨fr, upto, e, seq + (l.length : Nat), false⟩ v l) =>
    (show OpenPost JoIs p l ⟨fr, upto, e, seq + (l.length : Nat), false⟩ W (.returned (.tuple #[.pointer (some ⟨j, 0, none⟩), v, .int .i64 0])) w2 from
      ⟨j, fun k => k = j, v, rfl, ⟨hO.jo, fun _ => Iff.rfl⟩, fun k hk => by rw [hk]; exact hO.new, hO.row, hO.far, hO.bel⟩))
  have hstart : ∀ w1 : World, Below W.heap.size W w1 → Openg st l fr upto seq e W (w1.alloc (.cells #[.pointer (some ⟨p, 0, none⟩), .int .i64 (fr : Int), .int .i64 (upto : Int), .int .i64 (fr : Int), .int .i64 seq, .bool false] 63)) w1.heap.size p (.slice none 0 0) := fun w1 hb => by
    refine ⟨[], l, fr, rfl, Nat.le_refl _, by simpa using hr, ⟨⟨?_, ?_, ?_, ?_, ?_, ?_, ?_, ?_, ?_⟩, hb.size, World.ownsRow_nil _ _ _ _, fun g hg => by simp [Value.ownBlock] at hg, hb.alloc hb.size _⟩⟩
    any_goals simp [go_sem]
    exact ⟨by omega, by omega, h4, h5⟩
  replace hstart := Lib.hid hstart
  have hup5 := Lib.hid hup4
  have g1 : decide (((fr : Nat) : Int) < 0) = false := decide_eq_false (by omega)
  have g2 : ¬ upto ≤ fr := by omega
  have g2' : decide (upto ≤ fr) = false := decide_eq_false g2
  have g3 : decide (M < ((upto : Nat) : Int)) = false := decide_eq_false (by omega)
  have g4 : decide (seq < 0) = false := decide_eq_false (by omega)
  have g5 : decide (1152921504606846976 < seq) = false := decide_eq_false (by omega)
  clear hlen hup hr h1 h2 h3 h4 h5 hup4 hmany
  go_enter Try.func11, Try.ntmps11
  go_wp2_with fail
  refine (hsec.out).mono ?_
  rintro e0 W1 ⟨rfl, hb1⟩
  have hst1 := hstart.out _ hb1
  go_wp2_with fail
  generalize hwl : W1.alloc (.cells #[.pointer (some ⟨p, 0, none⟩), .int .i64 (fr : Int), .int .i64 (upto : Int), .int .i64 (fr : Int), .int .i64 seq, .bool false] 63) = WL at *
  generalize W1.heap.size = j at *
  go_loopw [12] (fun v wr => Openg st l fr upto seq e W wr j p v) (fun v _ => l.length - lenV v)
  case atStart => exact hst1
  case round =>
    clear hst1 hwl hstart hsec
    rcases hrd.out _ _ _ hrel with hc | ⟨done, rest, s, a, hl, hs, hfit, hq, hrec, hdn, hlv, hc⟩
    · replace hc := Lib.hid hc
      clear hrd hrel
      go_wp2_with fail
      refine hc.out.mono ?_
      rintro e2 w2 ⟨rfl, hO⟩
      have hp := Lib.hid (hpost.out _ _ _ hO)
      clear hc hO
      go_wp2
      go_ret3
      exact hp.out
    · replace hc := Lib.hid hc
      clear hrd hrel
      go_wp2_with fail
      refine hc.out.mono ?_
      rintro e2 w2 ⟨rfl, hO⟩
      obtain ⟨g, cap, w3, hrun, hO3⟩ := hO.push s (by have := hup5.out; omega)
      have hps := Lib.hid (fun w (h : Opn W w j p ⟨fr, upto, a, seq + (done.length : Nat), false⟩ (.slice (some ⟨g, 0, none⟩) (done.length + 1) cap) (done ++ [s])) => h.pass S s.size hs hfit hq)
      clear hc hO
      go_wp2_with (at_builtin; refine Lib.wpList_append_run _ rfl _ _ _ _ rfl _ _ rfl rfl _ _ hrun ?_)
      refine (hps.out _ hO3).mono ?_
      rintro e3 w4 ⟨rfl, hO4⟩
      clear hps hO3 hrun
      replace hrec := Lib.hid hrec
      replace hl := Lib.hid hl
      replace hO4 := Lib.hid hO4
      replace hlv := Lib.hid hlv
      go_wp2_with fail
      replace hrec := hrec.out
      replace hl := hl.out
      replace hO4 := hO4.out
      replace hlv := hlv.out
      have hll : (done ++ [s]).length = done.length + 1 := by simp
      have hlt : l.length = done.length + 1 + rest.length := by rw [hl]; simp; omega
      refine ⟨⟨⟨done ++ [s], rest, a + cntR s.size, by rw [hl]; simp, ?_, ?_, ?_⟩⟩, ?_⟩
      · rw [hll]; have := cntR_pos s.size; omega
      · rw [hll, show seq + ((done.length + 1 : Nat) : Int) = seq + (done.length : Nat) + 1 by omega]; exact hrec
      · rw [hll, show seq + ((done.length + 1 : Nat) : Int) = seq + (done.length : Nat) + 1 by omega]
        exact hO4
      · show l.length - (done.length + 1) < l.length - lenV _
        refine Nat.sub_lt_sub_left ?_ ?_
        · show lenV _ < l.length
          refine Nat.lt_of_le_of_lt (Nat.le_of_eq hlv) ?_
          omega
        · show lenV _ < done.length + 1
          refine Nat.lt_of_le_of_lt (Nat.le_of_eq hlv) ?_
          omega
end Go.Proofs.Ytmhafgginbeihaa
