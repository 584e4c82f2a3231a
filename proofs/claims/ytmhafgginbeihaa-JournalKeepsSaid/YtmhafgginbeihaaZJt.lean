/- JournalKeeps' walk, out of the landed contracts. -/
import Derived.Test.YtmhafgginbeihaaZJn
import Derived.Test.YtmhafgginbeihaaZJq
import Derived.Test.YtmhafgginbeihaaZJr
namespace Go.Proofs.Ytmhafgginbeihaa
open Go.RowKit Go.Sort Cr

/-- A disk, its journal and a row of texts of a law's own. -/
structure Trio (Dk : (Nat → Prop) → World → Nat → St → Prop) (Jo : (Nat → Prop) → World → Nat → Nat → JSt → Prop) (w wr : World) (p j : Nat) (st : St) (js : JSt) (v : Value) (want : List ByteArray) : Prop where
  ex : ∃ Fd Fj, Dk Fd wr p st ∧ Jo Fj wr j p js ∧ (∀ k, Fd k → ¬ Fj k) ∧ (∀ k, Fd k → w.heap.size ≤ k) ∧ (∀ k, Fj k → w.heap.size ≤ k) ∧ ∀ g, v.ownBlock = some g → ¬ Fd g ∧ ¬ Fj g
  row : wr.ownsRow 0 9 1 v want.length (rowS want)
  far : ∀ g, v.ownBlock = some g → w.heap.size ≤ g
  below : Below w.heap.size w wr
section
variable {Dk : (Nat → Prop) → World → Nat → St → Prop} {Jo : (Nat → Prop) → World → Nat → Nat → JSt → Prop} {w wr w2 : World} {p j : Nat} {st : St} {js : JSt} {v : Value} {want : List ByteArray}
theorem Trio.both (h : Trio Dk Jo w wr p j st js v want) : Both Dk Jo w wr p j st js := by
  obtain ⟨⟨Fd, Fj, h1, h2, h3, h4, h5, _⟩, _, _, hb⟩ := h
  exact ⟨⟨Fd, Fj, h1, h2, h3, h4, h5⟩, hb⟩
theorem Trio.strs (h : Trio Dk Jo w wr p j st js v want) : ∃ ao cap, v = .slice ao want.length cap ∧ StrsAt wr ao want := row_strs h.row
theorem Trio.later (K : LandedDk Dk) (J : LandedJo Dk Jo) (h : Trio Dk Jo w wr p j st js v want) (hb : Below wr.heap.size wr w2) : Trio Dk Jo w w2 p j st js v want := by
  obtain ⟨⟨Fd, Fj, h1, h2, h3, h4, h5, h6⟩, hr, hf, hbl⟩ := h
  exact ⟨⟨Fd, Fj, K.later h1 hb, J.keep _ (fun _ => False) _ _ _ _ _ h2 (Only.of_below hb) (fun _ _ e => e), h3, h4, h5, h6⟩, (Only.of_below (F := fun _ => False) hb).row hr (fun _ _ e => e), hf, hbl.trans (hb.mono hbl.size)⟩
theorem Trio.ask (K : LandedDk Dk) (J : LandedJo Dk Jo) (h : Trio Dk Jo w wr p j st js v want) {P : Program} {f : Nat} {args : Array Value} {r : Value} (hc : Calls P f args wr fun e w2 => e = .returned r ∧ Below wr.heap.size wr w2) :
    Calls P f args wr fun e w2 => e = .returned r ∧ Trio Dk Jo w w2 p j st js v want := by
  refine hc.mono ?_
  rintro e w2 ⟨rfl, hb⟩
  exact ⟨rfl, h.later K J hb⟩
/-- What turns both alone keeps the row. -/
theorem Trio.turned {st' : St} {js' : JSt} (h : Trio Dk Jo w wr p j st js v want) {Fd Fj Fd' Fj' : Nat → Prop} (h6 : ∀ g, v.ownBlock = some g → ¬ Fd g ∧ ¬ Fj g) (h4 : ∀ k, Fd k → w.heap.size ≤ k) (h5 : ∀ k, Fj k → w.heap.size ≤ k)
    (k1 : Dk Fd' w2 p st') (k2 : Jo Fj' w2 j p js') (k3 : ∀ k, Fd' k → ¬ Fj' k) (k4 : Only (fun k => Fd k ∨ Fj k) wr w2) (k5 : ∀ k, k < wr.heap.size → Fd' k → Fd k) (k6 : ∀ k, k < wr.heap.size → Fj' k → Fj k) : Trio Dk Jo w w2 p j st' js' v want := by
  obtain ⟨_, hr, hf, hbl⟩ := h
  have hsz := hbl.size
  refine ⟨⟨Fd', Fj', k1, k2, k3, fun k hk => ?_, fun k hk => ?_, fun g hg => ?_⟩, k4.row hr (fun g hg e => e.elim (h6 g hg).1 (h6 g hg).2), hf, hbl.trans (k4.to_below hsz (fun k hk => hk.elim (h4 k) (h5 k)))⟩
  · by_cases e : k < wr.heap.size
    · exact h4 k (k5 k e hk)
    · omega
  · by_cases e : k < wr.heap.size
    · exact h5 k (k6 k e hk)
    · omega
  · have hlt := (hr.lt g hg).2
    exact ⟨fun e => (h6 g hg).1 (k5 g hlt e), fun e => (h6 g hg).2 (k6 g hlt e)⟩
theorem Trio.add (J : LandedJo Dk Jo) (h : Trio Dk Jo w wr p j st js v want) (hj : js.Ok st) (N : Int) (s : ByteArray) (hr : st.Room (cntR s.size + 1)) (hs : s.size ≤ 140737488351232) :
    Calls Try.prog 16 #[.pointer (some ⟨j, 0, none⟩), .int .i64 N, .string s] wr fun e w2 => e = .returned (.int .i64 (addJ st js N s).1) ∧ Trio Dk Jo w w2 p j (addJ st js N s).2.1 (addJ st js N s).2.2 v want := by
  have h' := h
  obtain ⟨⟨Fd, Fj, h1, h2, h3, h4, h5, h6⟩, _⟩ := h'
  refine (J.add Fd Fj wr p j st js N s h1 h2 h3 hj hr hs).mono ?_
  rintro e w2 ⟨rfl, Fd', Fj', k1, k2, k3, k4, k5, k6⟩
  exact ⟨rfl, h.turned h6 h4 h5 k1 k2 k3 k4 k5 k6⟩
theorem Trio.disk (_K : LandedDk Dk) (J : LandedJo Dk Jo) (h : Trio Dk Jo w wr p j st js v want) {P : Program} {f : Nat} {args : Array Value} {st' : St}
    (hc : ∀ Fd, Dk Fd wr p st → Calls P f args wr fun e w2 => e = .returned (.tuple #[]) ∧ DkPost Dk Fd p st' wr w2) :
    Calls P f args wr fun e w2 => e = .returned (.tuple #[]) ∧ Trio Dk Jo w w2 p j st' js v want := by
  have h' := h
  obtain ⟨⟨Fd, Fj, h1, h2, h3, h4, h5, h6⟩, _⟩ := h'
  refine (hc Fd h1).mono ?_
  rintro e w2 ⟨rfl, Fd', k1, k2, k3⟩
  refine ⟨rfl, h.turned h6 h4 h5 k1 (J.keep _ _ _ _ _ _ _ h2 k2 (fun k hk hd => h3 k hd hk)) (fun k hd hk => h3 k (k3 k (J.near _ _ _ _ _ h2 k hk) hd) hk) (k2.mono (fun _ _ e => .inl e)) k3 (fun _ _ e => e)⟩
theorem Trio.opened (K : LandedDk Dk) (h : Trio Dk Jo w wr p j st js v want) {l : List ByteArray} {js2 : JSt} {e : Ending} (ho : OpenPost Jo p l js2 wr e w2) :
    ∃ j2 v2, e = .returned (.tuple #[.pointer (some ⟨j2, 0, none⟩), v2, .int .i64 0]) ∧ Trio Dk Jo w w2 p j2 st js2 v2 l ∧ Below wr.heap.size wr w2 := by
  obtain ⟨⟨Fd, Fj, h1, h2, h3, h4, h5, h6⟩, hr, hf, hbl⟩ := h
  obtain ⟨j2, F2, v2, rfl, n1, n2, n3, n4, n5⟩ := ho
  have hnr := K.near _ _ _ _ h1
  have hsz := hbl.size
  refine ⟨j2, v2, rfl, ⟨⟨Fd, F2, K.later h1 n5, n1, fun k hd hk => ?_, h4, fun k hk => ?_, fun g hg => ⟨fun e => ?_, (n4 g hg).2⟩⟩, n3, fun g hg => ?_, hbl.trans (n5.mono hsz)⟩, n5⟩
  · have := hnr k hd
    have := n2 k hk
    omega
  · have := n2 k hk
    omega
  · have := hnr g e
    have := (n4 g hg).1
    omega
  · have := (n4 g hg).1
    omega
theorem Trio.push (K : LandedDk Dk) (J : LandedJo Dk Jo) (h : Trio Dk Jo w wr p j st js v want) (s : ByteArray) (hn : want.length ≤ 1000) :
    ∃ g cap w', (Builtin.append_ #[28, 28] 28 #[v, .slice (some ⟨wr.heap.size, 0, none⟩) 1 1]).run Try.prog (wr.alloc (.cells #[.string s] 9)) = .ok (.slice (some ⟨g, 0, none⟩) (want.length + 1) cap) w' ∧
      Trio Dk Jo w w' p j st js (.slice (some ⟨g, 0, none⟩) (want.length + 1) cap) (want ++ [s]) := by
  obtain ⟨⟨Fd, Fj, h1, h2, h3, h4, h5, h6⟩, hr, hf, hbl⟩ := h
  obtain ⟨g, cap, w', hrun, ho, hgr, hat⟩ := app_one Try.underlying28 str_info rfl (by omega) wr v want.length _ hr (.string s) rfl (by omega)
  have hO : Only (fun i => v.ownBlock = some i) wr w' := (Only.of_below ((Below.refl _ _).alloc (Nat.le_refl _) _)).trans (Only.of_grown (F := fun i => v.ownBlock = some i) hgr (fun i _ hi => hi)) (fun _ _ e => e)
  have hnd := K.near _ _ _ _ h1
  have hnj := J.near _ _ _ _ _ h2
  have hsz := hbl.size
  have hlen : (want ++ [s]).length = want.length + 1 := by simp
  refine ⟨g, cap, w', hrun, ⟨⟨Fd, Fj, K.keep _ _ _ _ _ _ h1 hO (fun k hk e => (h6 k e).1 hk), J.keep _ _ _ _ _ _ _ h2 hO (fun k hk e => (h6 k e).2 hk), h3, h4, h5, fun i hi => ?_⟩, ?_, fun i hi => ?_, hbl.trans (hO.to_below hsz (fun i hi => hf i hi))⟩⟩
  · have hi2 : g = i := by simpa [Value.ownBlock] using hi
    subst hi2
    rcases hat with e | e
    · exact h6 g e
    · exact ⟨fun hk => by have := hnd g hk; omega, fun hk => by have := hnj g hk; omega⟩
  · have e : rowS (want ++ [s]) = rowS want ++ [.string s] := by unfold rowS; rw [List.map_append]; rfl
    rw [hlen, e]; exact ho
  · have hi2 : g = i := by simpa [Value.ownBlock] using hi
    subst hi2
    rcases hat with e | e
    · exact hf g e
    · omega
theorem Trio.sick (K : LandedDk Dk) (J : LandedJo Dk Jo) (h : Trio Dk Jo w wr p j st js v want) :
    Calls Try.prog 13 #[.pointer (some ⟨j, 0, none⟩)] wr fun e w2 => e = .returned (.bool js.sick) ∧ Trio Dk Jo w w2 p j st js v want := by
  obtain ⟨Fd, Fj, _, h2, _⟩ := h.ex
  exact h.ask K J (J.sick Fj wr j p js h2)
theorem Trio.seq (K : LandedDk Dk) (J : LandedJo Dk Jo) (h : Trio Dk Jo w wr p j st js v want) :
    Calls Try.prog 22 #[.pointer (some ⟨j, 0, none⟩)] wr fun e w2 => e = .returned (.int .i64 js.seq) ∧ Trio Dk Jo w w2 p j st js v want := by
  obtain ⟨Fd, Fj, _, h2, _⟩ := h.ex
  exact h.ask K J (J.seq Fj wr j p js h2)
theorem Trio.spot (K : LandedDk Dk) (J : LandedJo Dk Jo) (h : Trio Dk Jo w wr p j st js v want) :
    Calls Try.prog 15 #[.pointer (some ⟨j, 0, none⟩)] wr fun e w2 => e = .returned (.int .i64 (js.spot : Int)) ∧ Trio Dk Jo w w2 p j st js v want := by
  obtain ⟨Fd, Fj, _, h2, _⟩ := h.ex
  exact h.ask K J (J.spot Fj wr j p js h2)
theorem Trio.room (K : LandedDk Dk) (J : LandedJo Dk Jo) (h : Trio Dk Jo w wr p j st js v want) (n : Int) (h0 : -9223372036854775808 ≤ n) (h1 : n ≤ 9223372036854775807) :
    Calls Try.prog 14 #[.pointer (some ⟨j, 0, none⟩), .int .i64 n] wr fun e w2 => e = .returned (.bool (js.room n)) ∧ Trio Dk Jo w w2 p j st js v want := by
  obtain ⟨Fd, Fj, _, h2, _⟩ := h.ex
  exact h.ask K J (J.room Fj wr j p js n h2 h0 h1)
theorem Trio.great (K : LandedDk Dk) (S : LandedSt Dk) (J : LandedJo Dk Jo) (h : Trio Dk Jo w wr p j st js v want) (hok : st.Ok) :
    Calls Try.prog 17 #[.pointer (some ⟨p, 0, none⟩)] wr fun e w2 => e = .returned (.int .i64 st.great) ∧ Trio Dk Jo w w2 p j st js v want := by
  obtain ⟨Fd, Fj, h1, _⟩ := h.ex
  exact h.ask K J (S.great Fd wr p st h1 hok)
/-- Where a script stands: at rest, or sick. -/
def Phase (k : Nat) (want : List ByteArray) (fl : ByteArray) (may : Bool) (st : St) (js : JSt) : Prop := (may = false ∧ Keep k want st js) ∨ (may = true ∧ Flew k want fl st js)
/-- All that a round begins with. -/
def Round (Dk : (Nat → Prop) → World → Nat → St → Prop) (Jo : (Nat → Prop) → World → Nat → Nat → JSt → Prop) (w wr : World) (p k : Nat) (jv wv fv mv : Value) : Prop :=
  ∃ (j : Nat) (v : Value) (want : List ByteArray) (fl : ByteArray) (may : Bool) (st : St) (js : JSt), jv = .pointer (some ⟨j, 0, none⟩) ∧ wv = v ∧ fv = .string fl ∧ mv = .bool may ∧ Trio Dk Jo w wr p j st js v want ∧ Phase k want fl may st js
end
set_option maxRecDepth 100000 in
set_option maxHeartbeats 4000000 in
theorem journalKeeps_any {Dk : (Nat → Prop) → World → Nat → St → Prop} {Jo : (Nat → Prop) → World → Nat → Nat → JSt → Prop} (K : LandedDk Dk) (S : LandedSt Dk) (J : LandedJo Dk Jo) (ao : Option Addr) (cap : Nat) (l : List StepJ) (hl : ∀ x ∈ l, x.Wf) (hlen : l.length ≤ 140737488351232)
    (w : World) (hS : StepJsAt w ao l) :
    Calls Try.prog 3 #[.slice ao l.length cap] w fun e w' => e = .returned (.bool true) ∧ Below w.heap.size w w' := by
  have hal := Lib.hid (journalAlive_any K J)
  have hgt := Lib.hid (fun w h => greatj_any ao cap l hl hlen w h)
  have hSw := hS
  go_enter Try.func3, Try.ntmps3
  go_wp2_with fail
  refine (hal.out _).mono ?_
  rintro e w1 ⟨rfl, hb1⟩
  replace hS := hS.later hb1
  go_wp2_with fail
  refine (hgt.out _ hS).mono ?_
  rintro e w2 ⟨b, rfl, hP, hb2⟩
  replace hb2 := hb1.trans (hb2.mono hb1.size)
  cases b
  · have hpl := hP rfl
    have hnew := Lib.hid (fun W => K.new 40 W (by decide) (by decide))
    have hk0 := Keep.start
    have hop := fun F W p h => J.openJ F W p (St.new 40) 0 40 0 [] 0 h (St.Ok.new 40) (⟨by omega, by omega, by rw [hk0.idle.len]; omega, by omega, by omega⟩ : openPlace (St.new 40) 0 40 0) (recs_blank (blank_now 40 0 (by omega)))
    generalize St.new 40 = st0 at *
    replace hop := Lib.hid hop
    clear hP hS
    go_wp2_with fail
    refine (hnew.out _).mono ?_
    rintro e w3 ⟨p, F, rfl, hD, hF, hb3⟩
    have hH : Have Dk w w3 p st0 := Have.of_wet hb2 hD hF hb3
    have hDh := Lib.hid (hop.out F w3 p hD)
    clear hD hF hb1 hb2 hb3 hop hnew
    go_wp2_with fail
    refine (hDh.out).mono ?_
    intro e w4 hO
    obtain ⟨j, v, rfl, hB, hr, -, hb4⟩ := Both.opened K hH hO
    obtain ⟨ao2, cap2, rfl, -⟩ := row_slice hr
    have hT0 : Trio Dk Jo w w4 p j st0 ⟨0, 40, 0, 0, false⟩ (.slice none 0 0) [] := by
      obtain ⟨⟨Fd, Fj, k1, k2, k3, k4, k5⟩, k6⟩ := hB
      exact ⟨⟨Fd, Fj, k1, by simpa using k2, k3, k4, k5, fun g hg => by simp [Value.ownBlock] at hg⟩, World.ownsRow_nil _ _ _ _, fun g hg => by simp [Value.ownBlock] at hg, k6⟩
    clear hr hO hH hDh hb4 hB
    go_wp2
    go_loopw [4, 7, 8, 9, 35] (fun jv wv fv mv iv wr => ∃ k : Nat, k ≤ l.length ∧ iv = .int .i64 k ∧ Round Dk Jo w wr p k jv wv fv mv) (fun _ _ _ _ iv _ => (l.length - RowKit.intOf iv).toNat)
    case atStart => exact ⟨0, by omega, rfl, j, _, [], ⟨#[]⟩, false, st0, _, rfl, rfl, rfl, rfl, hT0, .inl ⟨rfl, hk0⟩⟩
    case round =>
      clear hT0 hk0
      obtain ⟨k, hk, rfl, j, v, want, fl, may, st, js, rfl, rfl, rfl, rfl, hT, hph⟩ := hrel
      obtain ⟨aow, capw, rfl, hSW⟩ := hT.strs
      by_cases hlt : k < l.length
      · have h60 := hpl.few
        obtain ⟨b, off, rfl, hbl, hc⟩ := (hSw.below hT.below (Nat.le_refl _)).spot k hlt
        have hx := hl _ (List.getElem_mem hlt)
        have hpN := hpl.size k hlt
        generalize l[k] = x at *
        have c0 := hc 0 _ rfl
        have c1 := hc 1 _ rfl
        have c2 := hc 2 _ rfl
        have c3 := hc 3 _ rfl
        have c4 := hc 4 _ rfl
        have c5 := hc 5 _ rfl
        dsimp only [Nat.add_zero] at c0
        clear hc
        by_cases q0 : x.Kind = 0
        · obtain ⟨n0, n1⟩ := hpN q0
          have hkb : (x.Kind == 0) = true := beq_iff_eq.2 q0
          obtain ⟨n, hn⟩ := Int.eq_ofNat_of_zero_le n0
          have htx := Lib.hid (fun w => text_any n (by omega) x.C (by have := hx.C; omega) w)
          rw [hn] at c1
          go_wp2_with fail
          refine (htx.out _).mono ?_
          rintro e w5 ⟨t, rfl, rfl, hb5⟩
          have hal5 : Below wr.heap.size wr (wr.alloc (.cells #[.int .i64 0, .int .i64 ((t.size : Nat) : Int), .int .u8 ((x.C : Nat) : Int), .int .u64 ((x.Mask : Nat) : Int), .int .i64 x.Torn, .int .i64 x.Cut] 34)) := (Below.refl _ _).alloc (Nat.le_refl _) _
          have hT5 := (hT.later K J hal5).later K J hb5
          clear htx hT hal5 hb5 hSW
          have htz : t.size ≤ 32768 := by omega
          have hcl := cntR_le htz
          rcases hph with ⟨rfl, hK⟩ | ⟨rfl, hF⟩
          · obtain ⟨g, hg, hgk, hcase⟩ := hK.add (by omega) htz
            have hsk := hK.jok.2.2.2
            have hok := hK.idle.ok (by omega) (by omega)
            have hjo := hK.ok (by omega)
            have hrm1 : st.Room (cntR t.size + 1) := hK.idle.room (by omega) (by omega) (by omega)
            have had := fun wr (h : Trio Dk Jo w wr p j st js (.slice aow want.length capw) want) => h.add J hjo ((g + 1 : Nat) : Int) t hrm1 (by omega)
            have hgr := fun wr (h : Trio Dk Jo w wr p j st js (.slice aow want.length capw) want) => h.great K S J hok
            rw [hg] at hgr
            have hs5 := Lib.hid (hT5.sick K J)
            rw [hsk] at hs5
            replace had := Lib.hid had
            replace hgr := Lib.hid hgr
            have hsqK := Lib.hid hK.seq
            replace hcase := Lib.hid hcase
            replace hx := Lib.hid hx
            replace hg := Lib.hid hg
            clear hok hjo hrm1 hpN hsk
            go_wp2_with fail
            refine hs5.out.mono ?_
            rintro e w6 ⟨rfl, hT6⟩
            have hr6 := Lib.hid (hT6.room K J ((t.size : Nat) : Int) (by omega) (by omega))
            clear hs5 hT5
            go_wp2_with fail
            refine hr6.out.mono ?_
            rintro e w7 ⟨rfl, hT7⟩
            have hp7 := Lib.hid (hT7.spot K J)
            clear hr6 hT6
            go_wp2_with fail
            refine hp7.out.mono ?_
            rintro e w8 ⟨rfl, hT8⟩
            have hg8 := Lib.hid (hgr.out _ hT8)
            clear hp7 hgr hT7
            go_wp2_with fail
            refine hg8.out.mono ?_
            rintro e w9 ⟨rfl, hT9⟩
            have ha9 := Lib.hid (had.out _ hT9)
            clear hg8 had hT8
            rcases hcase.out with ⟨hrm, ha⟩ | ⟨st', js', ha, hspj, hK'⟩ | ⟨st', js', ha, hF'⟩
            · rw [ha] at ha9
              replace hrm := Lib.hid hrm
              replace ha := Lib.hid ha
              clear hcase
              go_wp2_with fail
              refine ha9.out.mono ?_
              rintro e w10 ⟨rfl, hT10⟩
              rw [hrm.out]
              have hq10 := hT10.seq K J
              rw [hsqK.out] at hq10
              replace hq10 := Lib.hid hq10
              clear ha9 hT9
              go_wp2_with fail
              refine hq10.out.mono ?_
              rintro e w11 ⟨rfl, hT11⟩
              clear hq10 hT10
              go_wp2_with fail
              exact ⟨⟨k + 1, by omega, by go_num, j, _, want, fl, false, st, js, rfl, rfl, rfl, rfl, hT11, .inl ⟨rfl, hK.mono (by omega)⟩⟩, by simp [RowKit.intOf]; omega⟩
            · rw [ha] at ha9
              replace ha := Lib.hid ha
              have hfewK := hK.few
              have hspb := hK.jok.2.2.1
              have hsq' := hK'.seq
              have hlen' : (want ++ [t]).length = want.length + 1 := by simp
              rw [hlen'] at hsq'
              replace hK' := Lib.hid hK'
              have hco := Lib.hid (fun w => refcount_any (12 + t.size) (by omega) w)
              rw [show countN (12 + t.size) = cntR t.size from rfl] at hco
              replace hspj := Lib.hid hspj
              replace hsq' := Lib.hid hsq'
              replace hK := Lib.hid hK
              generalize cntR t.size = ct at *
              generalize hroomB : js.room ((t.size : Nat) : Int) = rb at *
              clear hcase hroomB
              go_wp2_with fail
              refine ha9.out.mono ?_
              rintro e w10 ⟨rfl, hT10⟩
              clear ha9 hT9
              obtain ⟨g2, cap2', w11, hrun, hT11⟩ := hT10.push K J t (by omega)
              have hp11 := hT11.spot K J
              rw [hspj.out, Int.natCast_add] at hp11
              replace hp11 := Lib.hid hp11
              clear hT10
              go_wp2_with (at_builtin; refine Lib.wpList_append_run _ rfl _ _ _ _ rfl _ _ rfl rfl _ _ hrun ?_; clear hrun)
              refine hp11.out.mono ?_
              rintro e w12 ⟨rfl, hT12⟩
              clear hp11 hT11
              go_wp2_with fail
              refine (hco.out _).mono ?_
              rintro e w13 ⟨rfl, rfl⟩
              have hq12 := hT12.seq K J
              rw [hsq'.out] at hq12
              replace hq12 := Lib.hid hq12
              go_wp2_with fail
              refine hq12.out.mono ?_
              rintro e w14 ⟨rfl, hT14⟩
              clear hq12 hT12
              go_wp2_with fail
              exact ⟨⟨k + 1, by omega, by go_num, j, _, want ++ [t], fl, false, st', js', rfl, rfl, rfl, rfl, hT14, .inl ⟨rfl, hK'.out⟩⟩, by simp [RowKit.intOf]; omega⟩
            · rw [ha] at ha9
              replace ha := Lib.hid ha
              have hsq' := hF'.jst.2.2.2.2
              have hsk' := hF'.jst.2.2.2.1
              replace hF' := Lib.hid hF'
              replace hK := Lib.hid hK
              generalize hroomB : js.room ((t.size : Nat) : Int) = rb at *
              clear hcase hroomB
              replace hsq' := Lib.hid hsq'
              replace hsk' := Lib.hid hsk'
              go_wp2_with fail
              refine ha9.out.mono ?_
              rintro e w10 ⟨rfl, hT10⟩
              clear ha9 hT9
              have hs10 := hT10.sick K J
              rw [hsk'.out] at hs10
              replace hs10 := Lib.hid hs10
              go_wp2_with fail
              refine hs10.out.mono ?_
              rintro e w11 ⟨rfl, hT11⟩
              clear hs10 hT10
              have hq11 := hT11.seq K J
              rw [hsq'.out] at hq11
              replace hq11 := Lib.hid hq11
              go_wp2_with fail
              refine hq11.out.mono ?_
              rintro e w12 ⟨rfl, hT12⟩
              clear hq11 hT11
              go_wp2_with fail
              exact ⟨⟨k + 1, by omega, by go_num, j, _, want, t, true, st', js', rfl, rfl, rfl, rfl, hT12, .inr ⟨rfl, hF'.out⟩⟩, by simp [RowKit.intOf]; omega⟩
          · have hok := (hF.room (by omega) (show 0 ≤ 400 by omega)).ok
            have hjo := hF.ok (by omega)
            have hrm1 : st.Room (cntR t.size + 1) := hF.room (by omega) (by omega)
            obtain ⟨gr0, gr1⟩ := great_ok st
            have had := fun wr (h : Trio Dk Jo w wr p j st js (.slice aow want.length capw) want) => h.add J hjo (st.great + 1) t hrm1 (by omega)
            have hgr := fun wr (h : Trio Dk Jo w wr p j st js (.slice aow want.length capw) want) => h.great K S J hok
            rw [hF.add] at had
            generalize st.great = g at *
            have hs5 := hT5.sick K J
            rw [hF.jst.2.2.2.1] at hs5
            have hsq' := Lib.hid hF.jst.2.2.2.2
            replace hs5 := Lib.hid hs5
            replace had := Lib.hid had
            replace hgr := Lib.hid hgr
            replace hF := Lib.hid hF
            replace hx := Lib.hid hx
            clear hok hjo hrm1 hpN
            go_wp2_with fail
            refine hs5.out.mono ?_
            rintro e w6 ⟨rfl, hT6⟩
            have hr6 := Lib.hid (hT6.room K J ((t.size : Nat) : Int) (by omega) (by omega))
            clear hs5 hT5
            generalize js.room ((t.size : Nat) : Int) = rb at *
            go_wp2_with fail
            refine hr6.out.mono ?_
            rintro e w7 ⟨rfl, hT7⟩
            have hp7 := Lib.hid (hT7.spot K J)
            clear hr6 hT6
            go_wp2_with fail
            refine hp7.out.mono ?_
            rintro e w8 ⟨rfl, hT8⟩
            have hg8 := Lib.hid (hgr.out _ hT8)
            clear hp7 hgr hT7
            go_wp2_with fail
            refine hg8.out.mono ?_
            rintro e w9 ⟨rfl, hT9⟩
            have ha9 := Lib.hid (had.out _ hT9)
            clear hg8 had hT8
            go_wp2_with fail
            refine ha9.out.mono ?_
            rintro e w10 ⟨rfl, hT10⟩
            have hq10 := hT10.seq K J
            rw [hsq'.out] at hq10
            replace hq10 := Lib.hid hq10
            clear ha9 hT9
            go_wp2_with fail
            refine hq10.out.mono ?_
            rintro e w11 ⟨rfl, hT11⟩
            clear hq10 hT10
            go_wp2_with fail
            exact ⟨⟨k + 1, by omega, by go_num, j, _, want, fl, true, st, js, rfl, rfl, rfl, rfl, hT11, .inr ⟨rfl, hF.out.mono (by omega)⟩⟩, by simp [RowKit.intOf]; omega⟩
        · have hkb : (x.Kind == 0) = false := beq_eq_false_iff_ne.2 q0
          have hxN := hx.N
          have hxM := hx.Mask
          clear hpN
          by_cases q1 : x.Kind = 1
          · have hkb1 : (x.Kind == 1) = true := beq_iff_eq.2 q1
            have halw : Below wr.heap.size wr (wr.alloc (.cells #[.int .i64 1, .int .i64 x.N, .int .u8 ((x.C : Nat) : Int), .int .u64 ((x.Mask : Nat) : Int), .int .i64 x.Torn, .int .i64 x.Cut] 34)) := (Below.refl _ _).alloc (Nat.le_refl _) _
            have hT5 := hT.later K J halw
            clear hT halw hSW
            have hst : ∃ got z, (sameB got want || (may && sameB got (want ++ [fl]))) = true ∧ got.length ≤ want.length + 1 ∧ st.Ok ∧ (st.crashed x.Mask x.Torn x.Cut).Ok ∧ (st.crashed x.Mask x.Torn x.Cut).safe.length = 40 ∧ Recs (st.crashed x.Mask x.Torn x.Cut).now 40 0 0 got z ∧ Keep (k + 1) got (st.crashed x.Mask x.Torn x.Cut) ⟨0, 40, z, 0 + (got.length : Nat), false⟩ ∧ want.length ≤ k := by
              rcases hph with ⟨rfl, hK⟩ | ⟨rfl, hF⟩
              · have hp := hK.power x.Mask x.Torn x.Cut
                have e0 : sameB want want = true := decide_eq_true rfl
                exact ⟨want, js.spot, by rw [e0]; rfl, by omega, hK.idle.ok (by omega) (by omega), hp.idle.ok (by omega) (by omega), hp.idle.len, hp.recs, hp.mono (by omega), hK.few⟩
              · obtain ⟨got, z, hg, hrc, hkp⟩ := hF.power (by omega) x.Mask x.Torn x.Cut
                obtain ⟨st0, js0, g, m, h1, _⟩ := hF.from0
                refine ⟨got, z, ?_, ?_, (hF.room (by omega) (show 0 ≤ 400 by omega)).ok, hkp.idle.ok (by omega) (by omega), hkp.idle.len, hrc, hkp, h1.few⟩
                · rcases hg with rfl | rfl
                  · have e0 : sameB got got = true := decide_eq_true rfl
                    rw [e0]; rfl
                  · have e0 : sameB (want ++ [fl]) (want ++ [fl]) = true := decide_eq_true rfl
                    rw [e0]; simp
                · rcases hg with rfl | rfl
                  · omega
                  · simp
            obtain ⟨got, z, htl, hgl, hok, hok2, hl40, hrc, hkp, hfw⟩ := hst
            have hcr := hT5.disk K J (f := 19) (args := #[.pointer (some ⟨p, 0, none⟩), .int .u64 ((x.Mask : Nat) : Int), .int .i64 x.Torn, .int .i64 x.Cut]) (st' := st.crashed x.Mask x.Torn x.Cut) (fun Fd hd => K.crash Fd _ p st x.Mask x.Torn x.Cut hd hok (by omega))
            generalize st.crashed x.Mask x.Torn x.Cut = st2 at *
            replace hcr := Lib.hid hcr
            replace hx := Lib.hid hx
            replace hkp := Lib.hid hkp
            replace htl := Lib.hid htl
            clear hT5 hph hok
            rw [q1] at c0
            go_wp2_with fail
            refine hcr.out.mono ?_
            rintro e w6 ⟨rfl, hT6⟩
            clear hcr
            obtain ⟨Fd6, Fj6, d6, _⟩ := hT6.ex
            have hop := J.openJ Fd6 w6 p st2 0 40 0 got z d6 hok2 ⟨by omega, by omega, by rw [hl40]; omega, by omega, by omega⟩ hrc
            replace hop := Lib.hid hop
            clear d6 hrc hok2
            go_wp2_with fail
            refine hop.out.mono ?_
            intro e w7 hO
            obtain ⟨j2, v2, rfl, hT7, hb7⟩ := hT6.opened K hO
            obtain ⟨aog, capg, rfl, hSG⟩ := hT7.strs
            obtain ⟨aow2, capw2, ew, hSW2⟩ := hT6.strs
            injection ew with ew1 ew2 ew3
            subst ew1 ew3
            have htail := tail_any aog capg got aow capw want fl may (by omega) (by omega) w7 hSG (hSW2.later hb7)
            rw [htl.out] at htail
            replace htail := Lib.hid htail
            clear hop hO hSG hSW2 hb7 hT6
            go_wp2_with fail
            refine htail.out.mono ?_
            rintro e w8 ⟨rfl, hb8⟩
            have hT8 := hT7.later K J hb8
            have hq8 := hT8.seq K J
            rw [show (⟨0, 40, z, 0 + ((got.length : Nat) : Int), false⟩ : JSt).seq = ((got.length : Nat) : Int) from Int.zero_add _] at hq8
            replace hq8 := Lib.hid hq8
            clear htail hT7 hb8
            go_wp2_with fail
            refine hq8.out.mono ?_
            rintro e w9 ⟨rfl, hT9⟩
            clear hq8 hT8
            go_wp2_with fail
            exact ⟨⟨k + 1, by omega, by go_num, j2, _, got, fl, false, st2, _, rfl, rfl, rfl, rfl, hT9, .inl ⟨rfl, hkp.out⟩⟩, by simp [RowKit.intOf]; omega⟩
          · have hkb1 : (x.Kind == 1) = false := beq_eq_false_iff_ne.2 q1
            have hsqw : js.seq = ((want.length : Nat) : Int) ∧ st.Ok ∧ want.length ≤ k := by
              rcases hph with ⟨_, hK⟩ | ⟨_, hF⟩
              · exact ⟨hK.seq, hK.idle.ok (by omega) (by omega), hK.few⟩
              · obtain ⟨st0, js0, g, m, h1, _⟩ := hF.from0
                exact ⟨hF.jst.2.2.2.2, (hF.room (by omega) (show 0 ≤ 400 by omega)).ok, h1.few⟩
            obtain ⟨hsq, hok, hfw⟩ := hsqw
            by_cases q2 : x.Kind = 2
            · have hkb2 : (x.Kind == 2) = true := beq_iff_eq.2 q2
              have halw : Below wr.heap.size wr (wr.alloc (.cells #[.int .i64 2, .int .i64 x.N, .int .u8 ((x.C : Nat) : Int), .int .u64 ((x.Mask : Nat) : Int), .int .i64 x.Torn, .int .i64 x.Cut] 34)) := (Below.refl _ _).alloc (Nat.le_refl _) _
              have hT5 := hT.later K J halw
              have hph2 : Phase (k + 1) want fl may (st.armed x.N) js := by
                rcases hph with ⟨e, hK⟩ | ⟨e, hF⟩
                · exact .inl ⟨e, (hK.armed x.N hxN.2).mono (by omega)⟩
                · exact .inr ⟨e, (hF.armed x.N hxN.2).mono (by omega)⟩
              have har := hT5.disk K J (f := 21) (args := #[.pointer (some ⟨p, 0, none⟩), .int .i64 x.N]) (st' := st.armed x.N) (fun Fd hd => K.arm Fd _ p st x.N hd hok)
              generalize st.armed x.N = st2 at *
              replace har := Lib.hid har
              replace hx := Lib.hid hx
              replace hph2 := Lib.hid hph2
              clear hT hT5 hph hok halw hSW hxN hxM
              rw [q2] at c0
              go_wp2_with fail
              refine har.out.mono ?_
              rintro e w6 ⟨rfl, hT6⟩
              have hq6 := hT6.seq K J
              rw [hsq] at hq6
              replace hq6 := Lib.hid hq6
              replace hsq := Lib.hid hsq
              clear har
              go_wp2_with fail
              refine hq6.out.mono ?_
              rintro e w7 ⟨rfl, hT7⟩
              clear hq6 hT6
              go_wp2_with fail
              exact ⟨⟨k + 1, by omega, by go_num, j, _, want, fl, may, st2, js, rfl, rfl, rfl, rfl, hT7, hph2.out⟩, by simp [RowKit.intOf]; omega⟩
            · have hkb2 : (x.Kind == 2) = false := beq_eq_false_iff_ne.2 q2
              have halw : Below wr.heap.size wr (wr.alloc (.cells #[.int .i64 x.Kind, .int .i64 x.N, .int .u8 ((x.C : Nat) : Int), .int .u64 ((x.Mask : Nat) : Int), .int .i64 x.Torn, .int .i64 x.Cut] 34)) := (Below.refl _ _).alloc (Nat.le_refl _) _
              have hT5 := hT.later K J halw
              have hph2 : Phase (k + 1) want fl may st js := by
                rcases hph with ⟨e, hK⟩ | ⟨e, hF⟩
                · exact .inl ⟨e, hK.mono (by omega)⟩
                · exact .inr ⟨e, hF.mono (by omega)⟩
              have hq6 := hT5.seq K J
              rw [hsq] at hq6
              replace hq6 := Lib.hid hq6
              replace hsq := Lib.hid hsq
              replace hx := Lib.hid hx
              replace hph2 := Lib.hid hph2
              clear hT hT5 hph hok halw hSW hxN hxM
              go_wp2_with fail
              refine hq6.out.mono ?_
              rintro e w7 ⟨rfl, hT7⟩
              clear hq6
              go_wp2_with fail
              exact ⟨⟨k + 1, by omega, by go_num, j, _, want, fl, may, st, js, rfl, rfl, rfl, rfl, hT7, hph2.out⟩, by simp [RowKit.intOf]; omega⟩
      · obtain rfl : k = l.length := by omega
        go_wp2_with fail
        go_ret
        exact ⟨rfl, hT.below⟩
  · go_wp2
    go_ret
    exact ⟨rfl, hb2⟩
end Go.Proofs.Ytmhafgginbeihaa
