/- What the walks of stage 6's laws ask of the landed journal; a disk and its journal of a law's own. -/
/- The question that each law of stage 6 asks first; how many bytes a law plays. -/
import Derived.Test.YtmhafgginbeihaaZPr
import Derived.Test.YtmhafgginbeihaaZPl
import Derived.Test.YtmhafgginbeihaaZStrs
import Derived.Test.YtmhafgginbeihaaZQg
import Derived.Test.YtmhafgginbeihaaZJb
namespace Go.Proofs.Ytmhafgginbeihaa
open Go.RowKit Go.Sort Cr

def openPlace (st : St) (fr upto seq : Int) : Prop := 0 ≤ fr ∧ fr < upto ∧ upto ≤ ((st.safe.length : Nat) : Int) ∧ 0 ≤ seq ∧ seq ≤ 1152921504606846976
/-- What opening leaves: a journal, and a row of records, both new. -/
def OpenPost (Jo : (Nat → Prop) → World → Nat → Nat → JSt → Prop) (p : Nat) (l : List ByteArray) (js : JSt) (W : World) (e : Ending) (W' : World) : Prop :=
  ∃ j F v, e = .returned (.tuple #[.pointer (some ⟨j, 0, none⟩), v, .int .i64 0]) ∧ Jo F W' j p js ∧ (∀ k, F k → W.heap.size ≤ k) ∧ W'.ownsRow 0 9 1 v l.length (rowS l) ∧ (∀ g, v.ownBlock = some g → W.heap.size ≤ g ∧ ¬ F g) ∧ Below W.heap.size W W'
def OpenBad (W : World) (e : Ending) (W' : World) : Prop := ∃ ao cap, e = .returned (.tuple #[.pointer none, .slice ao 0 cap, .int .i64 1]) ∧ Below W.heap.size W W'
def OpenNil (W : World) (e : Ending) (W' : World) : Prop := ∃ x y, e = .returned (.tuple #[x, y, .int .i64 2]) ∧ Below W.heap.size W W'
/-- What adding leaves of both. -/
def AddPost (Dk : (Nat → Prop) → World → Nat → St → Prop) (Jo : (Nat → Prop) → World → Nat → Nat → JSt → Prop) (Fd Fj : Nat → Prop) (p j : Nat) (st : St) (js : JSt) (W W' : World) : Prop :=
  ∃ Fd' Fj', Dk Fd' W' p st ∧ Jo Fj' W' j p js ∧ (∀ k, Fd' k → ¬ Fj' k) ∧ Only (fun k => Fd k ∨ Fj k) W W' ∧ (∀ k, k < W.heap.size → Fd' k → Fd k) ∧ ∀ k, k < W.heap.size → Fj' k → Fj k
structure LandedJo (Dk : (Nat → Prop) → World → Nat → St → Prop) (Jo : (Nat → Prop) → World → Nat → Nat → JSt → Prop) : Prop where
  near : ∀ F W j p js, Jo F W j p js → ∀ k, F k → k < W.heap.size
  keep : ∀ F G W W' j p js, Jo F W j p js → Only G W W' → (∀ k, F k → ¬ G k) → Jo F W' j p js
  openJ : ∀ Fd W p st (fr upto : Nat) (seq : Int) l e, Dk Fd W p st → st.Ok → openPlace st fr upto seq → Recs st.now upto fr seq l e →
    Calls Try.prog 11 #[.pointer (some ⟨p, 0, none⟩), .int .i64 (fr : Int), .int .i64 (upto : Int), .int .i64 seq] W (OpenPost Jo p l ⟨fr, upto, e, seq + (l.length : Nat), false⟩ W)
  openBad : ∀ Fd W p st (fr upto seq : Int), Dk Fd W p st → st.Ok → ¬ openPlace st fr upto seq →
    Calls Try.prog 11 #[.pointer (some ⟨p, 0, none⟩), .int .i64 fr, .int .i64 upto, .int .i64 seq] W (OpenBad W)
  openNil : ∀ W, Calls Try.prog 11 #[.pointer none, .int .i64 0, .int .i64 1, .int .i64 0] W (OpenNil W)
  room : ∀ F W j p js (n : Int), Jo F W j p js → -9223372036854775808 ≤ n → n ≤ 9223372036854775807 →
    Calls Try.prog 14 #[.pointer (some ⟨j, 0, none⟩), .int .i64 n] W fun e W' => e = .returned (.bool (js.room n)) ∧ Below W.heap.size W W'
  add : ∀ Fd Fj W p j st js (N : Int) (s : ByteArray), Dk Fd W p st → Jo Fj W j p js → (∀ k, Fd k → ¬ Fj k) → js.Ok st → st.Room (cntR s.size + 1) → s.size ≤ 140737488351232 →
    Calls Try.prog 16 #[.pointer (some ⟨j, 0, none⟩), .int .i64 N, .string s] W fun e W' => e = .returned (.int .i64 (addJ st js N s).1) ∧ AddPost Dk Jo Fd Fj p j (addJ st js N s).2.1 (addJ st js N s).2.2 W W'
  restart : ∀ F W j p js, Jo F W j p js →
    Calls Try.prog 26 #[.pointer (some ⟨j, 0, none⟩)] W fun e W' => e = .returned (.tuple #[]) ∧ Jo F W' j p { js with spot := js.fr } ∧ Only F W W'
  seq : ∀ F W j p js, Jo F W j p js →
    Calls Try.prog 22 #[.pointer (some ⟨j, 0, none⟩)] W fun e W' => e = .returned (.int .i64 js.seq) ∧ Below W.heap.size W W'
  spot : ∀ F W j p js, Jo F W j p js →
    Calls Try.prog 15 #[.pointer (some ⟨j, 0, none⟩)] W fun e W' => e = .returned (.int .i64 (js.spot : Int)) ∧ Below W.heap.size W W'
  sick : ∀ F W j p js, Jo F W j p js →
    Calls Try.prog 13 #[.pointer (some ⟨j, 0, none⟩)] W fun e W' => e = .returned (.bool js.sick) ∧ Below W.heap.size W W'
structure LandedJoNone : Prop where
  restart : ∀ W, Calls Try.prog 26 #[.pointer none] W fun e W' => e = .returned (.tuple #[]) ∧ Below W.heap.size W W'
  add : ∀ W, Calls Try.prog 16 #[.pointer none, .int .i64 1, .string ⟨#[]⟩] W fun e W' => e = .returned (.int .i64 2) ∧ Below W.heap.size W W'
  seq : ∀ W, Calls Try.prog 22 #[.pointer none] W fun e W' => e = .returned (.int .i64 0) ∧ Below W.heap.size W W'
  spot : ∀ W, Calls Try.prog 15 #[.pointer none] W fun e W' => e = .returned (.int .i64 0) ∧ Below W.heap.size W W'
  sick : ∀ W, Calls Try.prog 13 #[.pointer none] W fun e W' => e = .returned (.bool false) ∧ Below W.heap.size W W'
  room : ∀ W, Calls Try.prog 14 #[.pointer none, .int .i64 0] W fun e W' => e = .returned (.bool false) ∧ Below W.heap.size W W'
/-- A disk and a journal of a law's own. -/
structure Both (Dk : (Nat → Prop) → World → Nat → St → Prop) (Jo : (Nat → Prop) → World → Nat → Nat → JSt → Prop) (w wr : World) (p j : Nat) (st : St) (js : JSt) : Prop where
  ex : ∃ Fd Fj, Dk Fd wr p st ∧ Jo Fj wr j p js ∧ (∀ k, Fd k → ¬ Fj k) ∧ (∀ k, Fd k → w.heap.size ≤ k) ∧ ∀ k, Fj k → w.heap.size ≤ k
  below : Below w.heap.size w wr
section
variable {Dk : (Nat → Prop) → World → Nat → St → Prop} {Jo : (Nat → Prop) → World → Nat → Nat → JSt → Prop} {w wr w2 : World} {p j : Nat} {st : St} {js : JSt}
theorem Both.later (K : LandedDk Dk) (J : LandedJo Dk Jo) (h : Both Dk Jo w wr p j st js) (hb : Below wr.heap.size wr w2) : Both Dk Jo w w2 p j st js := by
  obtain ⟨⟨Fd, Fj, h1, h2, h3, h4, h5⟩, hbl⟩ := h
  exact ⟨⟨Fd, Fj, K.later h1 hb, J.keep _ (fun _ => False) _ _ _ _ _ h2 (Only.of_below hb) (fun _ _ e => e), h3, h4, h5⟩, hbl.trans (hb.mono hbl.size)⟩
theorem Both.opened (K : LandedDk Dk) {l : List ByteArray} {e : Ending} (h : Have Dk w wr p st) (ho : OpenPost Jo p l js wr e w2) :
    ∃ j v, e = .returned (.tuple #[.pointer (some ⟨j, 0, none⟩), v, .int .i64 0]) ∧ Both Dk Jo w w2 p j st js ∧ w2.ownsRow 0 9 1 v l.length (rowS l) ∧ (∀ g, v.ownBlock = some g → wr.heap.size ≤ g) ∧ Below wr.heap.size wr w2 := by
  obtain ⟨⟨Fd, h1, h2⟩, hbl⟩ := h
  obtain ⟨j, F, v, rfl, k1, k2, k3, k4, k5⟩ := ho
  refine ⟨j, v, rfl, ⟨⟨Fd, F, K.later h1 k5, k1, fun k hd hf => ?_, h2, fun k hk => ?_⟩, hbl.trans (k5.mono hbl.size)⟩, k3, fun g hg => (k4 g hg).1, k5⟩
  · have := K.near _ _ _ _ h1 k hd
    have := k2 k hf
    omega
  · have := k2 k hk
    have := hbl.size
    omega
theorem Both.room (K : LandedDk Dk) (J : LandedJo Dk Jo) (h : Both Dk Jo w wr p j st js) (n : Int) (h0 : -9223372036854775808 ≤ n) (h1 : n ≤ 9223372036854775807) :
    Calls Try.prog 14 #[.pointer (some ⟨j, 0, none⟩), .int .i64 n] wr fun e w2 => e = .returned (.bool (js.room n)) ∧ Both Dk Jo w w2 p j st js := by
  have h' := h
  obtain ⟨⟨Fd, Fj, _, k2, _⟩, _⟩ := h'
  refine (J.room Fj wr j p js n k2 h0 h1).mono ?_
  rintro e w2 ⟨rfl, hb⟩
  exact ⟨rfl, h.later K J hb⟩
theorem Both.add (J : LandedJo Dk Jo) (h : Both Dk Jo w wr p j st js) (hj : js.Ok st) (N : Int) (s : ByteArray) (hr : st.Room (cntR s.size + 1)) (hs : s.size ≤ 140737488351232) :
    Calls Try.prog 16 #[.pointer (some ⟨j, 0, none⟩), .int .i64 N, .string s] wr fun e w2 => e = .returned (.int .i64 (addJ st js N s).1) ∧ Both Dk Jo w w2 p j (addJ st js N s).2.1 (addJ st js N s).2.2 := by
  obtain ⟨⟨Fd, Fj, h1, h2, h3, h4, h5⟩, hbl⟩ := h
  refine (J.add Fd Fj wr p j st js N s h1 h2 h3 hj hr hs).mono ?_
  rintro e w2 ⟨rfl, Fd', Fj', k1, k2, k3, k4, k5, k6⟩
  have hsz := hbl.size
  refine ⟨rfl, ⟨Fd', Fj', k1, k2, k3, fun k hk => ?_, fun k hk => ?_⟩, hbl.trans (k4.to_below hsz (fun k hk => hk.elim (h4 k) (h5 k)))⟩
  · by_cases e : k < wr.heap.size
    · exact h4 k (k5 k e hk)
    · omega
  · by_cases e : k < wr.heap.size
    · exact h5 k (k6 k e hk)
    · omega
theorem Both.seq (K : LandedDk Dk) (J : LandedJo Dk Jo) (h : Both Dk Jo w wr p j st js) :
    Calls Try.prog 22 #[.pointer (some ⟨j, 0, none⟩)] wr fun e w2 => e = .returned (.int .i64 js.seq) ∧ Both Dk Jo w w2 p j st js := by
  have h' := h
  obtain ⟨⟨Fd, Fj, _, k2, _⟩, _⟩ := h'
  refine (J.seq Fj wr j p js k2).mono ?_
  rintro e w2 ⟨rfl, hb⟩
  exact ⟨rfl, h.later K J hb⟩
theorem Both.spot (K : LandedDk Dk) (J : LandedJo Dk Jo) (h : Both Dk Jo w wr p j st js) :
    Calls Try.prog 15 #[.pointer (some ⟨j, 0, none⟩)] wr fun e w2 => e = .returned (.int .i64 (js.spot : Int)) ∧ Both Dk Jo w w2 p j st js := by
  have h' := h
  obtain ⟨⟨Fd, Fj, _, k2, _⟩, _⟩ := h'
  refine (J.spot Fj wr j p js k2).mono ?_
  rintro e w2 ⟨rfl, hb⟩
  exact ⟨rfl, h.later K J hb⟩
theorem Both.sick (K : LandedDk Dk) (J : LandedJo Dk Jo) (h : Both Dk Jo w wr p j st js) :
    Calls Try.prog 13 #[.pointer (some ⟨j, 0, none⟩)] wr fun e w2 => e = .returned (.bool js.sick) ∧ Both Dk Jo w w2 p j st js := by
  have h' := h
  obtain ⟨⟨Fd, Fj, _, k2, _⟩, _⟩ := h'
  refine (J.sick Fj wr j p js k2).mono ?_
  rintro e w2 ⟨rfl, hb⟩
  exact ⟨rfl, h.later K J hb⟩
theorem Both.disk (h : Both Dk Jo w wr p j st js) : Have Dk w wr p st := by
  obtain ⟨⟨Fd, Fj, h1, _, _, h4, _⟩, hbl⟩ := h
  exact ⟨⟨Fd, h1, h4⟩, hbl⟩
theorem Both.read (K : LandedDk Dk) (J : LandedJo Dk Jo) (h : Both Dk Jo w wr p j st js) (hok : st.Ok) (i : Nat) (hi : i < st.safe.length) :
    Calls Try.prog 24 #[.pointer (some ⟨p, 0, none⟩), .int .i64 (i : Int)] wr fun e w2 => e = .returned (.tuple #[.string (st.now i), .int .i64 0]) ∧ Both Dk Jo w w2 p j st js := by
  have h' := h
  obtain ⟨⟨Fd, Fj, h1, _, _⟩, _⟩ := h'
  refine (K.read Fd wr p st (i : Int) h1 hok).mono ?_
  rintro e w2 ⟨rfl, hb⟩
  refine ⟨?_, h.later K J hb⟩
  have e1 : rdS st (i : Int) = st.now i := by unfold rdS; rw [if_pos ⟨by omega, by omega⟩, Int.toNat_natCast]
  have e2 : rdE st (i : Int) = 0 := by unfold rdE; rw [if_pos ⟨by omega, by omega⟩]
  rw [e1, e2]
end
/-- On blank sectors there is no record. -/
theorem recs_blank {get : Nat → ByteArray} {u a : Nat} {q : Int} (h : leafOf (get a) = none) : Recs get u a q [] a :=
  ⟨.nil a q, recOf_none (fun N s hr => by
    have := hr.leaf 0 (cntR_pos _)
    rw [Nat.add_zero, h] at this
    cases this)⟩
theorem blank_now (n j : Nat) (_hn : n ≤ 4096) : leafOf ((St.new (n : Int)).now j) = none := by
  have e : (St.new (n : Int)).now j = (List.replicate (min (max (n : Int) 0) 4096).toNat (zerosB 128)).getD j ByteArray.empty := rfl
  rw [e, List.getD_eq_getElem?_getD, List.getElem?_replicate]
  split
  · exact blank_none
  · exact empty_none
end Go.Proofs.Ytmhafgginbeihaa
namespace Go.Proofs.Ytmhafgginbeihaa
open Go.RowKit Go.Sort Cr

theorem row_one {wr : World} {v : Value} {s : ByteArray} (h : wr.ownsRow 0 9 1 v 1 (rowS [s])) : ∃ g cap, v = .slice (some ⟨g, 0, none⟩) 1 cap ∧ g < wr.heap.size ∧ wr.cell? ⟨g, 0, none⟩ = some (.string s) := by
  obtain ⟨ao, cap, rfl, h1⟩ := row_slice h
  obtain ⟨g, x, rfl, h2, hx, hc, _⟩ := h1 0 (by omega)
  refine ⟨g, cap, rfl, h2, ?_⟩
  have : x = .string s := by
    have := hx
    unfold rowS at this
    simpa using this.symm
  rw [← this]; exact hc
def jsA : JSt := ⟨2, 8, 2, 0, false⟩
def jsB : JSt := ⟨2, 8, 3, 1, false⟩
theorem okA6 : jsA.Ok (St.new 8) := ⟨by decide, by decide, by decide, by decide⟩
theorem cntA : cntR (⟨#[97]⟩ : ByteArray).size = 1 := by decide
/-- What the first record leaves. -/
theorem aliveA : ∃ st', addJ (St.new 8) jsA 1 ⟨#[97]⟩ = (0, st', jsB) ∧ st'.Dry 8 400 ∧ Recs st'.now 8 2 0 [⟨#[97]⟩] 3 := by
  obtain ⟨st', h1, h2, h3⟩ := add_calm (St.Dry.new 8 (by omega)) okA6 rfl (N := 1) (by decide) (s := ⟨#[97]⟩) (by decide)
  have hrec := added_rec (N := 1) (js := jsA) (s := ⟨#[97]⟩) (by decide) (by decide) (by decide) (by decide) (by decide : jsA.upto ≤ 8) h3
  refine ⟨st', h1, h2, ⟨.cons hrec ?_, ?_⟩⟩
  · have e : (2 : Nat) + cntR (⟨#[97]⟩ : ByteArray).size = 3 := by rw [cntA]
    show Chain st'.now 8 (2 + cntR (⟨#[97]⟩ : ByteArray).size) _ [] 3
    rw [e]
    exact .nil _ _
  · refine (recs_blank (q := (0 : Int) + ((([⟨#[97]⟩] : List ByteArray).length : Nat) : Int)) ?_).stop |> fun h => by simpa using h
    rw [h3 3 (by omega), if_neg (by rw [cntA]; decide)]
    exact blank_now 8 3 (by omega)
set_option maxRecDepth 100000 in
set_option maxHeartbeats 1000000 in
theorem journalAlive_any {Dk : (Nat → Prop) → World → Nat → St → Prop} {Jo : (Nat → Prop) → World → Nat → Nat → JSt → Prop} (K : LandedDk Dk) (J : LandedJo Dk Jo) (w : World) :
    Calls Try.prog 8 #[] w fun e w' => e = .returned (.bool true) ∧ Below w.heap.size w w' := by
  have hnew := Lib.hid (fun W => K.new 8 W (by decide) (by decide))
  obtain ⟨st', ha1, ha2, ha3⟩ := aliveA
  have ho1 := fun F W p h => J.openJ F W p (St.new 8) 2 8 0 [] 2 h (St.Ok.new 8) (⟨by omega, by omega, by decide, by omega, by omega⟩ : openPlace (St.new 8) 2 8 0) (recs_blank (blank_now 8 2 (by omega)))
  have ho2 := fun F W p h => J.openJ F W p st' 2 8 0 [⟨#[97]⟩] 3 h (ha2.ok (by omega) (by omega)) (⟨by omega, by omega, by rw [ha2.len]; decide, by omega, by omega⟩ : openPlace st' 2 8 0) ha3
  have had := fun w wr p j (h : Both Dk Jo w wr p j (St.new 8) jsA) => h.add J okA6 1 ⟨#[97]⟩ ((St.Dry.new 8 (by omega)).room (by omega) (by decide) (by decide)) (by decide)
  rw [ha1] at had
  clear ha1 ha2 ha3
  generalize St.new 8 = st0 at *
  replace ho1 := Lib.hid ho1
  replace ho2 := Lib.hid ho2
  replace had := Lib.hid had
  go_enter Try.func8, Try.ntmps8
  go_wp2_with fail
  refine (hnew.out _).mono ?_
  rintro e w1 ⟨p, F, rfl, hD, hF, hb1⟩
  have hH : Have Dk w w1 p st0 := ⟨⟨F, hD, hF⟩, hb1⟩
  have hDh := Lib.hid (ho1.out F w1 p hD)
  clear hD hF hb1
  go_wp2_with fail
  refine (hDh.out).mono ?_
  intro e w2 hO
  obtain ⟨j, v, rfl, hB, hr, -, -⟩ := Both.opened K hH hO
  obtain ⟨ao, cap, rfl, -⟩ := row_slice hr
  clear hr hO hH hDh
  have hA := Lib.hid (had.out _ _ _ _ hB)
  clear hB
  go_wp2_with fail
  refine (hA.out).mono ?_
  rintro e w3 ⟨rfl, hB⟩
  have hS := Lib.hid (hB.seq K J)
  clear hA hB
  go_wp2_with fail
  refine (hS.out).mono ?_
  rintro e w4 ⟨rfl, hB⟩
  have hH := hB.disk
  obtain ⟨⟨Fd, hD, hF⟩, hbl⟩ := hH
  have hH : Have Dk w w4 p st' := ⟨⟨Fd, hD, hF⟩, hbl⟩
  have hDh := Lib.hid (ho2.out Fd w4 p hD)
  clear hS hB hD hF hbl
  go_wp2_with fail
  refine (hDh.out).mono ?_
  intro e w5 hO
  obtain ⟨j2, v2, rfl, hB, hr, -, -⟩ := Both.opened K hH hO
  obtain ⟨g, cap2, rfl, hg, hc⟩ := row_one hr
  have hb := Lib.hid hB.below
  clear hr hO hH hB hDh
  go_wp2
  go_ret
  exact ⟨rfl, hb.out⟩
end Go.Proofs.Ytmhafgginbeihaa
