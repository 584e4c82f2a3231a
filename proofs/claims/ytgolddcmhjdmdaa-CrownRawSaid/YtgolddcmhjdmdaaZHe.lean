/- Stage 6: a record read: what its first sector tells, and what is taken. Plain: no program, no condition. -/
/- What the walks of stage 6's laws ask of the landed journal; a disk and its journal of a law's own. -/
/- The landed journal in memory, and its small calls. No condition but sizes, and a landed stamp's. -/
/- The landed Open. No condition but the disk's, and a landed stamp's. -/
/- The landed journal's write, and Add. No condition but the disk's, a landed stamp's, and sizes. -/
import Derived.Test.YtgolddcmhjdmdaaZPc
import Derived.Test.YtgolddcmhjdmdaaZGc
import Derived.Test.YtgolddcmhjdmdaaZGf
import Derived.Test.YtgolddcmhjdmdaaZJb
import Derived.Test.YtgolddcmhjdmdaaZQj
import Derived.Deep.RegionHeld3
import Derived.Lib.QuietBelow
import Derived.OwnWalk
import Derived.RegionTactic
import Derived.Deep.AppendLies
namespace Go.Proofs.Ytgolddcmhjdmdaa
open Go Go.RowKit Cr Wm

theorem valL_inj : ∀ (l l' : List Nat), l.length = l'.length → (∀ b ∈ l, b < 256) → (∀ b ∈ l', b < 256) → valL l = valL l' → l = l'
  | [], [], _, _, _, _ => rfl
  | [], b :: r, h, _, _, _ => by simp at h
  | b :: r, [], h, _, _, _ => by simp at h
  | a :: r, b :: r', h, h1, h2, e => by
    have a1 := h1 a (List.mem_cons_self ..)
    have b1 := h2 b (List.mem_cons_self ..)
    have e' : a + 256 * valL r = b + 256 * valL r' := e
    rw [List.length_cons, List.length_cons] at h
    have := valL_inj r r' (by omega) (fun x hx => h1 x (List.mem_cons_of_mem _ hx)) (fun x hx => h2 x (List.mem_cons_of_mem _ hx)) (by omega)
    rw [this, show a = b by omega]
theorem bytesN_same {s t : ByteArray} (h : bytesN s = bytesN t) : s = t := by
  unfold bytesN at h
  apply ByteArray.ext
  apply Array.toList_inj.mp
  exact (List.map_inj_right (fun a b e => UInt8.toNat_inj.mp e)).mp h
theorem intB_back (size : Int) (k : Nat) (hk : sizeK size = k) (h8 : k ≤ 8) {b : ByteArray} (h : b.size = k) : intB size (backZ b) = b := by
  apply bytesN_same
  refine valL_inj _ _ (by rw [bytesN_length, bytesN_length, intB_size, hk, h]) (bytesN_lt _) (bytesN_lt _) ?_
  unfold intB
  rw [valL_textP, hk]
  have hl := valL_lt (bytesN b) (bytesN_lt b)
  rw [bytesN_length, h] at hl
  have hp : (256 : Nat) ^ k ≤ 256 ^ 8 := Nat.pow_le_pow_right (by decide) h8
  have e : u64N (backZ b) = valL (bytesN b) := by
    unfold u64N backZ wrap64
    generalize valL (bytesN b) = v at *
    generalize (256 : Nat) ^ k = q at *
    rw [show (256 : Nat) ^ 8 = 18446744073709551616 from rfl] at hp
    omega
  rw [e]
  exact Nat.mod_eq_of_lt hl
end Go.Proofs.Ytgolddcmhjdmdaa
namespace Go.Proofs.Ytgolddcmhjdmdaa
open Go.RowKit Go.Sort Cr

/-- What opening leaves: a journal, and a row of records, both new. -/
def OpenPost (Jo : (Nat → Prop) → World → Nat → Nat → JSt → Prop) (p : Nat) (l : List ByteArray) (js : JSt) (W : World) (e : Ending) (W' : World) : Prop :=
  ∃ j F v, e = .returned (.tuple #[.pointer (some ⟨j, 0, none⟩), v, .int .i64 0]) ∧ Jo F W' j p js ∧ (∀ k, F k → W.heap.size ≤ k) ∧ W'.ownsRow 0 9 1 v l.length (rowS l) ∧ (∀ g, v.ownBlock = some g → W.heap.size ≤ g ∧ ¬ F g) ∧ Below W.heap.size W W'
/-- What adding leaves of both. -/
def AddPost (Dk : (Nat → Prop) → World → Nat → St → Prop) (Jo : (Nat → Prop) → World → Nat → Nat → JSt → Prop) (Fd Fj : Nat → Prop) (p j : Nat) (st : St) (js : JSt) (W W' : World) : Prop :=
  ∃ Fd' Fj', Dk Fd' W' p st ∧ Jo Fj' W' j p js ∧ (∀ k, Fd' k → ¬ Fj' k) ∧ Only (fun k => Fd k ∨ Fj k) W W' ∧ (∀ k, k < W.heap.size → Fd' k → Fd k) ∧ ∀ k, k < W.heap.size → Fj' k → Fj k
structure LandedJo (Dk : (Nat → Prop) → World → Nat → St → Prop) (Jo : (Nat → Prop) → World → Nat → Nat → JSt → Prop) : Prop where
  near : ∀ F W j p js, Jo F W j p js → ∀ k, F k → k < W.heap.size
  keep : ∀ F G W W' j p js, Jo F W j p js → Only G W W' → (∀ k, F k → ¬ G k) → Jo F W' j p js
/-- A disk and a journal of a law's own. -/
structure Both (Dk : (Nat → Prop) → World → Nat → St → Prop) (Jo : (Nat → Prop) → World → Nat → Nat → JSt → Prop) (w wr : World) (p j : Nat) (st : St) (js : JSt) : Prop where
  ex : ∃ Fd Fj, Dk Fd wr p st ∧ Jo Fj wr j p js ∧ (∀ k, Fd k → ¬ Fj k) ∧ (∀ k, Fd k → w.heap.size ≤ k) ∧ ∀ k, Fj k → w.heap.size ≤ k
  below : Below w.heap.size w wr
section
variable {Dk : (Nat → Prop) → World → Nat → St → Prop} {Jo : (Nat → Prop) → World → Nat → Nat → JSt → Prop} {w wr w2 : World} {p j : Nat} {st : St} {js : JSt}
theorem Both.later (K : LandedDk Dk) (J : LandedJo Dk Jo) (h : Both Dk Jo w wr p j st js) (hb : Below wr.heap.size wr w2) : Both Dk Jo w w2 p j st js := by
  obtain ⟨⟨Fd, Fj, h1, h2, h3, h4, h5⟩, hbl⟩ := h
  exact ⟨⟨Fd, Fj, K.later h1 hb, J.keep _ (fun _ => False) _ _ _ _ _ h2 (Only.of_below hb) (fun _ _ e => e), h3, h4, h5⟩, hbl.trans (hb.mono hbl.size)⟩
theorem Both.opened (K : LandedDk Dk) {l : List ByteArray} {e : Ending} (h : Have Dk w wr p st) (ho : OpenPost Jo p l js wr e w2) :
    ∃ j v, e = .returned (.tuple #[.pointer (some ⟨j, 0, none⟩), v, .int .i64 0]) ∧ Both Dk Jo w w2 p j st js ∧ w2.ownsRow 0 9 1 v l.length (rowS l) ∧ (∀ g, v.ownBlock = some g → wr.heap.size ≤ g) ∧ Below wr.heap.size wr w2 := by
  obtain ⟨⟨Fd, h1, h2⟩, hbl⟩ := h
  obtain ⟨j, F, v, rfl, k1, k2, k3, k4, k5⟩ := ho
  refine ⟨j, v, rfl, ⟨⟨Fd, F, K.later h1 k5, k1, fun k hd hf => ?_, h2, fun k hk => ?_⟩, hbl.trans (k5.mono hbl.size)⟩, k3, fun g hg => (k4 g hg).1, k5⟩
  · have := K.near _ _ _ _ h1 k hd
    have := k2 k hf
    omega
  · have := k2 k hk
    have := hbl.size
    omega
theorem Both.disk (h : Both Dk Jo w wr p j st js) : Have Dk w wr p st := by
  obtain ⟨⟨Fd, Fj, h1, _, _, h4, _⟩, hbl⟩ := h
  exact ⟨⟨Fd, h1, h4⟩, hbl⟩
theorem Both.read (K : LandedDk Dk) (J : LandedJo Dk Jo) (h : Both Dk Jo w wr p j st js) (hok : st.Ok) (i : Nat) (hi : i < st.safe.length) :
    Calls Try.prog 20 #[.pointer (some ⟨p, 0, none⟩), .int .i64 (i : Int)] wr fun e w2 => e = .returned (.tuple #[.string (st.now i), .int .i64 0]) ∧ Both Dk Jo w w2 p j st js := by
  have h' := h
  obtain ⟨⟨Fd, Fj, h1, _, _⟩, _⟩ := h'
  refine (K.read Fd wr p st (i : Int) h1 hok).mono ?_
  rintro e w2 ⟨rfl, hb⟩
  refine ⟨?_, h.later K J hb⟩
  have e1 : rdS st (i : Int) = st.now i := by unfold rdS; rw [if_pos ⟨by omega, by omega⟩, Int.toNat_natCast]
  have e2 : rdE st (i : Int) = 0 := by unfold rdE; rw [if_pos ⟨by omega, by omega⟩]
  rw [e1, e2]
end
end Go.Proofs.Ytgolddcmhjdmdaa
namespace Go.Proofs.Ytgolddcmhjdmdaa
open Go.RowKit Go.Sort Cr Wm

/-- A journal's block. -/
structure JoV (W : World) (j p : Nat) (js : JSt) : Prop where
  c0 : W.cell? ⟨j, 0, none⟩ = some (.pointer (some ⟨p, 0, none⟩))
  c1 : W.cell? ⟨j, 1, none⟩ = some (.int .i64 (js.fr : Int))
  c2 : W.cell? ⟨j, 2, none⟩ = some (.int .i64 (js.upto : Int))
  c3 : W.cell? ⟨j, 3, none⟩ = some (.int .i64 (js.spot : Int))
  c4 : W.cell? ⟨j, 4, none⟩ = some (.int .i64 js.seq)
  c5 : W.cell? ⟨j, 5, none⟩ = some (.bool js.sick)
  fz : ∀ i, W.frozen? ⟨j, i, none⟩ = false
  lt : j < W.heap.size
  few : js.fr ≤ js.spot ∧ js.spot ≤ js.upto ∧ js.upto ≤ 4096 ∧ 0 ≤ js.seq ∧ js.seq ≤ 1152921504606846976
def JoIs (F : Nat → Prop) (W : World) (j p : Nat) (js : JSt) : Prop := JoV W j p js ∧ ∀ k, F k ↔ k = j
section
variable {W W' : World} {j p : Nat} {js : JSt} {F G : Nat → Prop}
theorem JoV.keep (h : JoV W j p js) (hO : Only G W W') (hj : ¬ G j) : JoV W' j p js :=
  have hc : ∀ i, W'.cell? ⟨j, i, none⟩ = W.cell? ⟨j, i, none⟩ := fun i => hO.cell (p := ⟨j, i, none⟩) h.lt hj
  ⟨by rw [hc]; exact h.c0, by rw [hc]; exact h.c1, by rw [hc]; exact h.c2, by rw [hc]; exact h.c3, by rw [hc]; exact h.c4, by rw [hc]; exact h.c5,
    fun i => by rw [hO.frozen (p := ⟨j, i, none⟩) h.lt hj]; exact h.fz i, Nat.lt_of_lt_of_le h.lt hO.size, h.few⟩
theorem JoV.later (h : JoV W j p js) (hb : Below W.heap.size W W') : JoV W' j p js := h.keep (G := fun _ => False) (Only.of_below hb) (fun e => e)
theorem JoIs.near (h : JoIs F W j p js) : ∀ k, F k → k < W.heap.size := fun k hk => by rw [(h.2 k).1 hk]; exact h.1.lt
theorem JoIs.keep (h : JoIs F W j p js) (hO : Only G W W') (hG : ∀ k, F k → ¬ G k) : JoIs F W' j p js := ⟨h.1.keep hO (hG j ((h.2 j).2 rfl)), h.2⟩
theorem JoIs.later (h : JoIs F W j p js) (hb : Below W.heap.size W W') : JoIs F W' j p js := ⟨h.1.later hb, h.2⟩
end
theorem JoV.held {W W' : World} {j p : Nat} {js : JSt} (h : JoV W j p js) (hb : Below W.heap.size W W') :
    W'.cell? ⟨j, 2, none⟩ = some (.int .i64 (js.upto : Int)) ∧ W'.cell? ⟨j, 3, none⟩ = some (.int .i64 (js.spot : Int)) ∧ Below W.heap.size W W' := ⟨(h.later hb).c2, (h.later hb).c3, hb⟩
end Go.Proofs.Ytgolddcmhjdmdaa
namespace Go.Proofs.Ytgolddcmhjdmdaa
open Go.RowKit Go.Sort Cr Wm

/-- A journal and a row of records in the making, both new. -/
structure Opn (W0 wr : World) (j p : Nat) (js : JSt) (v : Value) (l : List ByteArray) : Prop where
  jo : JoV wr j p js
  new : W0.heap.size ≤ j
  row : wr.ownsRow 0 9 1 v l.length (rowS l)
  far : ∀ g, v.ownBlock = some g → W0.heap.size ≤ g ∧ g ≠ j
  bel : Below W0.heap.size W0 wr
theorem Opn.later {W0 wr w2 : World} {j p : Nat} {js : JSt} {v : Value} {l : List ByteArray} (h : Opn W0 wr j p js v l) (hb : Below wr.heap.size wr w2) : Opn W0 w2 j p js v l :=
  ⟨h.jo.later hb, h.new, (Only.of_below (F := fun _ => False) hb).row h.row (fun _ _ e => e), h.far, h.bel.trans (hb.mono h.bel.size)⟩
end Go.Proofs.Ytgolddcmhjdmdaa
namespace Go.Proofs.Ytgolddcmhjdmdaa
open Go.RowKit Go.Sort Cr Wm

theorem layAll_room (N : Int) (s : ByteArray) (f m : Nat) : ∀ (k i : Nat) (st : St), st.Room (k + m) → (layAll N s f i k st).2.Room m
  | 0, _, st, h => h.less (by omega)
  | k + 1, i, st, h => by
    have h2 := St.Room.write (n := k + m) (h.less (by omega)) ((f + i : Nat) : Int) (secB N ((i : Nat) : Int) (partS s i))
    rw [layAll]
    split
    · exact layAll_room N s f m k (i + 1) _ h2
    · exact h2.less (by omega)
theorem lay_room {st : St} {s : ByteArray} {m : Nat} (h : st.Room (countN s.size + m)) (fr upto N : Int) : (st.lay fr upto N s).2.Room m := by
  unfold St.lay
  split
  · split
    · exact h.less (by omega)
    · exact layAll_room N s _ m _ _ _ h
  · exact h.less (by omega)
theorem Tk.int {W0 w : World} {p : Nat} {bs : ByteArray} (h : Tk W0 w p bs) (size n : Int) (hb : bs.size ≤ 800000) (h1 : -9223372036854775808 ≤ n) (h2 : n ≤ 9223372036854775807) :
    Calls Try.prog 25 #[.pointer (some ⟨p, 0, none⟩), .int .i64 size, .int .i64 n] w fun e w' => e = .returned (.tuple #[]) ∧ Tk W0 w' p (bs ++ intB size n) := by
  obtain ⟨F, h3, h4⟩ := h.wr
  refine (wrInt_any F w p bs size n h3 hb h1 h2).mono ?_
  rintro e w' ⟨rfl, F', k1, k2, k3⟩
  refine ⟨rfl, ⟨F', k1, fun k hk => ?_⟩, h.bel.trans (k2.to_below h.bel.size (fun k hk => h4 _ hk))⟩
  by_cases e : k < w.heap.size
  · exact h4 k (k3 k e hk)
  · have := h.bel.size
    omega
theorem DkPost.before {Dk : (Nat → Prop) → World → Nat → St → Prop} {F : Nat → Prop} {p : Nat} {st : St} {W0 W W1 : World} (hb : Below W0.heap.size W0 W) (h : DkPost Dk F p st W W1) : DkPost Dk F p st W0 W1 := by
  obtain ⟨F', h1, h2, h3⟩ := h
  exact ⟨F', h1, (Only.of_below (F := F) hb).trans h2 (fun _ _ e => e), fun k hk e => h3 k (Nat.lt_of_lt_of_le hk hb.size) e⟩
theorem AddPost.same {Dk : (Nat → Prop) → World → Nat → St → Prop} (K : LandedDk Dk) {Fd Fj : Nat → Prop} {p j : Nat} {st : St} {js : JSt} {W W' : World} (hd : Dk Fd W p st) (h : JoIs Fj W j p js) (hx : ∀ k, Fd k → ¬ Fj k) (hb : Below W.heap.size W W') : AddPost Dk JoIs Fd Fj p j st js W W' :=
  ⟨Fd, Fj, K.later hd hb, h.later hb, hx, Only.of_below hb, fun _ _ e => e, fun _ _ e => e⟩
end Go.Proofs.Ytgolddcmhjdmdaa
