/- The landed Open. No condition but the disk's, and a landed stamp's. -/
/- The landed journal's write, and Add. No condition but the disk's, a landed stamp's, and sizes. -/
import Derived.Test.YtageeodmpbngaaaZGf
import Derived.Test.YtageeodmpbngaaaZHa
import Derived.OwnWalk
import Derived.RegionTactic
import Derived.Deep.AppendLies
namespace Go.Proofs.Ytageeodmpbngaaa
open Go.RowKit Go.Sort Cr Wm

/-- A journal and a row of records in the making, both new. -/
structure Opn (W0 wr : World) (j p : Nat) (js : JSt) (v : Value) (l : List ByteArray) : Prop where
  jo : JoV wr j p js
  new : W0.heap.size ≤ j
  row : wr.ownsRow 0 9 1 v l.length (rowS l)
  far : ∀ g, v.ownBlock = some g → W0.heap.size ≤ g ∧ g ≠ j
  bel : Below W0.heap.size W0 wr
theorem Opn.later {W0 wr w2 : World} {j p : Nat} {js : JSt} {v : Value} {l : List ByteArray} (h : Opn W0 wr j p js v l) (hb : Below wr.heap.size wr w2) : Opn W0 w2 j p js v l :=
  ⟨h.jo.later hb, h.new, (Only.of_below (F := fun _ => False) hb).row h.row (fun _ _ e => e), h.far, h.bel.trans (hb.mono h.bel.size)⟩
end Go.Proofs.Ytageeodmpbngaaa
namespace Go.Proofs.Ytageeodmpbngaaa
open Go.RowKit Go.Sort Cr Wm

theorem layAll_room (N : Int) (s : ByteArray) (f m : Nat) : ∀ (k i : Nat) (st : St), st.Room (k + m) → (layAll N s f i k st).2.Room m
  | 0, _, st, h => h.less (by omega)
  | k + 1, i, st, h => by
    have h2 := St.Room.write (n := k + m) (h.less (by omega)) ((f + i : Nat) : Int) (secB N ((i : Nat) : Int) (partS s i))
    rw [layAll]
    split
    · exact layAll_room N s f m k (i + 1) _ h2
    · exact h2.less (by omega)
theorem lay_room {st : St} {s : ByteArray} {m : Nat} (h : st.Room (countN s.size + m)) (fr upto N : Int) : (st.lay fr upto N s).2.Room m := by
  unfold St.lay
  split
  · split
    · exact h.less (by omega)
    · exact layAll_room N s _ m _ _ _ h
  · exact h.less (by omega)
theorem Tk.int {W0 w : World} {p : Nat} {bs : ByteArray} (h : Tk W0 w p bs) (size n : Int) (hb : bs.size ≤ 800000) (h1 : -9223372036854775808 ≤ n) (h2 : n ≤ 9223372036854775807) :
    Calls Try.prog 49 #[.pointer (some ⟨p, 0, none⟩), .int .i64 size, .int .i64 n] w fun e w' => e = .returned (.tuple #[]) ∧ Tk W0 w' p (bs ++ intB size n) := by
  obtain ⟨F, h3, h4⟩ := h.wr
  refine (wrInt_any F w p bs size n h3 hb h1 h2).mono ?_
  rintro e w' ⟨rfl, F', k1, k2, k3⟩
  refine ⟨rfl, ⟨F', k1, fun k hk => ?_⟩, h.bel.trans (k2.to_below h.bel.size (fun k hk => h4 _ hk))⟩
  by_cases e : k < w.heap.size
  · exact h4 k (k3 k e hk)
  · have := h.bel.size
    omega
theorem DkPost.before {Dk : (Nat → Prop) → World → Nat → St → Prop} {F : Nat → Prop} {p : Nat} {st : St} {W0 W W1 : World} (hb : Below W0.heap.size W0 W) (h : DkPost Dk F p st W W1) : DkPost Dk F p st W0 W1 := by
  obtain ⟨F', h1, h2, h3⟩ := h
  exact ⟨F', h1, (Only.of_below (F := F) hb).trans h2 (fun _ _ e => e), fun k hk e => h3 k (Nat.lt_of_lt_of_le hk hb.size) e⟩
theorem AddPost.same {Dk : (Nat → Prop) → World → Nat → St → Prop} (K : LandedDk Dk) {Fd Fj : Nat → Prop} {p j : Nat} {st : St} {js : JSt} {W W' : World} (hd : Dk Fd W p st) (h : JoIs Fj W j p js) (hx : ∀ k, Fd k → ¬ Fj k) (hb : Below W.heap.size W W') : AddPost Dk JoIs Fd Fj p j st js W W' :=
  ⟨Fd, Fj, K.later hd hb, h.later hb, hx, Only.of_below hb, fun _ _ e => e, fun _ _ e => e⟩
end Go.Proofs.Ytageeodmpbngaaa
