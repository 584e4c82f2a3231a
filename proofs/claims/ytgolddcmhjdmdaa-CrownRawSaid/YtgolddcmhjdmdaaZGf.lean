/- The landed Take, and all calls together. No condition but the disk's, and sizes. -/
import Derived.Test.YtgolddcmhjdmdaaZGe
namespace Go.Proofs.Ytgolddcmhjdmdaa
open Go.RowKit Go.Sort Cr Wm

/-- So far: the first parts, each read whole. -/
structure TakenTo (get : Nat → ByteArray) (N : Int) (size k : Nat) (t : ByteArray) : Prop where
  size : t.size = min (104 * k) size
  part : ∀ i, i < k → leafOf (get i) = some (N, ((i : Nat) : Int), partS t i)
theorem TakenTo.zero (get : Nat → ByteArray) (N : Int) (size : Nat) : TakenTo get N size 0 ByteArray.empty :=
  ⟨by show 0 = _; omega, fun i hi => by omega⟩
theorem partS_app_low (t u : ByteArray) (i : Nat) (h : 104 * (i + 1) ≤ t.size) : partS (t ++ u) i = partS t i := by
  unfold partS
  rw [ByteArray.size_append, Nat.min_eq_left (by omega), Nat.min_eq_left (by omega), Nat.min_eq_left (by omega), Nat.min_eq_left (by omega), cut_left _ _ _ _ (by omega)]
theorem partS_app_at (t u : ByteArray) (k : Nat) (h : t.size = 104 * k) (hu : u.size ≤ 104) : partS (t ++ u) k = u := by
  unfold partS
  rw [ByteArray.size_append, Nat.min_eq_left (by omega), Nat.min_eq_right (by omega), cut_right _ _ _ _ (by omega)]
  rw [show 104 * k - t.size = 0 by omega]
  exact cut_all _ _ (by omega)
theorem TakenTo.next {get : Nat → ByteArray} {N : Int} {size k : Nat} {t D : ByteArray} (h : TakenTo get N size k t) (hk : k < countN size) (hl : leafOf (get k) = some (N, ((k : Nat) : Int), D))
    (hD : D.size = min (size - t.size) 104) : TakenTo get N size (k + 1) (t ++ D) := by
  have h1 := h.size
  have h2 := countN_least size k hk
  have h3 : t.size = 104 * k := by omega
  refine ⟨by rw [ByteArray.size_append]; omega, fun i hi => ?_⟩
  by_cases e : i = k
  · subst e
    rw [partS_app_at t D i h3 (by omega)]; exact hl
  · rw [partS_app_low t D i (by omega)]
    exact h.part i (by omega)
theorem TakenTo.done {get : Nat → ByteArray} {N : Int} {size : Nat} {t : ByteArray} (h : TakenTo get N size (countN size) t) : takeOf get N size = some t := by
  have h1 := h.size
  have h2 := countN_ge size
  exact takeOf_some ⟨by omega, h.part⟩
theorem TakenTo.not {get : Nat → ByteArray} {N : Int} {size k : Nat} {t : ByteArray} (h : TakenTo get N size k t) (hk : k < countN size)
    (hl : ∀ D, D.size = min (size - t.size) 104 → leafOf (get k) ≠ some (N, ((k : Nat) : Int), D)) : takeOf get N size = none := by
  refine takeOf_none (fun u hu => ?_)
  refine hl (partS u k) ?_ (hu.2 k hk)
  have h1 := h.size
  have h2 := countN_least size k hk
  have h3 := hu.1
  rw [partS_size]
  omega
/-- A writer in the making behind a call's own first world. -/
structure Tk (W0 : World) (w : World) (p : Nat) (bs : ByteArray) : Prop where
  wr : ∃ F, WrIs F w p bs ∧ ∀ k, F k → W0.heap.size ≤ k
  bel : Below W0.heap.size W0 w
theorem Tk.later {W0 w w' : World} {p : Nat} {bs : ByteArray} (h : Tk W0 w p bs) (hb : Below w.heap.size w w') : Tk W0 w' p bs := by
  obtain ⟨F, h1, h2⟩ := h.wr
  exact ⟨⟨F, wrIs_later h1 hb, h2⟩, h.bel.trans (hb.mono h.bel.size)⟩
theorem Tk.raw {W0 w : World} {p : Nat} {bs : ByteArray} (h : Tk W0 w p bs) (s : ByteArray) (hb : bs.size ≤ 800000) (hs : s.size ≤ 100000) :
    Calls Try.prog 47 #[.pointer (some ⟨p, 0, none⟩), .string s] w fun e w' => e = .returned (.tuple #[]) ∧ Tk W0 w' p (bs ++ s) := by
  obtain ⟨F, h1, h2⟩ := h.wr
  refine (wrRaw_any F w p bs s h1 hb hs).mono ?_
  rintro e w' ⟨rfl, F', k1, k2, k3⟩
  refine ⟨rfl, ⟨F', k1, fun k hk => ?_⟩, h.bel.trans (k2.to_below h.bel.size (fun k hk => h2 _ hk))⟩
  by_cases e : k < w.heap.size
  · exact h2 k (k3 k e hk)
  · have := h.bel.size
    omega
theorem Tk.str {W0 w : World} {p : Nat} {bs : ByteArray} (h : Tk W0 w p bs) (hb : bs.size ≤ 1000000) :
    Calls Try.prog 26 #[.pointer (some ⟨p, 0, none⟩)] w fun e w' => e = .returned (.string bs) ∧ Tk W0 w' p bs := by
  obtain ⟨F, h1, _⟩ := h.wr
  refine (wrStr_any F w p bs h1 hb).mono ?_
  rintro e w' ⟨rfl, hb⟩
  exact ⟨rfl, h.later hb⟩
/-- All calls of the landed sectors. -/
theorem landedSt {Dk : (Nat → Prop) → World → Nat → St → Prop} (K : LandedDk Dk) : LandedSt Dk where
  bytes := fun N I D W hD => stBytes_any N I D W hD
  read := fun s W hs => stRead_any s W hs
  count := fun n W _ h => count_any n W h
  great := fun _ _ _ _ h hok => stGreat_any K h hok
  lay := fun F W p st fr upto N s h hr hs => stLay_any K F W p st fr upto N s h hr hs
end Go.Proofs.Ytgolddcmhjdmdaa
