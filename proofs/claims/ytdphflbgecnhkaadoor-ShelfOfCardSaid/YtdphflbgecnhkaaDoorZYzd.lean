/- Stage 26: the landed shelf's Show. No condition but sizes. -/
/- Stage 26: the walk of ShelfTexts. No condition but the landed package's. -/
/- Stage 26: the landed shelf's Parse. No condition but sizes. -/
/- Stage 26: the landed shelf keeps what the walks ask of it, whatever else the world must keep. -/
import Derived.Test.YtdphflbgecnhkaaDoorZYc
import Derived.Test.YtdphflbgecnhkaaDoorZYs
import Derived.Test.YtdphflbgecnhkaaDoorZYu
import Derived.Test.YtdphflbgecnhkaaDoorZYza
import Derived.Test.YtdphflbgecnhkaaDoorZYe
import Derived.Lib.MinMax
import Derived.Shelf.Strings.Search2
namespace Go.Proofs.YtdphflbgecnhkaaDoor
open Go.RowKit Go.Sort Wm

set_option maxRecDepth 100000 in
set_option maxHeartbeats 1000000 in
theorem shShow_any (p : Place) (hp : p.Wf) (w : World) : Calls Tryd.prog 13 #[placeV p] w fun e w' => e = .returned (.string (showPl p)) ∧ Below w.heap.size w w' := by
  have cG := Lib.hid (fun W => shGood_any p hp W)
  have hv := Lib.hid (show showPl p = if goodPl p = true then p.Good ++ ⟨#[64]⟩ ++ p.Site else ByteArray.empty from rfl)
  rw [hv.out]
  clear hv
  rw [placeV_eq] at *
  cases hg : goodPl p
  · rw [hg] at cG
    go_enter Tryd.func13, Tryd.ntmps13
    go_wp2_with fail
    refine (cG.out _).mono ?_
    rintro e W1 ⟨rfl, hb1⟩
    have hbl := Lib.hid (show Below w.heap.size w W1 from ((Below.refl _ _).alloc (Nat.le_refl _) _).trans (hb1.mono (by simp)))
    clear hb1 cG
    go_wp2
    go_ret
    exact ⟨rfl, hbl.out⟩
  · rw [hg] at cG
    have n1 : ¬ 9223372036854775807 < p.Good.size + 1 := by have := hp.Good; omega
    have n2 : ¬ 9223372036854775807 < p.Good.size + 1 + p.Site.size := by have := hp.Good; have := hp.Site; omega
    go_enter Tryd.func13, Tryd.ntmps13
    go_wp2_with fail
    refine (cG.out _).mono ?_
    rintro e W1 ⟨rfl, hb1⟩
    have hbx := (BoxAt.new w [.string p.Good, .string p.Site, .int .i64 p.State] 23).later hb1
    have k0 : W1.cell? ⟨w.heap.size, 0, none⟩ = some (.string p.Good) := hbx.spot 0 _ rfl
    have k1 : W1.cell? ⟨w.heap.size, 1, none⟩ = some (.string p.Site) := hbx.spot 1 _ rfl
    have hbl := Lib.hid (show Below w.heap.size w W1 from ((Below.refl _ _).alloc (Nat.le_refl _) _).trans (hb1.mono (by simp)))
    clear hb1 cG
    go_wp2
    go_ret
    exact ⟨rfl, hbl.out⟩
end Go.Proofs.YtdphflbgecnhkaaDoor
namespace Go.Proofs.YtdphflbgecnhkaaDoor
open Go.RowKit Go.Sort Wm Cr

/-- The first at sign of a text from byte m on, or -1. -/
def AtIs (s : ByteArray) (m : Nat) (a : Int) : Prop :=
  (a = -1 ∧ ∀ j (h : j < s.size), m ≤ j → s[j].toNat ≠ 64) ∨ (∃ k : Nat, ∃ h : k < s.size, a = (k : Int) ∧ m ≤ k ∧ s[k].toNat = 64 ∧ ∀ j (hj : j < s.size), m ≤ j → j < k → s[j].toNat ≠ 64)
theorem AtIs.start (s : ByteArray) : AtIs s s.size (-1) := .inl ⟨rfl, fun j h h2 => by omega⟩
theorem AtIs.hit {s : ByteArray} {m : Nat} (h : m < s.size) (hc : s[m].toNat = 64) : AtIs s m (m : Int) := .inr ⟨m, h, rfl, Nat.le_refl _, hc, fun j _ h1 h2 => by omega⟩
theorem AtIs.miss {s : ByteArray} {m : Nat} {a : Int} (h : AtIs s (m + 1) a) (hm : m < s.size) (hc : s[m].toNat ≠ 64) : AtIs s m a := by
  have key : ∀ j (hj : j < s.size), m ≤ j → (m + 1 ≤ j → s[j].toNat ≠ 64) → s[j].toNat ≠ 64 := fun j hj h1 h2 => by
    by_cases e : j = m
    · subst e; exact hc
    · exact h2 (by omega)
  rcases h with ⟨h1, h2⟩ | ⟨k, hk, h1, h2, h3, h4⟩
  · exact .inl ⟨h1, fun j hj hmj => key j hj hmj (h2 j hj)⟩
  · exact .inr ⟨k, hk, h1, by omega, h3, fun j hj hmj hjk => key j hj hmj (fun e => h4 j hj e hjk)⟩
theorem AtIs.some (s : ByteArray) : ∀ (n m : Nat), m + n = s.size → ∃ a, AtIs s m a
  | 0, m, h => ⟨-1, by rw [show m = s.size by omega]; exact AtIs.start s⟩
  | n + 1, m, h => by
    obtain ⟨a, ha⟩ := AtIs.some s n (m + 1) (by omega)
    by_cases hc : s[m].toNat = 64
    · exact ⟨m, AtIs.hit (by omega) hc⟩
    · exact ⟨a, ha.miss (by omega) hc⟩
section
variable {Mo : World → Prop}
end
end Go.Proofs.YtdphflbgecnhkaaDoor
namespace Go.Proofs.YtdphflbgecnhkaaDoor
open Go.RowKit Go.Sort Wm

/-- What Parse works beside. -/
structure PaW (w wr : World) : Prop where
  r0 : wr.cell? ⟨w.heap.size, 0, none⟩ = some (.string ⟨#[]⟩)
  r1 : wr.cell? ⟨w.heap.size, 1, none⟩ = some (.string ⟨#[]⟩)
  r2 : wr.cell? ⟨w.heap.size, 2, none⟩ = some (.int .i64 0)
  g : ∀ j, wr.frozen? ⟨w.heap.size, j, none⟩ = false
  lt : w.heap.size < wr.heap.size
  below : Below w.heap.size w wr
theorem PaW.later {w wr w2 : World} (h : PaW w wr) (hb : Below wr.heap.size wr w2) : PaW w w2 :=
  ⟨by rw [hb.cell (p := ⟨w.heap.size, 0, none⟩) h.lt]; exact h.r0, by rw [hb.cell (p := ⟨w.heap.size, 1, none⟩) h.lt]; exact h.r1, by rw [hb.cell (p := ⟨w.heap.size, 2, none⟩) h.lt]; exact h.r2,
    fun j => by rw [hb.frozen (p := ⟨w.heap.size, j, none⟩) h.lt]; exact h.g j, Nat.lt_of_lt_of_le h.lt hb.size, h.below.trans (hb.mono h.below.size)⟩
end Go.Proofs.YtdphflbgecnhkaaDoor
namespace Go.Proofs.YtdphflbgecnhkaaDoor
open Go.RowKit Go.Sort Wm

theorem landedSh {Mo : World → Prop} (hM : ∀ W W', Mo W → Below W.heap.size W W' → Mo W') : LandedSh Mo where
  later := hM
  good := fun p W hp _ => shGood_any p hp W
  id := fun p W hp _ => shId_any p hp W
  of := fun n W _ _ => shOf_any n W
  shows := fun p W hp _ => shShow_any p hp W
end Go.Proofs.YtdphflbgecnhkaaDoor
