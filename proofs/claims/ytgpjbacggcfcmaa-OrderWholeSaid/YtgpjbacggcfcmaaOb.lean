/- Stage 12: the document's list in memory: where a stamp is, Put, Drop. No condition but its size. -/
import Derived.Test.YtgpjbacggcfcmaaOa
import Derived.Test.YtgpjbacggcfcmaaRz
import Derived.Test.YtgpjbacggcfcmaaRo
import Derived.Test.YtgpjbacggcfcmaaNeed
namespace Go.Proofs.Ytgpjbacggcfcmaa
open Go.RowKit Wm

/-- The list's two rows. -/
structure LsV (W : World) (m : Nat) (ks zs : List Int) (vk va : Value) : Prop where
  c0 : W.cell? ⟨m, 0, none⟩ = some vk
  c1 : W.cell? ⟨m, 1, none⟩ = some va
  fz : ∀ j, W.frozen? ⟨m, j, none⟩ = false
  lt : m < W.heap.size
  o0 : W.ownsRow 0 3 1 vk ks.length (rowZ ks)
  o1 : W.ownsRow 0 3 1 va zs.length (rowZ zs)
  d0 : vk.ownBlock ≠ some m
  d1 : va.ownBlock ≠ some m
  e0 : ∀ k, vk.ownBlock = some k → va.ownBlock ≠ some k
def footL (m : Nat) (vk va : Value) : Nat → Prop := fun k => k = m ∨ vk.ownBlock = some k ∨ va.ownBlock = some k
def LsRef : Kind Zbl := fun F W m t => ∃ vk va, LsV W m (t.map Prod.fst) (t.map Prod.snd) vk va ∧ ∀ k, F k ↔ footL m vk va k
section
variable {W W' : World} {m : Nat} {ks zs : List Int} {vk va : Value}
theorem LsV.near (h : LsV W m ks zs vk va) : ∀ k, footL m vk va k → k < W.heap.size := by
  intro k hk
  rcases hk with rfl | hk | hk
  · exact h.lt
  · exact (h.o0.lt k hk).2
  · exact (h.o1.lt k hk).2
theorem LsV.keep {G : Nat → Prop} (h : LsV W m ks zs vk va) (hO : Only G W W') (hG : ∀ k, footL m vk va k → ¬ G k) : LsV W' m ks zs vk va := by
  have hm : ¬ G m := hG m (.inl rfl)
  refine ⟨?_, ?_, fun j => ?_, Nat.lt_of_lt_of_le h.lt hO.size, hO.row h.o0 (fun g hg => hG g (.inr (.inl hg))), hO.row h.o1 (fun g hg => hG g (.inr (.inr hg))), h.d0, h.d1, h.e0⟩
  · rw [hO.cell (p := ⟨m, 0, none⟩) h.lt hm]; exact h.c0
  · rw [hO.cell (p := ⟨m, 1, none⟩) h.lt hm]; exact h.c1
  · rw [hO.frozen (p := ⟨m, j, none⟩) h.lt hm]; exact h.fz j
theorem LsV.later (h : LsV W m ks zs vk va) (hb : Below W.heap.size W W') : LsV W' m ks zs vk va := h.keep (G := fun _ => False) (Only.of_below hb) (fun _ _ e => e)
theorem LsV.row0 (h : LsV W m ks zs vk va) {v' : Value} {l : List Int} (hO : Only (fun k => vk.ownBlock = some k) W W')
    (ho : W'.ownsRow 0 3 1 v' l.length (rowZ l)) (hd : ∀ k, v'.ownBlock = some k → vk.ownBlock = some k ∨ W.heap.size ≤ k) : LsV (W'.setCell ⟨m, 0, none⟩ v') m l zs v' va := by
  have hc : ∀ j, W'.cell? ⟨m, j, none⟩ = W.cell? ⟨m, j, none⟩ := fun j => hO.cell (p := ⟨m, j, none⟩) h.lt h.d0
  have h0 : W'.cell? ⟨m, 0, none⟩ = some vk := by rw [hc]; exact h.c0
  have hne : ∀ k, k < W.heap.size → vk.ownBlock ≠ some k → v'.ownBlock ≠ some k := fun k hk hv e => by
    rcases hd k e with e2 | e2
    · exact hv e2
    · omega
  have dm := hne m h.lt h.d0
  exact ⟨by rw [cell_putR h0]; rfl, by rw [cell_putR h0, hc]; exact h.c1, fun j => by have := hO.frozen (p := ⟨m, j, none⟩) h.lt h.d0; simpa [this] using h.fz j, by have := hO.size; have := h.lt; simp; omega,
    ownsRow_setCell_other ho dm _, ownsRow_setCell_other (hO.row h.o1 (fun g hg e => h.e0 g e hg)) h.d1 _, dm, h.d1, fun k hk e => hne k (h.o1.lt k e).2 (fun e2 => h.e0 k e2 e) hk⟩
theorem LsV.row1 (h : LsV W m ks zs vk va) {v' : Value} {l : List Int} (hO : Only (fun k => va.ownBlock = some k) W W')
    (ho : W'.ownsRow 0 3 1 v' l.length (rowZ l)) (hd : ∀ k, v'.ownBlock = some k → va.ownBlock = some k ∨ W.heap.size ≤ k) : LsV (W'.setCell ⟨m, 1, none⟩ v') m ks l vk v' := by
  have hc : ∀ j, W'.cell? ⟨m, j, none⟩ = W.cell? ⟨m, j, none⟩ := fun j => hO.cell (p := ⟨m, j, none⟩) h.lt h.d1
  have h1 : W'.cell? ⟨m, 1, none⟩ = some va := by rw [hc]; exact h.c1
  have hne : ∀ k, k < W.heap.size → va.ownBlock ≠ some k → v'.ownBlock ≠ some k := fun k hk hv e => by
    rcases hd k e with e2 | e2
    · exact hv e2
    · omega
  have dm := hne m h.lt h.d1
  exact ⟨by rw [cell_putR h1, hc]; exact h.c0, by rw [cell_putR h1]; rfl, fun j => by have := hO.frozen (p := ⟨m, j, none⟩) h.lt h.d1; simpa [this] using h.fz j, by have := hO.size; have := h.lt; simp; omega,
    ownsRow_setCell_other (hO.row h.o0 (fun g hg e => h.e0 g hg e)) h.d0 _, ownsRow_setCell_other ho dm _, h.d0, dm, fun k hk e => hne k (h.o0.lt k hk).2 (fun e2 => h.e0 k hk e2) e⟩
end
theorem lsRef_kind : IsKind LsRef where
  near := fun F W m t h k hk => by
    obtain ⟨vk, va, hv, hF⟩ := h
    exact hv.near k ((hF k).1 hk)
  keep := fun F G W W' m t h hO hG => by
    obtain ⟨vk, va, hv, hF⟩ := h
    exact ⟨vk, va, hv.keep hO (fun k hk => hG k ((hF k).2 hk)), hF⟩
/-- Where a stamp is: how many stand ahead of it. -/
def posZ : Zbl → Int → Nat
  | [], _ => 0
  | (a, _) :: r, k => if a = k then 0 else posZ r k + 1
def idxZ (t : Zbl) (k : Int) : Int := if posZ t k < t.length then ((posZ t k : Nat) : Int) else -1
theorem posZ_first : ∀ (t : Zbl) (k : Int) (i : Nat) (hi : i < t.length), (t[i]).1 = k → (∀ j (hj : j < t.length), j < i → (t[j]).1 ≠ k) → posZ t k = i
  | [], _, _, hi, _, _ => by simp at hi
  | (a, u) :: r, k, 0, _, h, _ => by
    have h : a = k := h
    unfold posZ
    rw [if_pos h]
  | (a, u) :: r, k, i + 1, hi, h, hn => by
    have h0 : ¬ a = k := hn 0 (by simp) (by omega)
    unfold posZ
    rw [if_neg h0, posZ_first r k i (by simpa using hi) h (fun j hj hji => hn (j + 1) (by simpa using hj) (by omega))]
theorem posZ_none : ∀ (t : Zbl) (k : Int), (∀ j (hj : j < t.length), (t[j]).1 ≠ k) → posZ t k = t.length
  | [], _, _ => rfl
  | (a, u) :: r, k, hn => by
    have h0 : ¬ a = k := hn 0 (by simp)
    unfold posZ
    rw [if_neg h0, posZ_none r k (fun j hj => hn (j + 1) (by simpa using hj))]; rfl
theorem idxZ_at {t : Zbl} {k : Int} {i : Nat} (hi : i < t.length) (h : (t[i]).1 = k) (hn : ∀ j (hj : j < t.length), j < i → (t[j]).1 ≠ k) : idxZ t k = ((i : Nat) : Int) := by
  unfold idxZ
  rw [posZ_first t k i hi h hn, if_pos hi]
theorem idxZ_none {t : Zbl} {k : Int} (hn : ∀ j (hj : j < t.length), (t[j]).1 ≠ k) : idxZ t k = -1 := by
  unfold idxZ
  rw [posZ_none t k hn, if_neg (Nat.lt_irrefl _)]
theorem posZ_get : ∀ (t : Zbl) (k : Int), getZ t k = (t[posZ t k]?).map Prod.snd
  | [], _ => rfl
  | (a, u) :: r, k => by
    unfold getZ posZ
    by_cases h : a = k
    · rw [if_pos h, if_pos h]; rfl
    · rw [if_neg h, if_neg h, posZ_get r k]; rfl
theorem getZ_isSome (t : Zbl) (k : Int) : (getZ t k).isSome = decide (posZ t k < t.length) := by
  rw [posZ_get]
  by_cases h : posZ t k < t.length
  · rw [List.getElem?_eq_getElem h, decide_eq_true h]; rfl
  · rw [List.getElem?_eq_none (by omega), decide_eq_false h]; rfl
theorem putZ_found : ∀ (t : Zbl) (k v : Int), posZ t k < t.length → (putZ t k v).map Prod.fst = t.map Prod.fst ∧ (putZ t k v).map Prod.snd = (t.map Prod.snd).set (posZ t k) v
  | [], _, _, h => absurd h (Nat.lt_irrefl 0)
  | (a, u) :: r, k, v, h => by
    unfold putZ posZ at *
    by_cases e : a = k
    · rw [if_pos e, if_pos e]; exact ⟨rfl, rfl⟩
    · rw [if_neg e, if_neg e]
      rw [if_neg e] at h
      obtain ⟨h1, h2⟩ := putZ_found r k v (by simpa using h)
      constructor
      · show a :: (putZ r k v).map Prod.fst = a :: r.map Prod.fst
        rw [h1]
      · show u :: (putZ r k v).map Prod.snd = u :: (r.map Prod.snd).set (posZ r k) v
        rw [h2]
theorem putZ_new : ∀ (t : Zbl) (k v : Int), ¬ posZ t k < t.length → (putZ t k v).map Prod.fst = t.map Prod.fst ++ [k] ∧ (putZ t k v).map Prod.snd = t.map Prod.snd ++ [v]
  | [], _, _, _ => ⟨rfl, rfl⟩
  | (a, u) :: r, k, v, h => by
    unfold putZ posZ at *
    by_cases e : a = k
    · rw [if_pos e] at h
      exact absurd (by simp) h
    · rw [if_neg e]
      rw [if_neg e] at h
      obtain ⟨h1, h2⟩ := putZ_new r k v (by simpa using h)
      constructor
      · show a :: (putZ r k v).map Prod.fst = a :: r.map Prod.fst ++ [k]
        rw [h1]; rfl
      · show u :: (putZ r k v).map Prod.snd = u :: r.map Prod.snd ++ [v]
        rw [h2]; rfl
theorem dropZ_found : ∀ (t : Zbl) (k : Int), posZ t k < t.length → (dropZ t k).map Prod.fst = (t.map Prod.fst).take (posZ t k) ++ (t.map Prod.fst).drop (posZ t k + 1) ∧ (dropZ t k).map Prod.snd = (t.map Prod.snd).take (posZ t k) ++ (t.map Prod.snd).drop (posZ t k + 1)
  | [], _, h => absurd h (Nat.lt_irrefl 0)
  | (a, u) :: r, k, h => by
    unfold dropZ posZ at *
    by_cases e : a = k
    · rw [if_pos e, if_pos e]; exact ⟨rfl, rfl⟩
    · rw [if_neg e, if_neg e]
      rw [if_neg e] at h
      obtain ⟨h1, h2⟩ := dropZ_found r k (by simpa using h)
      constructor
      · show a :: (dropZ r k).map Prod.fst = a :: ((r.map Prod.fst).take (posZ r k) ++ (r.map Prod.fst).drop (posZ r k + 1))
        rw [h1]
      · show u :: (dropZ r k).map Prod.snd = u :: ((r.map Prod.snd).take (posZ r k) ++ (r.map Prod.snd).drop (posZ r k + 1))
        rw [h2]
theorem dropZ_none : ∀ (t : Zbl) (k : Int), ¬ posZ t k < t.length → dropZ t k = t
  | [], _, _ => rfl
  | (a, u) :: r, k, h => by
    unfold dropZ posZ at *
    by_cases e : a = k
    · rw [if_pos e] at h
      exact absurd (by simp) h
    · rw [if_neg e]
      rw [if_neg e] at h
      rw [dropZ_none r k (by simpa using h)]
end Go.Proofs.Ytgpjbacggcfcmaa
