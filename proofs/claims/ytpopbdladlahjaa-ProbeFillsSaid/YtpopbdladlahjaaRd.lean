/- Stage 11: the document's table in memory, and where a name is in it. No condition but its size. -/
import Derived.Test.YtpopbdladlahjaaRb
import Derived.Test.YtpopbdladlahjaaRz
import Derived.Laws.AppendOwn
import Derived.OwnWalk
import Derived.OneCell
namespace Go.Proofs.Ytpopbdladlahjaa
open Go.RowKit Go.Sort Wm
attribute [local go_sem high] run_eql_num run_neq_num

def cellsN (k : Nat) : List Value := [.int .u64 ((hiN k : Nat) : Int), .int .u64 ((loN k : Nat) : Int)]
def rowN (l : List Nat) : List Value := l.flatMap cellsN
theorem rowN_length (l : List Nat) : (rowN l).length = l.length * 2 := by
  unfold rowN
  induction l with
  | nil => rfl
  | cons x r ih => rw [List.flatMap_cons, List.length_append, ih, List.length_cons]; show 2 + _ = _; omega
theorem rowN_app (l m : List Nat) : rowN (l ++ m) = rowN l ++ rowN m := by unfold rowN; rw [List.flatMap_append]
theorem rowN_at : ∀ (l : List Nat) (k j : Nat) (hk : k < l.length), j < 2 → (rowN l)[k * 2 + j]? = (cellsN l[k])[j]?
  | [], k, j, hk, _ => by simp at hk
  | x :: r, 0, j, _, hj => by
    show (cellsN x ++ rowN r)[0 * 2 + j]? = _
    rw [Nat.zero_mul, Nat.zero_add, List.getElem?_append_left (by show j < 2; exact hj)]
    rfl
  | x :: r, k + 1, j, hk, hj => by
    show (cellsN x ++ rowN r)[(k + 1) * 2 + j]? = _
    rw [List.getElem?_append_right (by show 2 ≤ _; omega), show (k + 1) * 2 + j - (cellsN x).length = k * 2 + j by show (k + 1) * 2 + j - 2 = _; omega]
    exact rowN_at r k j (by simpa using hk) hj
/-- The table's two rows. -/
structure TbV (W : World) (m : Nat) (ks : List Nat) (zs : List Int) (vk va : Value) : Prop where
  c0 : W.cell? ⟨m, 0, none⟩ = some vk
  c1 : W.cell? ⟨m, 1, none⟩ = some va
  fz : ∀ j, W.frozen? ⟨m, j, none⟩ = false
  lt : m < W.heap.size
  o0 : W.ownsRow 0 33 2 vk ks.length (rowN ks)
  o1 : W.ownsRow 0 3 1 va zs.length (rowZ zs)
  d0 : vk.ownBlock ≠ some m
  d1 : va.ownBlock ≠ some m
  e0 : ∀ k, vk.ownBlock = some k → va.ownBlock ≠ some k
def footT (m : Nat) (vk va : Value) : Nat → Prop := fun k => k = m ∨ vk.ownBlock = some k ∨ va.ownBlock = some k
def TbRef : Kind Tbl := fun F W m t => ∃ vk va, TbV W m (t.map Prod.fst) (t.map Prod.snd) vk va ∧ ∀ k, F k ↔ footT m vk va k
section
variable {W W' : World} {m : Nat} {ks : List Nat} {zs : List Int} {vk va : Value}
theorem TbV.near (h : TbV W m ks zs vk va) : ∀ k, footT m vk va k → k < W.heap.size := by
  intro k hk
  rcases hk with rfl | hk | hk
  · exact h.lt
  · exact (h.o0.lt k hk).2
  · exact (h.o1.lt k hk).2
theorem TbV.keep {G : Nat → Prop} (h : TbV W m ks zs vk va) (hO : Only G W W') (hG : ∀ k, footT m vk va k → ¬ G k) : TbV W' m ks zs vk va := by
  have hm : ¬ G m := hG m (.inl rfl)
  refine ⟨?_, ?_, fun j => ?_, Nat.lt_of_lt_of_le h.lt hO.size, hO.row h.o0 (fun g hg => hG g (.inr (.inl hg))), hO.row h.o1 (fun g hg => hG g (.inr (.inr hg))), h.d0, h.d1, h.e0⟩
  · rw [hO.cell (p := ⟨m, 0, none⟩) h.lt hm]; exact h.c0
  · rw [hO.cell (p := ⟨m, 1, none⟩) h.lt hm]; exact h.c1
  · rw [hO.frozen (p := ⟨m, j, none⟩) h.lt hm]; exact h.fz j
theorem TbV.later (h : TbV W m ks zs vk va) (hb : Below W.heap.size W W') : TbV W' m ks zs vk va := h.keep (G := fun _ => False) (Only.of_below hb) (fun _ _ e => e)
/-- The row of names, turned, and stored anew; and that of places. -/
theorem TbV.row0 (h : TbV W m ks zs vk va) {v' : Value} {l : List Nat} (hO : Only (fun k => vk.ownBlock = some k) W W')
    (ho : W'.ownsRow 0 33 2 v' l.length (rowN l)) (hd : ∀ k, v'.ownBlock = some k → vk.ownBlock = some k ∨ W.heap.size ≤ k) : TbV (W'.setCell ⟨m, 0, none⟩ v') m l zs v' va := by
  have hc : ∀ j, W'.cell? ⟨m, j, none⟩ = W.cell? ⟨m, j, none⟩ := fun j => hO.cell (p := ⟨m, j, none⟩) h.lt h.d0
  have h0 : W'.cell? ⟨m, 0, none⟩ = some vk := by rw [hc]; exact h.c0
  have hne : ∀ k, k < W.heap.size → vk.ownBlock ≠ some k → v'.ownBlock ≠ some k := fun k hk hv e => by
    rcases hd k e with e2 | e2
    · exact hv e2
    · omega
  have dm := hne m h.lt h.d0
  exact ⟨by rw [cell_putR h0]; rfl, by rw [cell_putR h0, hc]; exact h.c1, fun j => by have := hO.frozen (p := ⟨m, j, none⟩) h.lt h.d0; simpa [this] using h.fz j, by have := hO.size; have := h.lt; simp; omega,
    ownsRow_setCell_other ho dm _, ownsRow_setCell_other (hO.row h.o1 (fun g hg e => h.e0 g e hg)) h.d1 _, dm, h.d1, fun k hk e => hne k (h.o1.lt k e).2 (fun e2 => h.e0 k e2 e) hk⟩
theorem TbV.row1 (h : TbV W m ks zs vk va) {v' : Value} {l : List Int} (hO : Only (fun k => va.ownBlock = some k) W W')
    (ho : W'.ownsRow 0 3 1 v' l.length (rowZ l)) (hd : ∀ k, v'.ownBlock = some k → va.ownBlock = some k ∨ W.heap.size ≤ k) : TbV (W'.setCell ⟨m, 1, none⟩ v') m ks l vk v' := by
  have hc : ∀ j, W'.cell? ⟨m, j, none⟩ = W.cell? ⟨m, j, none⟩ := fun j => hO.cell (p := ⟨m, j, none⟩) h.lt h.d1
  have h1 : W'.cell? ⟨m, 1, none⟩ = some va := by rw [hc]; exact h.c1
  have hne : ∀ k, k < W.heap.size → va.ownBlock ≠ some k → v'.ownBlock ≠ some k := fun k hk hv e => by
    rcases hd k e with e2 | e2
    · exact hv e2
    · omega
  have dm := hne m h.lt h.d1
  exact ⟨by rw [cell_putR h1, hc]; exact h.c0, by rw [cell_putR h1]; rfl, fun j => by have := hO.frozen (p := ⟨m, j, none⟩) h.lt h.d1; simpa [this] using h.fz j, by have := hO.size; have := h.lt; simp; omega,
    ownsRow_setCell_other (hO.row h.o0 (fun g hg e => h.e0 g hg e)) h.d0 _, ownsRow_setCell_other ho dm _, h.d0, dm, fun k hk e => hne k (h.o0.lt k hk).2 (fun e2 => h.e0 k hk e2) e⟩
end
theorem tbRef_kind : IsKind TbRef where
  near := fun F W m t h k hk => by
    obtain ⟨vk, va, hv, hF⟩ := h
    exact hv.near k ((hF k).1 hk)
  keep := fun F G W W' m t h hO hG => by
    obtain ⟨vk, va, hv, hF⟩ := h
    exact ⟨vk, va, hv.keep hO (fun k hk => hG k ((hF k).2 hk)), hF⟩
/-- Where a name is: how many stand ahead of it. -/
def posT : Tbl → Nat → Nat
  | [], _ => 0
  | (a, _) :: r, k => if a = k then 0 else posT r k + 1
def idxT (t : Tbl) (k : Nat) : Int := if posT t k < t.length then ((posT t k : Nat) : Int) else -1
theorem posT_first : ∀ (t : Tbl) (k i : Nat) (hi : i < t.length), (t[i]).1 = k → (∀ j (hj : j < t.length), j < i → (t[j]).1 ≠ k) → posT t k = i
  | [], _, _, hi, _, _ => by simp at hi
  | (a, u) :: r, k, 0, _, h, _ => by
    have h : a = k := h
    unfold posT
    rw [if_pos h]
  | (a, u) :: r, k, i + 1, hi, h, hn => by
    have h0 : ¬ a = k := hn 0 (by simp) (by omega)
    unfold posT
    rw [if_neg h0, posT_first r k i (by simpa using hi) h (fun j hj hji => hn (j + 1) (by simpa using hj) (by omega))]
theorem posT_none : ∀ (t : Tbl) (k : Nat), (∀ j (hj : j < t.length), (t[j]).1 ≠ k) → posT t k = t.length
  | [], _, _ => rfl
  | (a, u) :: r, k, hn => by
    have h0 : ¬ a = k := hn 0 (by simp)
    unfold posT
    rw [if_neg h0, posT_none r k (fun j hj => hn (j + 1) (by simpa using hj))]; rfl
theorem idxT_at {t : Tbl} {k i : Nat} (hi : i < t.length) (h : (t[i]).1 = k) (hn : ∀ j (hj : j < t.length), j < i → (t[j]).1 ≠ k) : idxT t k = ((i : Nat) : Int) := by
  unfold idxT
  rw [posT_first t k i hi h hn, if_pos hi]
theorem idxT_none {t : Tbl} {k : Nat} (hn : ∀ j (hj : j < t.length), (t[j]).1 ≠ k) : idxT t k = -1 := by
  unfold idxT
  rw [posT_none t k hn, if_neg (Nat.lt_irrefl _)]
theorem posT_get : ∀ (t : Tbl) (k : Nat), getT t k = (t[posT t k]?).map Prod.snd
  | [], _ => rfl
  | (a, u) :: r, k => by
    unfold getT posT
    by_cases h : a = k
    · rw [if_pos h, if_pos h]; rfl
    · rw [if_neg h, if_neg h, posT_get r k]; rfl
set_option maxRecDepth 100000 in
set_option maxHeartbeats 2000000 in
theorem refat_any {W : World} {m : Nat} {t : Tbl} {vk va : Value} (h : TbV W m (t.map Prod.fst) (t.map Prod.snd) vk va) (hlen : t.length ≤ 1000) (key : Nat) :
    Calls Try.prog 16 #[.pointer (some ⟨m, 0, none⟩), numV key] W fun e W' => e = .returned (.int .i64 (idxT t key)) ∧ Below W.heap.size W W' := by
  have hat := Lib.hid (fun (i : Nat) (hi : i < t.length) => idxT_at (k := key) hi)
  have hno := Lib.hid (idxT_none (t := t) (k := key))
  have hw0 : Below W.heap.size W (W.alloc (.cells #[.int .u64 ((hiN key : Nat) : Int), .int .u64 ((loN key : Nat) : Int)] 33)) := (Below.refl _ _).alloc (Nat.le_refl _) _
  have hbx := BoxAt.new W [.int .u64 ((hiN key : Nat) : Int), .int .u64 ((loN key : Nat) : Int)] 33
  have c0 := h.c0
  have ml := h.lt
  have hcell := own_slice h.o0
  rw [List.length_map] at hcell
  have hnk : t.length = (t.map Prod.fst).length := (List.length_map ..).symm
  generalize hr : idxT t key = r at *
  clear h
  rcases hcell with ⟨rfl, hz⟩ | ⟨g, cap, rfl, hg, hcap, hcl, -⟩
  · have hr1 := Lib.hid (hno.out (fun j hj => by omega))
    clear hat hno hr hnk hlen
    go_enter Try.func16, Try.ntmps16
    go_wp2_with fail
    go_loopw [12] (fun iv wr => iv = .int .i64 0 ∧ W.alloc (.cells #[.int .u64 ((hiN key : Nat) : Int), .int .u64 ((loN key : Nat) : Int)] 33) = wr) (fun _ _ => 0)
    case atStart => exact ⟨rfl, rfl⟩
    case round =>
      obtain ⟨rfl, rfl⟩ := hrel
      go_wp2
      go_ret
      exact ⟨by rw [hr1.out]; rfl, hw0⟩
  · have hkey : ∀ i (hi : i < t.length), W.cell? ⟨g, i * 2, none⟩ = some (.int .u64 ((hiN (t[i]).1 : Nat) : Int)) ∧ W.cell? ⟨g, i * 2 + 1, none⟩ = some (.int .u64 ((loN (t[i]).1 : Nat) : Int)) := fun i hi => by
      have hi' : i < (t.map Prod.fst).length := by rw [← hnk]; exact hi
      have e0 := rowN_at (t.map Prod.fst) i 0 hi' (by omega)
      have e1 := rowN_at (t.map Prod.fst) i 1 hi' (by omega)
      rw [List.getElem_map] at e0 e1
      exact ⟨hcl _ _ e0, hcl _ _ e1⟩
    replace hkey := Lib.hid hkey
    clear hcl hr hnk
    go_enter Try.func16, Try.ntmps16
    have c0' := (hw0.cell (p := ⟨m, 0, none⟩) ml).trans c0
    have ml' := Nat.lt_of_lt_of_le ml hw0.size
    generalize hw0e : W.alloc (.cells #[.int .u64 ((hiN key : Nat) : Int), .int .u64 ((loN key : Nat) : Int)] 33) = W0 at *
    go_wp2_with fail
    go_loopw [12] (fun iv wr => ∃ i : Nat, i ≤ t.length ∧ iv = .int .i64 i ∧ (∀ j (hj : j < t.length), j < i → (t[j]).1 ≠ key) ∧ Below W0.heap.size W0 wr) (fun iv _ => (t.length - RowKit.intOf iv).toNat)
    case atStart => exact ⟨0, by omega, rfl, fun j hj h => by omega, Below.refl _ _⟩
    case round =>
      obtain ⟨i, hi, rfl, hne, hb⟩ := hrel
      have hbw := hw0.trans (hb.mono hw0.size)
      by_cases hlt : i < t.length
      · obtain ⟨y0, y1⟩ := hkey.out i hlt
        rw [← hbw.cell (p := ⟨g, i * 2, none⟩) hg] at y0
        rw [← hbw.cell (p := ⟨g, i * 2 + 1, none⟩) hg] at y1
        have hgl : g < wr.heap.size := Nat.lt_of_lt_of_le hg hbw.size
        have bx := hbx.later hb
        have z0 := bx.spot 0 _ rfl
        have z1 := bx.spot 1 _ rfl
        have zl := bx.lt
        have hltI : ((i : Nat) : Int) < ((t.length : Nat) : Int) := by omega
        by_cases hke : (t[i]).1 = key
        · have hr1 := Lib.hid (hat.out i hlt hke hne)
          have hkb : decide ((t[i]).1 = key) = true := decide_eq_true hke
          have hba : Below W.heap.size W (wr.alloc (.cells #[.int .u64 ((hiN (t[i]).1 : Nat) : Int), .int .u64 ((loN (t[i]).1 : Nat) : Int)] 33)) := hbw.alloc hbw.size _
          replace hne := Lib.hid hne
          clear hke hat hno
          generalize (t[i]).1 = x at *
          go_wp2
          go_ret
          exact ⟨by rw [hr1.out]; rfl, hba⟩
        · have hkb : decide ((t[i]).1 = key) = false := decide_eq_false hke
          have hnx : ∀ j (hj : j < t.length), j < i + 1 → (t[j]).1 ≠ key := fun j hj hji => by
            by_cases e : j = i
            · subst e; exact hke
            · exact hne j hj (by omega)
          have hba : Below W0.heap.size W0 (wr.alloc (.cells #[.int .u64 ((hiN (t[i]).1 : Nat) : Int), .int .u64 ((loN (t[i]).1 : Nat) : Int)] 33)) := hb.alloc hb.size _
          replace hnx := Lib.hid hnx
          clear hke hat hno hne
          generalize (t[i]).1 = x at *
          go_wp2_with fail
          exact ⟨⟨i + 1, by omega, by go_num, hnx.out, hba⟩, by simp [RowKit.intOf]; omega⟩
      · obtain rfl : i = t.length := by omega
        have hr1 := Lib.hid (hno.out (fun j hj => hne j hj hj))
        clear hat hno hne
        go_wp2
        go_ret
        exact ⟨by rw [hr1.out]; rfl, hbw⟩
end Go.Proofs.Ytpopbdladlahjaa
