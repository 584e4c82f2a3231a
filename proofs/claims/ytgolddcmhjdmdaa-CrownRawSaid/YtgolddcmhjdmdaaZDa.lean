/- The landed disk in memory: two rows of sectors, a row of writes, two numbers. No condition. -/
import Derived.Test.YtgolddcmhjdmdaaZPl
import Derived.Deep.MidRow
import Derived.Deep.WholeRow
namespace Go.Proofs.Ytgolddcmhjdmdaa
open Go.RowKit

/-- A text's bytes as cells; a write's. -/
def cellsB (s : ByteArray) : List Value := s.data.toList.map fun x => Value.int .u8 (x.toNat : Int)
theorem cellsB_length (s : ByteArray) : (cellsB s).length = s.size := by
  unfold cellsB; rw [List.length_map]; rfl
def cellsW (w : Nat × ByteArray) : List Value := .int .i64 ((w.1 : Nat) : Int) :: cellsB w.2
theorem cellsW_length (w : Nat × ByteArray) : (cellsW w).length = w.2.size + 1 := by
  unfold cellsW; rw [List.length_cons, cellsB_length]
def rowW (l : List (Nat × ByteArray)) : List Value := l.flatMap cellsW
theorem rowW_append (l r : List (Nat × ByteArray)) : rowW (l ++ r) = rowW l ++ rowW r := by unfold rowW; rw [List.flatMap_append]
theorem cellsB_one (s : ByteArray) : ∀ v ∈ cellsB s, v.oneCell' = true := by
  intro v hv
  obtain ⟨x, _, rfl⟩ := List.mem_map.1 hv
  rfl
theorem cellsW_one (w : Nat × ByteArray) : ∀ v ∈ cellsW w, v.oneCell' = true := by
  intro v hv
  rcases List.mem_cons.1 hv with rfl | hv
  · rfl
  · exact cellsB_one _ v hv
theorem rowW_at : ∀ (l : List (Nat × ByteArray)), (∀ w ∈ l, w.2.size = 128) → ∀ (k j : Nat) (hk : k < l.length), j < 129 → (rowW l)[k * 129 + j]? = (cellsW l[k])[j]?
  | [], _, k, j, hk, _ => by simp at hk
  | w :: l, h, 0, j, hk, hj => by
    have h1 := h w (List.mem_cons_self ..)
    unfold rowW
    rw [List.flatMap_cons, List.getElem?_append_left (by rw [cellsW_length]; omega)]
    simp
  | w :: l, h, k + 1, j, hk, hj => by
    have h1 := h w (List.mem_cons_self ..)
    have h2 := rowW_at l (fun x hx => h x (List.mem_cons_of_mem _ hx)) k j (by simpa using hk) hj
    unfold rowW at h2 ⊢
    rw [List.flatMap_cons, List.getElem?_append_right (by rw [cellsW_length]; omega), cellsW_length, h1, show (k + 1) * 129 + j - (128 + 1) = k * 129 + j by omega, h2]
    rfl

/-- Many cells of a block stored. -/
theorem Only.setCells {F : Nat → Prop} {a : World} {g : Nat} (hp : g < a.heap.size → F g) : ∀ (vs : List Value) (o : Nat) (b : World), Only F a b → Only F a (b.setCells g o vs)
  | [], _, _, h => h
  | v :: r, o, _b, h => Only.setCells hp r (o + 1) _ (h.setCell (p := ⟨g, o, none⟩) hp v)
theorem size_setCellsD (b : Nat) : ∀ (vs : List Value) (o : Nat) (w : World), (w.setCells b o vs).heap.size = w.heap.size
  | [], _, _ => rfl
  | v :: r, o, w => by
    show ((w.setCell ⟨b, o, none⟩ v).setCells b (o + 1) r).heap.size = _
    rw [size_setCellsD b r (o + 1), World.size_setCell]

/-- A row of sectors in block a. -/
structure Secs (W : World) (a : Nat) (l : List ByteArray) : Prop where
  lay : ∀ i (s : ByteArray), l[i]? = some s → W.rangeAt a (i * 128) (cellsB s)
  fz : ∀ j, W.frozen? ⟨a, j, none⟩ = false
  lt : a < W.heap.size
  size : ∀ s ∈ l, s.size = 128
theorem Secs.keep {G : Nat → Prop} {W W' : World} {a : Nat} {l : List ByteArray} (h : Secs W a l) (hO : Only G W W') (ha : ¬ G a) : Secs W' a l :=
  ⟨fun i s hs j v hv => by rw [hO.cell (p := ⟨a, i * 128 + j, none⟩) h.lt ha]; exact h.lay i s hs j v hv,
    fun j => by rw [hO.frozen (p := ⟨a, j, none⟩) h.lt ha]; exact h.fz j, Nat.lt_of_lt_of_le h.lt hO.size, h.size⟩
theorem Secs.there {W : World} {a : Nat} {l : List ByteArray} (h : Secs W a l) (i : Nat) (hi : i < l.length) : W.there a (i * 128) 128 := fun j hj => by
  have hs := List.getElem?_eq_getElem hi
  have hz := h.size _ (List.getElem_mem hi)
  refine ⟨(h.lay i _ hs).isSome j (by rw [cellsB_length, hz]; exact hj), h.fz _⟩
theorem Secs.put {W : World} {a : Nat} {l : List ByteArray} (h : Secs W a l) (i : Nat) (hi : i < l.length) (x : ByteArray) (hx : x.size = 128) : Secs (W.setCells a (i * 128) (cellsB x)) a (l.set i x) where
  lay := fun k s hs => by
    by_cases e : k = i
    · subst e
      rw [List.getElem?_set_self hi] at hs
      obtain rfl := Option.some.inj hs
      exact World.rangeAt_setCells_same _ _ _ _ (by rw [cellsB_length, hx]; exact h.there k hi)
    · rw [List.getElem?_set_ne (fun e2 => e e2.symm)] at hs
      have hz := h.size _ (List.mem_of_getElem? hs)
      refine World.rangeAt_setCells_apart (h.lay k s hs) _ _ _ ?_
      rw [cellsB_length, cellsB_length, hx, hz]
      right
      omega
  fz := fun j => by rw [World.frozen?_setCells]; exact h.fz j
  lt := by rw [size_setCellsD]; exact h.lt
  size := fun s hs => by
    rcases List.mem_or_eq_of_mem_set hs with hs | hs
    · exact h.size s hs
    · rw [hs]; exact hx

/-- A landed disk. -/
structure DkV (W : World) (p a b : Nat) (v : Value) (n : Nat) (safe now : List ByteArray) (later : List (Nat × ByteArray)) (armed ops : Int) : Prop where
  c0 : W.cell? ⟨p, 0, none⟩ = some (.slice (some ⟨a, 0, none⟩) n n)
  c1 : W.cell? ⟨p, 1, none⟩ = some (.slice (some ⟨b, 0, none⟩) n n)
  c2 : W.cell? ⟨p, 2, none⟩ = some v
  c3 : W.cell? ⟨p, 3, none⟩ = some (.int .i64 armed)
  c4 : W.cell? ⟨p, 4, none⟩ = some (.int .i64 ops)
  fz : ∀ j, W.frozen? ⟨p, j, none⟩ = false
  lt : p < W.heap.size
  s0 : Secs W a safe
  s1 : Secs W b now
  o2 : W.ownsRow 0 78 129 v later.length (rowW later)
  l0 : safe.length = n
  l1 : now.length = n
  ab : a ≠ b
  pa : p ≠ a
  pb : p ≠ b
  vp : v.ownBlock ≠ some p
  va : v.ownBlock ≠ some a
  vb : v.ownBlock ≠ some b
def footD (p a b : Nat) (v : Value) : Nat → Prop := fun k => k = p ∨ k = a ∨ k = b ∨ v.ownBlock = some k
section
variable {W W' : World} {p a b n : Nat} {v : Value} {safe now : List ByteArray} {later : List (Nat × ByteArray)} {armed ops : Int}
theorem DkV.near (h : DkV W p a b v n safe now later armed ops) : ∀ k, footD p a b v k → k < W.heap.size := by
  intro k hk
  rcases hk with rfl | rfl | rfl | hk
  · exact h.lt
  · exact h.s0.lt
  · exact h.s1.lt
  · exact (h.o2.lt k hk).2
theorem DkV.keep (h : DkV W p a b v n safe now later armed ops) {G : Nat → Prop} (hO : Only G W W') (hG : ∀ k, footD p a b v k → ¬ G k) : DkV W' p a b v n safe now later armed ops := by
  have hp : ¬ G p := hG p (.inl rfl)
  have hc : ∀ j, W'.cell? ⟨p, j, none⟩ = W.cell? ⟨p, j, none⟩ := fun j => hO.cell (p := ⟨p, j, none⟩) h.lt hp
  exact ⟨by rw [hc]; exact h.c0, by rw [hc]; exact h.c1, by rw [hc]; exact h.c2, by rw [hc]; exact h.c3, by rw [hc]; exact h.c4,
    fun j => by rw [hO.frozen (p := ⟨p, j, none⟩) h.lt hp]; exact h.fz j, Nat.lt_of_lt_of_le h.lt hO.size,
    h.s0.keep hO (hG a (.inr (.inl rfl))), h.s1.keep hO (hG b (.inr (.inr (.inl rfl)))), hO.row h.o2 (fun g hg => hG g (.inr (.inr (.inr hg)))),
    h.l0, h.l1, h.ab, h.pa, h.pb, h.vp, h.va, h.vb⟩
theorem DkV.past (h : DkV W p a b v n safe now later armed ops) (hb : Below W.heap.size W W') : DkV W' p a b v n safe now later armed ops :=
  h.keep (G := fun _ => False) (Only.of_below hb) (fun _ _ e => e)
theorem DkV.drew (h : DkV W p a b v n safe now later armed ops) : DkV W.drew p a b v n safe now later armed ops := h.past ((Below.refl _ _).drew)
theorem DkV.alloc (h : DkV W p a b v n safe now later armed ops) (o : Obj) : DkV (W.alloc o) p a b v n safe now later armed ops := h.past ((Below.refl _ _).alloc (Nat.le_refl _) o)
theorem Only.one (W : World) (q : Addr) (x : Value) : Only (fun k => k = q.block) W (W.setCell q x) := (Only.refl (fun k => k = q.block) W).setCell (p := q) (fun _ => rfl) x
theorem Only.many (W : World) (g o : Nat) (vs : List Value) : Only (fun k => k = g) W (W.setCells g o vs) := Only.setCells (F := fun k => k = g) (fun _ => rfl) vs o W (Only.refl _ W)
theorem DkV.put3 (h : DkV W p a b v n safe now later armed ops) (x : Int) : DkV (W.setCell ⟨p, 3, none⟩ (.int .i64 x)) p a b v n safe now later x ops :=
  have hO := Only.one W ⟨p, 3, none⟩ (.int .i64 x)
  ⟨by rw [cell_put h.c3]; exact h.c0, by rw [cell_put h.c3]; exact h.c1, by rw [cell_put h.c3]; exact h.c2, by rw [cell_put h.c3]; rfl, by rw [cell_put h.c3]; exact h.c4,
    fun j => by simpa using h.fz j, by simpa using h.lt, h.s0.keep hO (fun e => h.pa e.symm), h.s1.keep hO (fun e => h.pb e.symm), ownsRow_setCell_other h.o2 h.vp _,
    h.l0, h.l1, h.ab, h.pa, h.pb, h.vp, h.va, h.vb⟩
theorem DkV.put4 (h : DkV W p a b v n safe now later armed ops) (x : Int) : DkV (W.setCell ⟨p, 4, none⟩ (.int .i64 x)) p a b v n safe now later armed x :=
  have hO := Only.one W ⟨p, 4, none⟩ (.int .i64 x)
  ⟨by rw [cell_put h.c4]; exact h.c0, by rw [cell_put h.c4]; exact h.c1, by rw [cell_put h.c4]; exact h.c2, by rw [cell_put h.c4]; exact h.c3, by rw [cell_put h.c4]; rfl,
    fun j => by simpa using h.fz j, by simpa using h.lt, h.s0.keep hO (fun e => h.pa e.symm), h.s1.keep hO (fun e => h.pb e.symm), ownsRow_setCell_other h.o2 h.vp _,
    h.l0, h.l1, h.ab, h.pa, h.pb, h.vp, h.va, h.vb⟩
theorem DkV.sec0 (h : DkV W p a b v n safe now later armed ops) (i : Nat) (hi : i < n) (x : ByteArray) (hx : x.size = 128) :
    DkV (W.setCells a (i * 128) (cellsB x)) p a b v n (safe.set i x) now later armed ops :=
  have hO := Only.many W a (i * 128) (cellsB x)
  have hc : ∀ j, (W.setCells a (i * 128) (cellsB x)).cell? ⟨p, j, none⟩ = W.cell? ⟨p, j, none⟩ := fun j => hO.cell (p := ⟨p, j, none⟩) h.lt h.pa
  ⟨by rw [hc]; exact h.c0, by rw [hc]; exact h.c1, by rw [hc]; exact h.c2, by rw [hc]; exact h.c3, by rw [hc]; exact h.c4,
    fun j => by rw [World.frozen?_setCells]; exact h.fz j, by rw [size_setCellsD]; exact h.lt, h.s0.put i (by rw [h.l0]; exact hi) x hx, h.s1.keep hO (fun e => h.ab e.symm),
    hO.row h.o2 (fun g hg e => h.va (by rw [hg, e])), by rw [List.length_set]; exact h.l0, h.l1, h.ab, h.pa, h.pb, h.vp, h.va, h.vb⟩
theorem DkV.sec1 (h : DkV W p a b v n safe now later armed ops) (i : Nat) (hi : i < n) (x : ByteArray) (hx : x.size = 128) :
    DkV (W.setCells b (i * 128) (cellsB x)) p a b v n safe (now.set i x) later armed ops :=
  have hO := Only.many W b (i * 128) (cellsB x)
  have hc : ∀ j, (W.setCells b (i * 128) (cellsB x)).cell? ⟨p, j, none⟩ = W.cell? ⟨p, j, none⟩ := fun j => hO.cell (p := ⟨p, j, none⟩) h.lt h.pb
  ⟨by rw [hc]; exact h.c0, by rw [hc]; exact h.c1, by rw [hc]; exact h.c2, by rw [hc]; exact h.c3, by rw [hc]; exact h.c4,
    fun j => by rw [World.frozen?_setCells]; exact h.fz j, by rw [size_setCellsD]; exact h.lt, h.s0.keep hO h.ab, h.s1.put i (by rw [h.l1]; exact hi) x hx,
    hO.row h.o2 (fun g hg e => h.vb (by rw [hg, e])), h.l0, by rw [List.length_set]; exact h.l1, h.ab, h.pa, h.pb, h.vp, h.va, h.vb⟩
/-- The row of writes turned, and stored anew. -/
theorem DkV.row2 (h : DkV W p a b v n safe now later armed ops) {v' : Value} {l : List (Nat × ByteArray)} (hO : Only (fun k => v.ownBlock = some k) W W')
    (ho : W'.ownsRow 0 78 129 v' l.length (rowW l)) (hd : ∀ k, v'.ownBlock = some k → v.ownBlock = some k ∨ W.heap.size ≤ k) :
    DkV (W'.setCell ⟨p, 2, none⟩ v') p a b v' n safe now l armed ops := by
  have hc : ∀ j, W'.cell? ⟨p, j, none⟩ = W.cell? ⟨p, j, none⟩ := fun j => hO.cell (p := ⟨p, j, none⟩) h.lt h.vp
  have h2 : W'.cell? ⟨p, 2, none⟩ = some v := by rw [hc]; exact h.c2
  have hne : ∀ k, k < W.heap.size → v.ownBlock ≠ some k → v'.ownBlock ≠ some k := fun k hk hv e => by
    rcases hd k e with e2 | e2
    · exact hv e2
    · omega
  have dp := hne p h.lt h.vp
  have hO2 := Only.one W' ⟨p, 2, none⟩ v'
  exact ⟨by rw [cell_put h2, hc]; exact h.c0, by rw [cell_put h2, hc]; exact h.c1, by rw [cell_put h2]; rfl, by rw [cell_put h2, hc]; exact h.c3, by rw [cell_put h2, hc]; exact h.c4,
    fun j => by have := hO.frozen (p := ⟨p, j, none⟩) h.lt h.vp; simpa [this] using h.fz j, by have := hO.size; have := h.lt; simp; omega,
    (h.s0.keep hO h.va).keep hO2 (fun e => h.pa e.symm), (h.s1.keep hO h.vb).keep hO2 (fun e => h.pb e.symm), ownsRow_setCell_other ho dp _,
    h.l0, h.l1, h.ab, h.pa, h.pb, dp, hne a h.s0.lt h.va, hne b h.s1.lt h.vb⟩
/-- A write of the row. -/
theorem DkV.nth (h : DkV W p a b v n safe now later armed ops) (hz : ∀ w ∈ later, w.2.size = 128) : ∃ ao cap, v = .slice ao later.length cap ∧
    ∀ j (hj : j < later.length), ∃ g, ao = some ⟨g, 0, none⟩ ∧ g < W.heap.size ∧ W.rangeAt g (j * 129) (cellsW later[j]) := by
  rcases h.o2.2 with ⟨rfl, h0⟩ | ⟨g, cap, cur, rfl, hb, hh, _⟩
  · obtain rfl : later = [] := List.length_eq_zero_iff.1 h0
    exact ⟨none, 0, rfl, fun j hj => by simp at hj⟩
  · refine ⟨_, cap, rfl, fun j hj => ⟨g, rfl, (h.o2.lt g rfl).2, fun i u hu => ?_⟩⟩
    have hi : i < 129 := by
      have := (List.getElem?_eq_some_iff.1 hu).1
      rw [cellsW_length, hz _ (List.getElem_mem hj)] at this
      omega
    have := h.o2.cells (g := g) rfl (j * 129 + i) u (by rw [rowW_at later hz j i hj hi]; exact hu)
    rw [Addr.add_mid, Nat.zero_add] at this
    exact this
end
/-- What each sector holds now. -/
def nowL (st : St) : List ByteArray := (List.range st.safe.length).map st.now
theorem nowL_length (st : St) : (nowL st).length = st.safe.length := by simp [nowL]
theorem nowL_at (st : St) (i : Nat) (hi : i < st.safe.length) : (nowL st)[i]? = some (st.now i) := by
  unfold nowL; rw [List.getElem?_map, List.getElem?_range hi]; rfl
def DkIs (F : Nat → Prop) (W : World) (p : Nat) (st : St) : Prop :=
  ∃ a b v, DkV W p a b v st.safe.length st.safe (nowL st) st.later (max st.arm 0) st.ops ∧ ∀ k, F k ↔ footD p a b v k
theorem DkIs.near {F : Nat → Prop} {W : World} {p : Nat} {st : St} (h : DkIs F W p st) : ∀ k, F k → k < W.heap.size := by
  obtain ⟨a, b, v, hV, hF⟩ := h
  exact fun k hk => hV.near k ((hF k).1 hk)
theorem DkIs.keep {F G : Nat → Prop} {W W' : World} {p : Nat} {st : St} (h : DkIs F W p st) (hO : Only G W W') (hG : ∀ k, F k → ¬ G k) : DkIs F W' p st := by
  obtain ⟨a, b, v, hV, hF⟩ := h
  exact ⟨a, b, v, hV.keep hO (fun k hk => hG k ((hF k).2 hk)), hF⟩
theorem DkIs.later {F : Nat → Prop} {W W' : World} {p : Nat} {st : St} (h : DkIs F W p st) (hb : Below W.heap.size W W') : DkIs F W' p st :=
  h.keep (G := fun _ => False) (Only.of_below hb) (fun _ _ e => e)
/-- The number that is nearest. -/
def nearI (n m : Int) : Int := max 0 (min n m)
set_option maxRecDepth 100000 in
theorem nearP_any (n m : Int) (w : World) : Calls Try.prog 33 #[.int .i64 n, .int .i64 m] w fun e w' => e = .returned (.int .i64 (nearI n m)) ∧ w = w' := by
  have hn : max 0 (min n m) = nearI n m := rfl
  go_enter Try.func33, Try.ntmps33
  go_wp2
  go_ret
  exact ⟨by rw [← hn]; rfl, rfl⟩
end Go.Proofs.Ytgolddcmhjdmdaa
