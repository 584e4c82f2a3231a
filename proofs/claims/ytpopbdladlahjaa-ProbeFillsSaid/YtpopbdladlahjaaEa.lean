/- The landed table's cells, as a plain list: a search, a name laid, dropped, all laid anew. No program, no condition. -/
import Derived.Test.YtpopbdladlahjaaRa
import Derived.Test.YtpopbdladlahjaaBi
namespace Go.Proofs.Ytpopbdladlahjaa
open Go Go.RowKit Wm

/-- One cell: of kind 0 (free), 1 (dropped), 2 (taken). -/
structure Cl where
  kind : Nat
  name : Nat
  plc : Int
/-- The cell that a search from z comes to behind j steps. -/
def tbSpot (n : Nat) (z : Int) (j : Nat) : Nat := ((z % (n : Int)).toNat + j) % n
theorem tbSpot_lt {n : Nat} (hn : 0 < n) (z : Int) (j : Nat) : tbSpot n z j < n := Nat.mod_lt _ hn
/-- Every cell is come to. -/
theorem tbSpot_all {n : Nat} (hn : 0 < n) (z : Int) (i : Nat) (hi : i < n) : ∃ j, j < n ∧ tbSpot n z j = i := by
  have hs : (z % (n : Int)).toNat < n := by
    have h1 := Int.emod_lt_of_pos z (show (0 : Int) < n by omega)
    have h2 := Int.emod_nonneg z (show (n : Int) ≠ 0 by omega)
    omega
  unfold tbSpot
  generalize (z % (n : Int)).toNat = s at *
  by_cases h : s ≤ i
  · exact ⟨i - s, by omega, by rw [show s + (i - s) = i by omega]; exact Nat.mod_eq_of_lt hi⟩
  · exact ⟨i + n - s, by omega, by rw [show s + (i + n - s) = i + n by omega, Nat.add_mod_right]; exact Nat.mod_eq_of_lt hi⟩
/-- How the code reckons it. -/
theorem bits_spot0 {n b : Nat} (hn : n = 2 ^ b) (hb : b ≤ 13) (z : Int) : bits .and .i64 z ((n : Int) - 1) = ((tbSpot n z 0 : Nat) : Int) := by
  have hp : 0 < 2 ^ b := Nat.two_pow_pos b
  have h1 := bits_and (w := z) (k := n - 1) (m := b) (by omega) (by omega)
  rw [show ((n : Int) - 1) = ((n - 1 : Nat) : Int) by omega, h1, hn, Nat.and_two_pow_sub_one_eq_mod]
  unfold tbSpot
  rw [Nat.add_zero]
theorem bits_spot {n b : Nat} (hn : n = 2 ^ b) (hb : b ≤ 13) (z : Int) (j : Nat) : bits .and .i64 (((tbSpot n z j : Nat) : Int) + 1) ((n : Int) - 1) = ((tbSpot n z (j + 1) : Nat) : Int) := by
  have hp : 0 < 2 ^ b := Nat.two_pow_pos b
  rw [bits_spot0 hn hb]
  unfold tbSpot
  rw [Nat.add_zero, ← Nat.add_assoc]
  generalize (z % (n : Int)).toNat + j = s
  have h1 : (((s % n : Nat) : Int) + 1) % (n : Int) = (((s % n + 1) % n : Nat) : Int) := (Int.natCast_emod (s % n + 1) n).symm
  rw [h1, Int.toNat_natCast, Nat.mod_mod, Nat.mod_add_mod]
/-- The cells of a table m. -/
structure CellsOk (st : Nat → Int) (cs : List Cl) (m : Tbl) (names used : Nat) : Prop where
  pow : ∃ b, 4 ≤ b ∧ b ≤ 13 ∧ cs.length = 2 ^ b
  kinds : ∀ c ∈ cs, c.kind ≤ 2 ∧ c.name < big
  once : ∀ (i j : Nat) (c d : Cl), cs[i]? = some c → cs[j]? = some d → c.kind = 2 → d.kind = 2 → c.name = d.name → i = j
  reach : ∀ (i : Nat) (c : Cl), cs[i]? = some c → c.kind = 2 → ∃ d : Nat, d < cs.length ∧ tbSpot cs.length (st c.name) d = i ∧ ∀ j, j < d → ∀ x : Cl, cs[tbSpot cs.length (st c.name) j]? = some x → x.kind ≠ 0
  has : ∀ (k : Nat) (v : Int), getT m k = some v ↔ ∃ i : Nat, cs[i]? = some ⟨2, k, v⟩
  onceM : OnceT m
  len : names = m.length
  taken : names = cs.countP (fun c => c.kind == 2)
  used_ : used = cs.countP (fun c => c.kind != 0)
section
variable {st : Nat → Int} {cs : List Cl} {m : Tbl} {names used k : Nat} {z : Int}
theorem CellsOk.pos (h : CellsOk st cs m names used) : 16 ≤ cs.length ∧ cs.length ≤ 8192 := by
  obtain ⟨b, h1, h2, h3⟩ := h.pow
  rw [h3]
  exact ⟨Nat.pow_le_pow_right (n := 2) (by omega) h1, Nat.pow_le_pow_right (n := 2) (by omega) h2⟩
theorem CellsOk.usedLe (h : CellsOk st cs m names used) : used ≤ cs.length := by rw [h.used_]; exact List.countP_le_length
theorem CellsOk.namesLe (h : CellsOk st cs m names used) : names ≤ used := by
  rw [h.taken, h.used_]
  exact List.countP_mono_left (fun c _ hc => by simp at *; omega)
/-- So far neither the name nor a free cell. -/
def TbPast (cs : List Cl) (z : Int) (k j : Nat) : Prop := ∀ i, i < j → ∀ c : Cl, cs[tbSpot cs.length z i]? = some c → c.kind ≠ 0 ∧ ¬ (c.kind = 2 ∧ c.name = k)
theorem TbPast.zero : TbPast cs z k 0 := fun i hi => by omega
theorem TbPast.next {j : Nat} {c : Cl} (h : TbPast cs z k j) (hc : cs[tbSpot cs.length z j]? = some c) (h0 : c.kind ≠ 0) (h2 : ¬ (c.kind = 2 ∧ c.name = k)) : TbPast cs z k (j + 1) := fun i hi d hd => by
  by_cases e : i = j
  · subst e
    rw [hc] at hd
    obtain rfl := Option.some.inj hd
    exact ⟨h0, h2⟩
  · exact h i (by omega) d hd
theorem CellsOk.notHere {j : Nat} (h : CellsOk st cs m names used) (hp : TbPast cs (st k) k j) (he : j = cs.length ∨ ∃ c, cs[tbSpot cs.length (st k) j]? = some c ∧ c.kind = 0) : getT m k = none := by
  cases hg : getT m k with
  | none => rfl
  | some v =>
    exfalso
    obtain ⟨i, hi⟩ := (h.has k v).1 hg
    obtain ⟨d, hd, e, hall⟩ := h.reach i _ hi rfl
    dsimp only at e hall
    rw [← e] at hi
    rcases he with rfl | ⟨c, hc, h0⟩
    · exact (hp d hd _ hi).2 ⟨rfl, rfl⟩
    · rcases Nat.lt_trichotomy d j with hlt | rfl | hgt
      · exact (hp d hlt _ hi).2 ⟨rfl, rfl⟩
      · rw [hc] at hi
        obtain rfl := Option.some.inj hi
        cases h0
      · exact hall j hgt c hc h0
theorem CellsOk.isHere {i : Nat} {c : Cl} (h : CellsOk st cs m names used) (hc : cs[i]? = some c) (h2 : c.kind = 2) (hk : c.name = k) : getT m k = some c.plc := (h.has k c.plc).2 ⟨i, by rw [hc]; cases c; dsimp only at h2 hk; rw [h2, hk]⟩
/-- The first cell on the way so far that isn't taken. -/
def TbOpen (cs : List Cl) (z : Int) (j : Nat) (o : Int) : Prop :=
  (o = -1 ∧ ∀ i, i < j → ∀ c : Cl, cs[tbSpot cs.length z i]? = some c → c.kind = 2) ∨
  ∃ j0, j0 < j ∧ o = ((tbSpot cs.length z j0 : Nat) : Int) ∧ (∀ c : Cl, cs[tbSpot cs.length z j0]? = some c → c.kind ≠ 2) ∧ ∀ i, i < j0 → ∀ c : Cl, cs[tbSpot cs.length z i]? = some c → c.kind = 2
theorem TbOpen.zero : TbOpen cs z 0 (-1) := .inl ⟨rfl, fun i hi => by omega⟩
theorem TbOpen.taken {j : Nat} {o : Int} {c : Cl} (h : TbOpen cs z j o) (hc : cs[tbSpot cs.length z j]? = some c) (h2 : c.kind = 2) : TbOpen cs z (j + 1) o := by
  rcases h with ⟨rfl, h⟩ | ⟨j0, h0, h1, h3⟩
  · refine .inl ⟨rfl, fun i hi d hd => ?_⟩
    by_cases e : i = j
    · subst e
      rw [hc] at hd
      obtain rfl := Option.some.inj hd
      exact h2
    · exact h i (by omega) d hd
  · exact .inr ⟨j0, by omega, h1, h3⟩
theorem TbOpen.first {j : Nat} {c : Cl} (h : TbOpen cs z j (-1)) (hc : cs[tbSpot cs.length z j]? = some c) (h2 : c.kind ≠ 2) : TbOpen cs z (j + 1) ((tbSpot cs.length z j : Nat) : Int) := by
  rcases h with ⟨-, h⟩ | ⟨j0, h0, h1, h3⟩
  · refine .inr ⟨j, by omega, rfl, fun d hd => ?_, h⟩
    rw [hc] at hd
    obtain rfl := Option.some.inj hd
    exact h2
  · omega
theorem TbOpen.later {j : Nat} {o : Int} (h : TbOpen cs z j o) (ho : 0 ≤ o) : TbOpen cs z (j + 1) o := by
  rcases h with ⟨rfl, h⟩ | ⟨j0, h0, h1, h3⟩
  · omega
  · exact .inr ⟨j0, by omega, h1, h3⟩
/-- Where a name that isn't there may lie. -/
def TbFree (cs : List Cl) (z : Int) (i : Nat) : Prop :=
  ∃ j0, j0 < cs.length ∧ i = tbSpot cs.length z j0 ∧ (∀ c : Cl, cs[i]? = some c → c.kind ≠ 2) ∧ ∀ j, j < j0 → ∀ c : Cl, cs[tbSpot cs.length z j]? = some c → c.kind = 2
theorem CellsOk.room {j : Nat} {o : Int} (h : CellsOk st cs m names used) (hu : used < cs.length) (ho : TbOpen cs z j o) (hj : j ≤ cs.length) (he : j = cs.length ∨ 0 ≤ o) : ∃ i, o = ((i : Nat) : Int) ∧ TbFree cs z i := by
  rcases ho with ⟨rfl, ha⟩ | ⟨j0, h0, rfl, h2, h3⟩
  · exfalso
    obtain rfl : j = cs.length := by omega
    have : cs.countP (fun c => c.kind != 0) = cs.length := by
      rw [List.countP_eq_length]
      intro c hc
      obtain ⟨i, hi, e⟩ := List.getElem_of_mem hc
      obtain ⟨j, hj, e2⟩ := tbSpot_all (n := cs.length) (by omega) z i hi
      have := ha j hj c (by rw [e2, List.getElem?_eq_getElem hi, e])
      simp [this]
    have := h.used_
    omega
  · exact ⟨_, rfl, j0, by omega, rfl, h2, h3⟩
theorem countP_set (p : Cl → Bool) : ∀ (l : List Cl) (i : Nat) (x y : Cl), l[i]? = some x → (l.set i y).countP p + (if p x then 1 else 0) = l.countP p + (if p y then 1 else 0)
  | [], i, x, y, h => by simp at h
  | a :: r, 0, x, y, h => by
    obtain rfl : a = x := by simpa using h
    simp only [List.set_cons_zero, List.countP_cons]
    omega
  | a :: r, i + 1, x, y, h => by
    have := countP_set p r i x y (by simpa using h)
    simp only [List.set_cons_succ, List.countP_cons]
    omega
theorem set_at {l : List Cl} {i j : Nat} {x y c : Cl} (hx : l[i]? = some x) : (l.set i y)[j]? = some c ↔ (i = j ∧ y = c) ∨ (i ≠ j ∧ l[j]? = some c) := by
  have hi := (List.getElem?_eq_some_iff.1 hx).1
  rw [List.getElem?_set]
  by_cases e : i = j
  · subst e
    simp [hi]
  · simp [e]
/-- A new name. -/
theorem CellsOk.lay {i : Nat} {c : Cl} {v : Int} (h : CellsOk st cs m names used) (hg : getT m k = none) (hf : TbFree cs (st k) i) (hc : cs[i]? = some c) (hk : k < big) :
    CellsOk st (cs.set i ⟨2, k, v⟩) (putT m k v) (names + 1) (if c.kind = 0 then used + 1 else used) := by
  obtain ⟨j0, hj0, hi, hn2, hall⟩ := hf
  have hc2 := hn2 c hc
  have hnot : ∀ (j : Nat) (v' : Int), cs[j]? ≠ some (Cl.mk 2 k v') := fun j v' e => by
    have := (h.has k v').2 ⟨j, e⟩
    rw [hg] at this
    cases this
  have hnk : ∀ (j : Nat) (d : Cl), cs[j]? = some d → d.kind = 2 → d.name ≠ k := fun j d hd h2 e => hnot j d.plc (by rw [hd]; cases d; dsimp only at h2 e; rw [h2, e])
  have cT := countP_set (fun c => c.kind == 2) cs i c ⟨2, k, v⟩ hc
  have cU := countP_set (fun c => c.kind != 0) cs i c ⟨2, k, v⟩ hc
  have eT : (c.kind == 2) = false := by simpa using hc2
  simp only [eT] at cT
  simp at cT cU
  refine ⟨?_, ?_, ?_, ?_, ?_, h.onceM.put k v, ?_, ?_, ?_⟩
  · rw [List.length_set]; exact h.pow
  · intro x hx
    obtain ⟨j, hj⟩ := List.getElem?_of_mem hx
    rcases (set_at hc).1 hj with ⟨-, rfl⟩ | ⟨-, e⟩
    · exact ⟨Nat.le_refl _, hk⟩
    · exact h.kinds x (List.mem_of_getElem? e)
  · intro a b x y hx hy h1 h2 he
    rcases (set_at hc).1 hx with ⟨rfl, rfl⟩ | ⟨na, ea⟩
    · rcases (set_at hc).1 hy with ⟨rfl, rfl⟩ | ⟨nb, eb⟩
      · rfl
      · exact absurd he.symm (hnk b y eb h2)
    · rcases (set_at hc).1 hy with ⟨rfl, rfl⟩ | ⟨nb, eb⟩
      · exact absurd he (hnk a x ea h1)
      · exact h.once a b x y ea eb h1 h2 he
  · intro a x hx h2
    rw [List.length_set]
    rcases (set_at hc).1 hx with ⟨rfl, rfl⟩ | ⟨na, ea⟩
    · refine ⟨j0, hj0, hi.symm, fun j hj y hy => ?_⟩
      rcases (set_at hc).1 hy with ⟨-, rfl⟩ | ⟨-, e⟩
      · show (2 : Nat) ≠ 0
        omega
      · have := hall j hj y e
        omega
    · obtain ⟨d, d1, d2, d3⟩ := h.reach a x ea h2
      refine ⟨d, d1, d2, fun j hj y hy => ?_⟩
      rcases (set_at hc).1 hy with ⟨-, rfl⟩ | ⟨-, e⟩
      · show (2 : Nat) ≠ 0
        omega
      · exact d3 j hj y e
  · intro k' v'
    rw [getT_put]
    by_cases e : k = k'
    · subst e
      rw [if_pos rfl]
      constructor
      · intro hv
        obtain rfl := Option.some.inj hv
        exact ⟨i, (set_at hc).2 (.inl ⟨rfl, rfl⟩)⟩
      · rintro ⟨j, hj⟩
        rcases (set_at hc).1 hj with ⟨-, e⟩ | ⟨-, e⟩
        · injection e with _ _ e
          rw [e]
        · exact absurd e (hnot j v')
    · rw [if_neg e, h.has]
      constructor
      · rintro ⟨j, hj⟩
        refine ⟨j, (set_at hc).2 (.inr ⟨fun e2 => ?_, hj⟩)⟩
        subst e2
        rw [hc] at hj
        obtain rfl := Option.some.inj hj
        exact hc2 rfl
      · rintro ⟨j, hj⟩
        rcases (set_at hc).1 hj with ⟨-, e2⟩ | ⟨-, e2⟩
        · injection e2 with _ e2
          exact absurd e2 e
        · exact ⟨j, e2⟩
  · rw [putT_length, hg]
    simp [h.len]
  · have := h.taken
    omega
  · have := h.used_
    by_cases e : c.kind = 0
    · simp only [e] at cU ⊢
      simp at cU ⊢
      omega
    · simp only [e] at cU ⊢
      simp at cU ⊢
      omega
/-- A name that is there, at another place. -/
theorem CellsOk.move {i : Nat} {u v : Int} (h : CellsOk st cs m names used) (hc : cs[i]? = some ⟨2, k, u⟩) :
    CellsOk st (cs.set i ⟨2, k, v⟩) (putT m k v) names used := by
  have hg : getT m k = some u := (h.has k u).2 ⟨i, hc⟩
  have cT := countP_set (fun c => c.kind == 2) cs i _ ⟨2, k, v⟩ hc
  have cU := countP_set (fun c => c.kind != 0) cs i _ ⟨2, k, v⟩ hc
  simp at cT cU
  have hkb := (h.kinds _ (List.mem_of_getElem? hc)).2
  have key : ∀ (j : Nat) (x : Cl), (cs.set i ⟨2, k, v⟩)[j]? = some x → ∃ y : Cl, cs[j]? = some y ∧ y.kind = x.kind ∧ y.name = x.name := fun j x hx => by
    rcases (set_at hc).1 hx with ⟨rfl, rfl⟩ | ⟨-, e⟩
    · exact ⟨_, hc, rfl, rfl⟩
    · exact ⟨x, e, rfl, rfl⟩
  refine ⟨?_, ?_, ?_, ?_, ?_, h.onceM.put k v, ?_, ?_, ?_⟩
  · rw [List.length_set]; exact h.pow
  · intro x hx
    obtain ⟨j, hj⟩ := List.getElem?_of_mem hx
    obtain ⟨y, h1, h2, h3⟩ := key j x hj
    rw [← h2, ← h3]
    exact h.kinds y (List.mem_of_getElem? h1)
  · intro a b x y hx hy h1 h2 he
    obtain ⟨x', x1, x2, x3⟩ := key a x hx
    obtain ⟨y', y1, y2, y3⟩ := key b y hy
    exact h.once a b x' y' x1 y1 (x2.trans h1) (y2.trans h2) (by rw [x3, y3, he])
  · intro a x hx h2
    rw [List.length_set]
    obtain ⟨x', x1, x2, x3⟩ := key a x hx
    rw [← x3]
    obtain ⟨d, d1, d2, d3⟩ := h.reach a x' x1 (x2.trans h2)
    refine ⟨d, d1, d2, fun j hj y hy => ?_⟩
    obtain ⟨y', y1, y2, y3⟩ := key _ y hy
    rw [← y2]
    exact d3 j hj y' y1
  · intro k' v'
    rw [getT_put]
    by_cases e : k = k'
    · subst e
      rw [if_pos rfl]
      constructor
      · intro hv
        obtain rfl := Option.some.inj hv
        exact ⟨i, (set_at hc).2 (.inl ⟨rfl, rfl⟩)⟩
      · rintro ⟨j, hj⟩
        rcases (set_at hc).1 hj with ⟨-, e⟩ | ⟨hne, e⟩
        · injection e with _ _ e
          rw [e]
        · exact absurd (h.once i j _ _ hc e rfl rfl rfl) hne
    · rw [if_neg e, h.has]
      constructor
      · rintro ⟨j, hj⟩
        refine ⟨j, (set_at hc).2 (.inr ⟨fun e2 => ?_, hj⟩)⟩
        subst e2
        rw [hc] at hj
        injection hj with hj
        injection hj with _ hj
        exact e hj
      · rintro ⟨j, hj⟩
        rcases (set_at hc).1 hj with ⟨-, e2⟩ | ⟨-, e2⟩
        · injection e2 with _ e2
          exact absurd e2 e
        · exact ⟨j, e2⟩
  · rw [putT_length, hg]
    simp [h.len]
  · have := h.taken
    omega
  · have := h.used_
    omega
/-- A name is dropped. -/
theorem CellsOk.drop {i : Nat} {u : Int} (h : CellsOk st cs m names used) (hc : cs[i]? = some ⟨2, k, u⟩) :
    CellsOk st (cs.set i ⟨1, 0, 0⟩) (dropT m k) (names - 1) used ∧ 1 ≤ names := by
  have hg : getT m k = some u := (h.has k u).2 ⟨i, hc⟩
  have cT := countP_set (fun c => c.kind == 2) cs i _ ⟨1, 0, 0⟩ hc
  have cU := countP_set (fun c => c.kind != 0) cs i _ ⟨1, 0, 0⟩ hc
  simp at cT cU
  have key : ∀ (j : Nat) (x : Cl), (cs.set i ⟨1, 0, 0⟩)[j]? = some x → x.kind = 2 → i ≠ j ∧ cs[j]? = some x := fun j x hx h2 => by
    rcases (set_at hc).1 hx with ⟨rfl, rfl⟩ | e
    · cases h2
    · exact e
  refine ⟨⟨?_, ?_, ?_, ?_, ?_, h.onceM.drop k, ?_, ?_, ?_⟩, ?_⟩
  · rw [List.length_set]; exact h.pow
  · intro x hx
    obtain ⟨j, hj⟩ := List.getElem?_of_mem hx
    rcases (set_at hc).1 hj with ⟨-, rfl⟩ | ⟨-, e⟩
    · exact ⟨by show 1 ≤ 2; omega, by show 0 < big; rw [big_eq]; omega⟩
    · exact h.kinds x (List.mem_of_getElem? e)
  · intro a b x y hx hy h1 h2 he
    exact h.once a b x y (key a x hx h1).2 (key b y hy h2).2 h1 h2 he
  · intro a x hx h2
    rw [List.length_set]
    obtain ⟨d, d1, d2, d3⟩ := h.reach a x (key a x hx h2).2 h2
    refine ⟨d, d1, d2, fun j hj y hy => ?_⟩
    rcases (set_at hc).1 hy with ⟨-, rfl⟩ | ⟨-, e⟩
    · show (1 : Nat) ≠ 0
      omega
    · exact d3 j hj y e
  · intro k' v'
    rw [getT_drop m h.onceM]
    by_cases e : k = k'
    · subst e
      rw [if_pos rfl]
      constructor
      · intro hv
        cases hv
      · rintro ⟨j, hj⟩
        obtain ⟨hne, e⟩ := key j _ hj rfl
        exact absurd (h.once i j _ _ hc e rfl rfl rfl) hne
    · rw [if_neg e, h.has]
      constructor
      · rintro ⟨j, hj⟩
        refine ⟨j, (set_at hc).2 (.inr ⟨fun e2 => ?_, hj⟩)⟩
        subst e2
        rw [hc] at hj
        injection hj with hj
        injection hj with _ hj
        exact e hj
      · rintro ⟨j, hj⟩
        exact ⟨j, (key j _ hj rfl).2⟩
  · rw [dropT_length, hg]
    simp [h.len]
  · have := h.taken
    omega
  · have := h.used_
    omega
  · have := h.taken
    omega
/-- No names at all. -/
theorem CellsOk.blank {b n : Nat} (h1 : 4 ≤ b) (h2 : b ≤ 13) (hn : n = 2 ^ b) : CellsOk st (List.replicate n ⟨0, 0, 0⟩) [] 0 0 := by
  have key : ∀ (j : Nat) x, (List.replicate n (⟨0, 0, 0⟩ : Cl))[j]? = some x → x = ⟨0, 0, 0⟩ := fun j x hx => List.eq_of_mem_replicate (List.mem_of_getElem? hx)
  refine ⟨⟨b, h1, h2, by rw [List.length_replicate]; exact hn⟩, ?_, ?_, ?_, ?_, List.nodup_nil, rfl, ?_, ?_⟩
  · intro c hc
    rw [List.eq_of_mem_replicate hc]
    exact ⟨by show 0 ≤ 2; omega, by show 0 < big; rw [big_eq]; omega⟩
  · intro i j c d hc _ h2
    rw [key i c hc] at h2
    cases h2
  · intro i c hc h2
    rw [key i c hc] at h2
    cases h2
  · intro k v
    constructor
    · intro h
      cases h
    · rintro ⟨i, hi⟩
      have := key i _ hi
      injection this with this
      cases this
  · rw [List.countP_replicate]; rfl
  · rw [List.countP_replicate]; rfl
/-- What the first cells have. -/
def laidT (cs : List Cl) (j : Nat) : Tbl := (cs.take j).filterMap (fun c => if c.kind = 2 then some (c.name, c.plc) else none)
theorem laidT_zero : laidT cs 0 = [] := rfl
theorem laidT_skip {j : Nat} {c : Cl} (hc : cs[j]? = some c) (h2 : c.kind ≠ 2) : laidT cs (j + 1) = laidT cs j := by
  unfold laidT
  rw [List.take_add_one, hc, List.filterMap_append]
  simp [h2]
theorem laidT_mem {j : Nat} {k : Nat} {v : Int} : (k, v) ∈ laidT cs j ↔ ∃ i, i < j ∧ cs[i]? = some ⟨2, k, v⟩ := by
  unfold laidT
  rw [List.mem_filterMap]
  constructor
  · rintro ⟨c, hc, e⟩
    obtain ⟨i, hi⟩ := List.getElem?_of_mem hc
    rw [List.getElem?_take] at hi
    split at hi
    · rename_i hij
      refine ⟨i, hij, ?_⟩
      rw [hi]
      cases c
      split at e
      · rename_i e2
        injection e with e
        injection e with e3 e4
        dsimp only at e2 e3 e4
        rw [e2, e3, e4]
      · cases e
    · cases hi
  · rintro ⟨i, hij, hi⟩
    refine ⟨⟨2, k, v⟩, List.mem_of_getElem? (l := cs.take j) (i := i) ?_, if_pos rfl⟩
    rw [List.getElem?_take, if_pos hij]
    exact hi
theorem putT_fresh : ∀ (m : Tbl) (k : Nat) (v : Int), getT m k = none → putT m k v = m ++ [(k, v)]
  | [], _, _, _ => rfl
  | (a, u) :: r, k, v, h => by
    unfold getT at h
    split at h
    · cases h
    · rename_i e
      unfold putT
      rw [if_neg e, putT_fresh r k v h]; rfl
theorem CellsOk.laid_next {j : Nat} {c : Cl} (h : CellsOk st cs m names used) (hc : cs[j]? = some c) (h2 : c.kind = 2) : laidT cs (j + 1) = putT (laidT cs j) c.name c.plc := by
  have hn : getT (laidT cs j) c.name = none := by
    rw [getT_none]
    intro hm
    obtain ⟨⟨k, v⟩, hkv, e⟩ := List.mem_map.1 hm
    dsimp only at e
    subst e
    obtain ⟨i, hi, hci⟩ := laidT_mem.1 hkv
    have := h.once i j _ _ hci hc rfl h2 rfl
    omega
  rw [putT_fresh _ _ _ hn]
  unfold laidT
  rw [List.take_add_one, hc, List.filterMap_append]
  simp [h2]
theorem laidT_length {j : Nat} : (laidT cs j).length = (cs.take j).countP (fun c => c.kind == 2) := by
  unfold laidT
  generalize cs.take j = l
  induction l with
  | nil => rfl
  | cons a r ih =>
    rw [List.countP_cons, ← ih, List.filterMap_cons]
    by_cases e : a.kind = 2
    · simp [e]
    · simp [e]
theorem CellsOk.laid_few {j : Nat} (h : CellsOk st cs m names used) : (laidT cs j).length ≤ names := by
  rw [laidT_length, h.taken]
  exact List.Sublist.countP_le (List.take_sublist j cs)
theorem CellsOk.laid_fewer {j : Nat} {c : Cl} (h : CellsOk st cs m names used) (hc : cs[j]? = some c) (h2 : c.kind = 2) : (laidT cs j).length < names := by
  have h1 := h.laid_few (j := j + 1)
  have e : (laidT cs (j + 1)).length = (laidT cs j).length + 1 := by
    unfold laidT
    rw [List.take_add_one, hc, List.filterMap_append]
    simp [h2]
  omega
/-- Other cells of the same names. -/
theorem CellsOk.anew {cs2 : List Cl} {names2 used2 : Nat} (h : CellsOk st cs m names used) (h2 : CellsOk st cs2 (laidT cs cs.length) names2 used2) : CellsOk st cs2 m names used2 := by
  have hl : (laidT cs cs.length).length = names := by
    rw [laidT_length, List.take_length, h.taken]
  have hn : names2 = names := h2.len.trans hl
  subst hn
  refine ⟨h2.pow, h2.kinds, h2.once, h2.reach, fun k v => ?_, h.onceM, h.len, h2.taken, h2.used_⟩
  rw [← h2.has]
  have hg : ∀ (t : Tbl), OnceT t → (getT t k = some v ↔ (k, v) ∈ t) := by
    intro t
    induction t with
    | nil => intro _; simp [getT]
    | cons a r ih =>
      obtain ⟨a, u⟩ := a
      intro ho
      have ha : a ∉ r.map Prod.fst := (List.nodup_cons.1 ho).1
      unfold getT
      rw [List.mem_cons]
      by_cases e : a = k
      · subst e
        rw [if_pos rfl]
        constructor
        · intro hv
          rw [Option.some.inj hv]
          exact .inl rfl
        · rintro (hv | hv)
          · injection hv with _ hv
            rw [hv]
          · exact absurd (List.mem_map_of_mem (f := Prod.fst) hv) ha
      · rw [if_neg e, ih (List.nodup_cons.1 ho).2]
        constructor
        · exact .inr
        · rintro (hv | hv)
          · injection hv with hv
            exact absurd hv.symm e
          · exact hv
  rw [h.has, hg _ h2.onceM, laidT_mem]
  constructor
  · rintro ⟨i, hi⟩
    exact ⟨i, (List.getElem?_eq_some_iff.1 hi).1, hi⟩
  · rintro ⟨i, _, hi⟩
    exact ⟨i, hi⟩
end
end Go.Proofs.Ytpopbdladlahjaa
