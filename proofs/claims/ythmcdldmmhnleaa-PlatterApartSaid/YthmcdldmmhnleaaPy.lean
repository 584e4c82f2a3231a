/- PlatterLasts: plain facts; what is known of a disk beside two rows of the law's own. -/
import Derived.Test.YthmcdldmmhnleaaPx
import Derived.OwnWalk
namespace Go.Proofs.Ythmcdldmmhnleaa
open Go.RowKit Go.Sort

/-- A make whose run is known. -/
theorem wpList_make_run {P : Program} (w : World) {ops : Array Oper} {rest : List Oper} {o : Oper} {a : Act} {Q : Exit → Act → World → Prop} (hg : o.guard = none) (l c : Operand) (t : TypeId)
    (hop : o.op = Op.makeSlice t l c) (vl vc : Value) (hl : a.eval l = vl) (hc : a.eval c = vc) (v' : Value) (w' : World) (hr : (Instr.makeSlice t vl vc).run P w = .ok v' w') (h : wpList P ops Q rest (a.put o.dst v') w') :
    wpList P ops Q (o :: rest) a w := by
  refine wpList_plain hg fun K hK' => ?_
  unfold Oper.wp
  simp [execOp, hop, hl, hc, hr, Result.andThen]
  exact hK' _ _ h
theorem lasting_away (mask : Nat) (torn : Int) (c i : Nat) : ∀ (r : List (Nat × ByteArray)) (k : Nat) (safe : List ByteArray), (∀ v ∈ r, v.1 ≠ i) → (lasting mask torn c k r safe).getD i ByteArray.empty = safe.getD i ByteArray.empty
  | [], _, _, _ => rfl
  | v :: r, k, safe, h => by
    have h0 := h v (List.mem_cons_self ..)
    rw [lasting, lasting_away mask torn c i r _ _ (fun v hv => h v (List.mem_cons_of_mem _ hv))]
    split
    · exact getD_set_far _ _ _ _ h0
    · split
      · exact getD_set_far _ _ _ _ h0
      · rfl
/-- A disk behind a sync: the writes since then are of sectors that are marked. -/
structure Marked (sf : List ByteArray) (ys : List Bool) (sd : St) : Prop where
  safe : sd.safe = sf
  later : ∀ v ∈ sd.later, ys.getD v.1 false = true
  arm : sd.arm ≤ 0
  len : ys.length = sf.length
theorem bool_set_self (l : List Bool) (i : Nat) (h : i < l.length) : (l.set i true).getD i false = true := by
  rw [List.getD_eq_getElem?_getD, List.getElem?_set, if_pos rfl, if_pos h]; rfl
theorem bool_set_keep (l : List Bool) (i j : Nat) (h : l.getD j false = true) : (l.set i true).getD j false = true := by
  by_cases e : i = j
  · subst e
    refine bool_set_self l i ?_
    rcases Nat.lt_or_ge i l.length with h2 | h2
    · exact h2
    · rw [List.getD_eq_getElem?_getD, List.getElem?_eq_none h2] at h; simp at h
  · rw [List.getD_eq_getElem?_getD, List.getElem?_set, if_neg e, ← List.getD_eq_getElem?_getD]; exact h
theorem Marked.bad {sf : List ByteArray} {ys : List Bool} {sd : St} (_ : Marked sf ys sd) (n : Int) (s : ByteArray) (hg : sd.goodW n s = false) : sd.write n s = (1, sd) := by
  unfold St.write
  rw [hg, if_neg (by decide)]
theorem Marked.good {sf : List ByteArray} {ys : List Bool} {sd : St} (h : Marked sf ys sd) (n : Int) (s : ByteArray) (hg : sd.goodW n s = true) :
    (sd.write n s).1 = 0 ∧ (0 ≤ n ∧ n < ((sf.length : Nat) : Int)) ∧ Marked sf (ys.set n.toNat true) (sd.write n s).2 := by
  have ha := h.arm
  have hb : 0 ≤ n ∧ n < ((sf.length : Nat) : Int) := by
    unfold St.goodW at hg
    simp only [Bool.and_eq_true, decide_eq_true_eq] at hg
    rw [h.safe] at hg
    exact hg.1
  unfold St.write
  rw [if_pos hg, if_neg (by unfold St.fails; rw [decide_eq_false (by omega)]; decide)]
  refine ⟨rfl, hb, h.safe, fun v hv => ?_, by show sd.arm - 1 ≤ 0; omega, by rw [List.length_set]; exact h.len⟩
  rcases List.mem_append.mp hv with hv | hv
  · exact bool_set_keep _ _ _ (h.later v hv)
  · rw [List.mem_singleton] at hv
    subst hv
    refine bool_set_self _ _ ?_
    rw [h.len]; show n.toNat < sf.length; omega
theorem Marked.crashed {sf : List ByteArray} {ys : List Bool} {sd : St} (h : Marked sf ys sd) (mask : Nat) (torn cut : Int) (i : Nat) (hi : ys.getD i false = false) : (sd.crashed mask torn cut).now i = sf.getD i ByteArray.empty := by
  show nowAt [] i ((lasting mask torn (cutC cut) 0 sd.later sd.safe).getD i ByteArray.empty) = _
  rw [lasting_away, h.safe]
  · rfl
  · intro v hv e
    have := h.later v hv
    rw [e, hi] at this
    exact absurd this (by decide)
/-- A disk that is synced with nothing armed. -/
theorem synced_calm (st : St) : (st.armed 0).sync.1 = 0 ∧ (st.armed 0).sync.2.later = [] ∧ (st.armed 0).sync.2.arm ≤ 0 := by
  unfold St.sync
  rw [if_neg (by show ¬ decide (max (0 : Int) 0 - 1 = 0) = true; decide)]
  exact ⟨rfl, rfl, by show max (0 : Int) 0 - 1 ≤ 0; omega⟩
theorem synced_now {st : St} (h : st.later = []) (i : Nat) : st.now i = st.safe.getD i ByteArray.empty := by unfold St.now; rw [h]; rfl
theorem synced_marked {st : St} (h : st.later = []) (ha : st.arm ≤ 0) (ys : List Bool) (hl : ys.length = st.safe.length) : Marked st.safe ys st :=
  ⟨rfl, fun v hv => by rw [h] at hv; simp at hv, ha, hl⟩

theorem bool_info : (Try.prog.info? 4).map (fun i => (i.zero, i.size, i.bytes)) = some (some (.bool false), 1, 1) := by kernel_rfl
theorem call_length (st : St) (c : Call) : (callSt st c).safe.length = st.safe.length := by
  unfold callSt
  split
  · exact write_length _ _ _
  · split
    · exact sync_length _
    · split
      · exact crash_length _ _ _ _
      · split <;> rfl
theorem row_spot {W : World} {base : Nat} {e : TypeId} {g n cap : Nat} {xs : List Value} (h : W.ownsRow base e 1 (.slice (some ⟨g, 0, none⟩) n cap) n xs) (j : Nat) (hj : j < n) :
    ∃ x, xs[j]? = some x ∧ W.cell? ⟨g, j, none⟩ = some x ∧ W.frozen? ⟨g, j, none⟩ = false ∧ g < W.heap.size := by
  obtain ⟨ao, c2, e1, at1⟩ := row_slice h
  obtain ⟨g1, x, rfl, l1, y1, z1, f1⟩ := at1 j hj
  have e2 : g = g1 := by injection e1 with e1; injection e1 with e1; injection e1
  subst e2
  exact ⟨x, y1, z1, f1, l1⟩
theorem spot_set {xs : List ByteArray} {f : Nat → ByteArray} {k : Nat} (h : ∀ j, j < k → xs[j]? = some (f j)) (hk : k < xs.length) : ∀ j, j < k + 1 → (xs.set k (f k))[j]? = some (f j) := by
  intro j hj
  rw [List.getElem?_set]
  by_cases e : k = j
  · subst e; rw [if_pos rfl, if_pos hk]
  · rw [if_neg e]; exact h j (by omega)
def rowB (ys : List Bool) : List Value := ys.map fun b => .bool b
theorem rowB_at {ys : List Bool} {k : Nat} {x : Value} (h : (rowB ys)[k]? = some x) : x = .bool (ys.getD k false) := by
  unfold rowB at h
  rw [List.getElem?_map] at h
  rw [List.getD_eq_getElem?_getD]
  cases e : ys[k]? with
  | none => rw [e] at h; simp at h
  | some y => rw [e] at h; simpa using h.symm
theorem rowS_at {xs : List ByteArray} {k : Nat} {x : Value} {s : ByteArray} (h : (rowS xs)[k]? = some x) (hs : xs[k]? = some s) : x = .string s := by
  unfold rowS at h
  rw [List.getElem?_map, hs] at h
  simpa using h.symm
/-- A disk alone. -/
structure Solo (Dk : (Nat → Prop) → World → Nat → St → Prop) (w wr : World) (p : Nat) (sd : St) : Prop where
  ex : ∃ F, Dk F wr p sd ∧ ∀ j, F j → w.heap.size ≤ j
  below : Below w.heap.size w wr
/-- A disk, and a row of strings. -/
structure Row1 (Dk : (Nat → Prop) → World → Nat → St → Prop) (w wr : World) (p : Nat) (sd : St) (n g : Nat) (xs : List ByteArray) : Prop where
  ex : ∃ F, Dk F wr p sd ∧ (∀ j, F j → w.heap.size ≤ j) ∧ ¬ F g
  hi : w.heap.size ≤ g
  row : wr.ownsRow 0 9 1 (.slice (some ⟨g, 0, none⟩) n n) n (rowS xs)
  below : Below w.heap.size w wr
/-- A disk, a row of strings and one of flags. -/
structure Row2 (Dk : (Nat → Prop) → World → Nat → St → Prop) (w wr : World) (p : Nat) (sd : St) (n g : Nat) (xs : List ByteArray) (b : Nat) (ys : List Bool) : Prop where
  ex : ∃ F, Dk F wr p sd ∧ (∀ j, F j → w.heap.size ≤ j) ∧ ¬ F g ∧ ¬ F b
  hi : w.heap.size ≤ g ∧ w.heap.size ≤ b
  row : wr.ownsRow 0 9 1 (.slice (some ⟨g, 0, none⟩) n n) n (rowS xs)
  rowb : wr.ownsRow 0 4 1 (.slice (some ⟨b, 0, none⟩) n n) n (rowB ys)
  apart : g ≠ b
  below : Below w.heap.size w wr
section
variable {Dk : (Nat → Prop) → World → Nat → St → Prop} {w wr : World} {p n g b : Nat} {sd : St} {xs : List ByteArray} {ys : List Bool}
theorem Solo.op (h : Solo Dk w wr p sd) {f : FuncId} {args : Array Value} {R : Ending → Prop} {sd2 : St} (hc : ∀ F, Dk F wr p sd → Calls Try.prog f args wr fun e W' => R e ∧ DkPost Dk F p sd2 wr W') :
    Calls Try.prog f args wr fun e W' => R e ∧ Solo Dk w W' p sd2 := by
  obtain ⟨⟨F, h1, h2⟩, hb⟩ := h
  refine (hc F h1).mono ?_
  rintro e W' ⟨he, F', k1, k2, k3⟩
  have hs := hb.size
  refine ⟨he, ⟨F', k1, fun j hj => ?_⟩, hb.trans (k2.to_below hs h2)⟩
  by_cases e : j < wr.heap.size
  · exact h2 j (k3 j e hj)
  · omega
theorem Row1.later (K : LandedDk Dk) (h : Row1 Dk w wr p sd n g xs) {w2 : World} (hb : Below wr.heap.size wr w2) : Row1 Dk w w2 p sd n g xs := by
  obtain ⟨⟨F, h1, h2, h3⟩, hi, hr, hbl⟩ := h
  exact ⟨⟨F, K.later h1 hb, h2, h3⟩, hi, (Only.of_below (F := fun _ => False) hb).row hr (fun _ _ e => e), hbl.trans (hb.mono hbl.size)⟩
theorem Row2.later (K : LandedDk Dk) (h : Row2 Dk w wr p sd n g xs b ys) {w2 : World} (hb : Below wr.heap.size wr w2) : Row2 Dk w w2 p sd n g xs b ys := by
  obtain ⟨⟨F, h1, h2, h3, h4⟩, hi, hr, hrb, ha, hbl⟩ := h
  exact ⟨⟨F, K.later h1 hb, h2, h3, h4⟩, hi, (Only.of_below (F := fun _ => False) hb).row hr (fun _ _ e => e), (Only.of_below (F := fun _ => False) hb).row hrb (fun _ _ e => e), ha, hbl.trans (hb.mono hbl.size)⟩
theorem Row1.read (K : LandedDk Dk) (h : Row1 Dk w wr p sd n g xs) (hok : sd.Ok) (i : Nat) (hi : i < sd.safe.length) :
    Calls Try.prog 14 #[.pointer (some ⟨p, 0, none⟩), .int .i64 ((i : Nat) : Int)] wr fun e W' => e = .returned (.tuple #[.string (sd.now i), .int .i64 0]) ∧ Row1 Dk w W' p sd n g xs := by
  have h' := h
  obtain ⟨⟨F, h1, h2, h3⟩, hi2, hr, hbl⟩ := h'
  refine (read_in K F wr p sd i h1 hok hi).mono ?_
  rintro e W' ⟨he, hb⟩
  exact ⟨he, h.later K hb⟩
theorem Row2.read (K : LandedDk Dk) (h : Row2 Dk w wr p sd n g xs b ys) (hok : sd.Ok) (i : Nat) (hi : i < sd.safe.length) :
    Calls Try.prog 14 #[.pointer (some ⟨p, 0, none⟩), .int .i64 ((i : Nat) : Int)] wr fun e W' => e = .returned (.tuple #[.string (sd.now i), .int .i64 0]) ∧ Row2 Dk w W' p sd n g xs b ys := by
  have h' := h
  obtain ⟨⟨F, h1, h2, h3, h4⟩, hi2, hr, hrb, ha, hbl⟩ := h'
  refine (read_in K F wr p sd i h1 hok hi).mono ?_
  rintro e W' ⟨he, hb⟩
  exact ⟨he, h.later K hb⟩
theorem Row2.count (K : LandedDk Dk) (h : Row2 Dk w wr p sd n g xs b ys) (hok : sd.Ok) :
    Calls Try.prog 20 #[.pointer (some ⟨p, 0, none⟩)] wr fun e W' => e = .returned (.int .i64 ((sd.later.length : Nat) : Int)) ∧ Row2 Dk w W' p sd n g xs b ys := by
  have h' := h
  obtain ⟨⟨F, h1, h2, h3, h4⟩, hi2, hr, hrb, ha, hbl⟩ := h'
  refine (K.later' F wr p sd h1 hok).mono ?_
  rintro e W' ⟨he, hb⟩
  exact ⟨he, h.later K hb⟩
theorem Row2.op (h : Row2 Dk w wr p sd n g xs b ys) {f : FuncId} {args : Array Value} {R : Ending → Prop} {sd2 : St} (hc : ∀ F, Dk F wr p sd → Calls Try.prog f args wr fun e W' => R e ∧ DkPost Dk F p sd2 wr W') :
    Calls Try.prog f args wr fun e W' => R e ∧ Row2 Dk w W' p sd2 n g xs b ys := by
  obtain ⟨⟨F, h1, h2, h3, h4⟩, hi, hr, hrb, ha, hbl⟩ := h
  refine (hc F h1).mono ?_
  rintro e W' ⟨he, F', k1, k2, k3⟩
  have hs := hbl.size
  have lg := (hr.lt g rfl).2
  have lb := (hrb.lt b rfl).2
  refine ⟨he, ⟨F', k1, fun j hj => ?_, fun e => h3 (k3 g lg e), fun e => h4 (k3 b lb e)⟩, hi, k2.row hr (fun g' hg' => ?_), k2.row hrb (fun g' hg' => ?_), ha, hbl.trans (k2.to_below hs h2)⟩
  · by_cases e : j < wr.heap.size
    · exact h2 j (k3 j e hj)
    · omega
  · have e : g = g' := by simpa [Value.ownBlock] using hg'
    subst e; exact h3
  · have e : b = g' := by simpa [Value.ownBlock] using hg'
    subst e; exact h4
theorem Row1.store (K : LandedDk Dk) (h : Row1 Dk w wr p sd n g xs) (k : Nat) (u : ByteArray) : Row1 Dk w (wr.setCell ⟨g, k, none⟩ (.string u)) p sd n g (xs.set k u) := by
  obtain ⟨⟨F, h1, h2, h3⟩, hi, hr, hbl⟩ := h
  have hO : Only (fun i => i = g) wr (wr.setCell ⟨g, k, none⟩ (.string u)) := (Only.refl (fun i => i = g) wr).setCell (p := ⟨g, k, none⟩) (fun _ => rfl) _
  refine ⟨⟨F, K.keep _ _ _ _ _ _ h1 hO (fun i hi e => h3 (e ▸ hi)), h2, h3⟩, hi, ?_, hbl.trans (hO.to_below hbl.size (fun i e => e ▸ hi))⟩
  have e : rowS (xs.set k u) = (rowS xs).set k (.string u) := by unfold rowS; rw [List.map_set]
  rw [e]
  exact (hr.stored k _).1
theorem Row2.store (K : LandedDk Dk) (h : Row2 Dk w wr p sd n g xs b ys) (k : Nat) (u : Bool) : Row2 Dk w (wr.setCell ⟨b, k, none⟩ (.bool u)) p sd n g xs b (ys.set k u) := by
  obtain ⟨⟨F, h1, h2, h3, h4⟩, hi, hr, hrb, ha, hbl⟩ := h
  have hO : Only (fun i => i = b) wr (wr.setCell ⟨b, k, none⟩ (.bool u)) := (Only.refl (fun i => i = b) wr).setCell (p := ⟨b, k, none⟩) (fun _ => rfl) _
  refine ⟨⟨F, K.keep _ _ _ _ _ _ h1 hO (fun i hi e => h4 (e ▸ hi)), h2, h3, h4⟩, hi, hO.row hr (fun g' hg' e => ?_), ?_, ha, hbl.trans (hO.to_below hbl.size (fun i e => e ▸ hi.2))⟩
  · have e2 : g = g' := by simpa [Value.ownBlock] using hg'
    exact ha (e2.trans e)
  · have e : rowB (ys.set k u) = (rowB ys).set k (.bool u) := by unfold rowB; rw [List.map_set]
    rw [e]
    exact (hrb.stored k _).1
theorem Solo.make (K : LandedDk Dk) (h : Solo Dk w wr p sd) (n : Nat) (hn : n ≤ 40) :
    ∃ w', (Instr.makeSlice 37 (.int .i64 ((n : Nat) : Int)) (.int .i64 ((n : Nat) : Int))).run Try.prog wr = .ok (.slice (some ⟨wr.heap.size, 0, none⟩) n n) w' ∧ Row1 Dk w w' p sd n wr.heap.size (List.replicate n ⟨#[]⟩) := by
  obtain ⟨⟨F, h1, h2⟩, hbl⟩ := h
  obtain ⟨i0, hi0, hz0, hz1, hz2⟩ := info_parts str_info
  obtain ⟨w', hrun, ho, hg⟩ := run_make_full (P := Try.prog) wr 0 37 9 i0 (.string ⟨#[]⟩) 1 Try.underlying37 hi0 hz0 hz1 .i64 .i64 n (by rw [hz2]; omega) (by unfold maxLen; omega) (Nat.zero_le _)
  have hO : Only (fun _ => False) wr w' := Only.of_grown hg (fun _ _ e => by simp at e)
  refine ⟨w', hrun, ⟨F, K.keep _ _ _ _ _ _ h1 hO (fun _ _ e => e), h2, fun e => by have := K.near _ _ _ _ h1 _ e; omega⟩, hbl.size, ?_, hbl.trans (hO.to_below hbl.size (fun _ e => e.elim))⟩
  have e : rowS (List.replicate n ⟨#[]⟩) = (madeCells (Value.string ⟨#[]⟩).cells (n * 1)).toList := by
    rw [show (Value.string ⟨#[]⟩).cells = #[.string ⟨#[]⟩] from rfl, toList_madeCells_one, Nat.mul_one]
    unfold rowS; rw [List.map_replicate]
  rw [e]; exact ho
theorem Row1.make (K : LandedDk Dk) (h : Row1 Dk w wr p sd n g xs) (hn : n ≤ 40) :
    ∃ w', (Instr.makeSlice 47 (.int .i64 ((n : Nat) : Int)) (.int .i64 ((n : Nat) : Int))).run Try.prog wr = .ok (.slice (some ⟨wr.heap.size, 0, none⟩) n n) w' ∧ Row2 Dk w w' p sd n g xs wr.heap.size (List.replicate n false) := by
  obtain ⟨⟨F, h1, h2, h3⟩, hi, hr, hbl⟩ := h
  obtain ⟨i0, hi0, hz0, hz1, hz2⟩ := info_parts bool_info
  obtain ⟨w', hrun, ho, hg⟩ := run_make_full (P := Try.prog) wr 0 47 4 i0 (.bool false) 1 Try.underlying47 hi0 hz0 hz1 .i64 .i64 n (by rw [hz2]; omega) (by unfold maxLen; omega) (Nat.zero_le _)
  have hO : Only (fun _ => False) wr w' := Only.of_grown hg (fun _ _ e => by simp at e)
  have lg := (hr.lt g rfl).2
  refine ⟨w', hrun, ⟨F, K.keep _ _ _ _ _ _ h1 hO (fun _ _ e => e), h2, h3, fun e => by have := K.near _ _ _ _ h1 _ e; omega⟩, ⟨hi, hbl.size⟩, hO.row hr (fun _ _ e => e), ?_, by omega, hbl.trans (hO.to_below hbl.size (fun _ e => e.elim))⟩
  have e : rowB (List.replicate n false) = (madeCells (Value.bool false).cells (n * 1)).toList := by
    rw [show (Value.bool false).cells = #[.bool false] from rfl, toList_madeCells_one, Nat.mul_one]
    unfold rowB; rw [List.map_replicate]
  rw [e]; exact ho
theorem Row2.box_op (K : LandedDk Dk) (h : Row2 Dk w wr p sd n g xs b ys) (cs : List Value) (ty : TypeId) {f : FuncId} {args : Array Value} {R : Ending → Prop} {sd2 : St} (hc : ∀ F W, Dk F W p sd → Calls Try.prog f args W fun e W' => R e ∧ DkPost Dk F p sd2 W W') :
    Calls Try.prog f args (wr.alloc (.cells cs.toArray ty)) fun e W' => R e ∧ Row2 Dk w W' p sd2 n g xs b ys ∧ BoxAt W' wr.heap.size cs := by
  have hal : Below wr.heap.size wr (wr.alloc (.cells cs.toArray ty)) := (Below.refl _ _).alloc (Nat.le_refl _) _
  have hB := BoxAt.new wr cs ty
  obtain ⟨⟨F, h1, h2, h3, h4⟩, hi, hr, hrb, ha, hbl⟩ := h
  have nF : ¬ F wr.heap.size := fun e => by have := K.near _ _ _ _ h1 _ e; omega
  have lg := (hr.lt g rfl).2
  have lb := (hrb.lt b rfl).2
  replace h1 := K.later h1 hal
  replace hr := (Only.of_below (F := fun _ => False) hal).row hr (fun _ _ e => e)
  replace hrb := (Only.of_below (F := fun _ => False) hal).row hrb (fun _ _ e => e)
  have hs := hbl.size
  replace hbl := hbl.trans (hal.mono hs)
  generalize wr.alloc (.cells cs.toArray ty) = wx at *
  have hs2 := hal.size
  refine (hc F wx h1).mono ?_
  rintro e W' ⟨he, F', k1, k2, k3⟩
  refine ⟨he, ⟨⟨F', k1, fun j hj => ?_, fun e => h3 (k3 g (by omega) e), fun e => h4 (k3 b (by omega) e)⟩, hi, k2.row hr (fun g' hg' => ?_), k2.row hrb (fun g' hg' => ?_), ha, hbl.trans (k2.to_below (by omega) h2)⟩, hB.only k2 nF⟩
  · by_cases e : j < wx.heap.size
    · exact h2 j (k3 j e hj)
    · omega
  · have e : g = g' := by simpa [Value.ownBlock] using hg'
    subst e; exact h3
  · have e : b = g' := by simpa [Value.ownBlock] using hg'
    subst e; exact h4
end
end Go.Proofs.Ythmcdldmmhnleaa
