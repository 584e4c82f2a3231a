/- PlatterTorn's walk, out of the landed contracts. -/
import Derived.Test.YthmcdldmmhnleaaPv
import Derived.Test.YthmcdldmmhnleaaStrs
import Derived.BigQuiet
namespace Go.Proofs.Ythmcdldmmhnleaa
open Go.RowKit Go.Sort

set_option maxRecDepth 100000 in
set_option maxHeartbeats 1000000 in
theorem pblank_any (w : World) : Calls Try.prog 22 #[] w fun e w' => e = .returned (.string (zerosB 128)) ∧ Below w.heap.size w w' := by
  have hn := Lib.hid (fun W => refnew_any 1 W)
  go_enter Try.func22, Try.ntmps22
  go_wp2_with fail
  refine (hn.out _).mono ?_
  rintro e w1 ⟨m, F, rfl, ⟨vs, va, vd, hV, -⟩, -, hb⟩
  have c0 := hV.c0
  have hlt := hV.lt
  have hl : (St.new 1).safe.length = 1 := rfl
  have hr := hV.o0
  rw [hl] at hr
  obtain ⟨ao0, k0, rfl, at0⟩ := row_slice hr
  obtain ⟨g, x, rfl, l0, y0, z0, -⟩ := at0 0 (by omega)
  have hx : x = .string (zerosB 128) := (Option.some.inj y0).symm
  subst hx
  clear hV hr at0 y0 hl
  go_wp2
  go_ret
  exact ⟨rfl, hb⟩

/-! ### Plain -/
theorem text_beq (a b : ByteArray) : (a.toList == b.toList) = true ↔ a = b := by
  rw [beq_iff_eq, ByteArray.toList_eq, ByteArray.toList_eq]
  constructor
  · intro h; exact ByteArray.ext (Array.toList_inj.mp h)
  · intro h; rw [h]
theorem padB_ge (s : ByteArray) : 128 ≤ (padB s).size := by
  unfold padB
  rw [ByteArray.size_append, ByteArray.size_extract, zerosB_size]
  omega
/-- A string's end, and its beginning. -/
theorem str_from' (s : ByteArray) (n k : Nat) (h : s.size = n + k) (W : World) :
    (Instr.sliceAt 9 (.string s) (some (.int .i64 ((n : Nat) : Int))) none none).run Try.prog W = .ok (.string (s.extract n (n + k))) W := by
  rw [run_sliceAt_string _ _ _ _ _ _ Try.underlying9, run_slice_string_l _ _ _ Try.underlying9 _ _ (by omega) (by omega), h]
  simp
theorem str_to' (s : ByteArray) (n : Nat) (h : n ≤ s.size) (W : World) :
    (Instr.sliceAt 9 (.string s) none (some (.int .i64 ((n : Nat) : Int))) none).run Try.prog W = .ok (.string (s.extract 0 n)) W := by
  rw [run_sliceAt_string _ _ _ _ _ _ Try.underlying9, run_slice_string_h _ _ _ Try.underlying9 _ _ (by omega) (by omega)]
  simp
def enumF (f : Nat → ByteArray) (k m : Nat) : List (Nat × ByteArray) := (List.range m).map fun j => (k + j, f (k + j))
theorem enumF_cons (f : Nat → ByteArray) (k m : Nat) : enumF f k (m + 1) = (k, f k) :: enumF f (k + 1) m := by
  unfold enumF
  rw [List.range_succ_eq_map, List.map_cons, List.map_map]
  congr 1
  apply List.map_congr_left
  intro j _
  show (k + (j + 1), f (k + (j + 1))) = (k + 1 + j, f (k + 1 + j))
  rw [show k + (j + 1) = k + 1 + j by omega]
theorem enumF_snoc (f : Nat → ByteArray) (m : Nat) : enumF f 0 (m + 1) = enumF f 0 m ++ [(m, f m)] := by
  unfold enumF
  rw [List.range_succ, List.map_append]
  simp
def pickB (mask : Nat) (torn : Int) (c i : Nat) (x s : ByteArray) : ByteArray :=
  if (i : Int) = torn then x.extract 0 c ++ s.extract c 128 else if mask / 2 ^ (min i 63) % 2 = 1 then x else s
theorem getD_set_self (l : List ByteArray) (i : Nat) (x : ByteArray) (h : i < l.length) : (l.set i x).getD i ByteArray.empty = x := by
  rw [List.getD_eq_getElem?_getD, List.getElem?_set, if_pos rfl, if_pos h]; rfl
theorem getD_set_far (l : List ByteArray) (i j : Nat) (x : ByteArray) (h : j ≠ i) : (l.set j x).getD i ByteArray.empty = l.getD i ByteArray.empty := by
  rw [List.getD_eq_getElem?_getD, List.getD_eq_getElem?_getD, List.getElem?_set, if_neg h]
theorem lasting_enum (f : Nat → ByteArray) (mask : Nat) (torn : Int) (c i : Nat) : ∀ (m k : Nat) (safe : List ByteArray), k + m ≤ safe.length →
    (lasting mask torn c k (enumF f k m) safe).getD i ByteArray.empty = if k ≤ i ∧ i < k + m then pickB mask torn c i (f i) (safe.getD i ByteArray.empty) else safe.getD i ByteArray.empty
  | 0, k, safe, _ => by
    rw [if_neg (by omega)]; rfl
  | m + 1, k, safe, h => by
    rw [enumF_cons, lasting]
    dsimp only
    have hk : k < safe.length := by omega
    have hlen : ∀ x, (safe.set k x).length = safe.length := fun x => List.length_set
    have step : ∀ s2 : List ByteArray, s2.length = safe.length → s2.getD k ByteArray.empty = pickB mask torn c k (f k) (safe.getD k ByteArray.empty) → (∀ j, j ≠ k → s2.getD j ByteArray.empty = safe.getD j ByteArray.empty) →
        (lasting mask torn c (k + 1) (enumF f (k + 1) m) s2).getD i ByteArray.empty = if k ≤ i ∧ i < k + (m + 1) then pickB mask torn c i (f i) (safe.getD i ByteArray.empty) else safe.getD i ByteArray.empty := fun s2 h2 h3 h4 => by
      rw [lasting_enum f mask torn c i m (k + 1) s2 (by omega)]
      by_cases e : i = k
      · subst e
        rw [if_neg (by omega), if_pos (by omega), h3]
      · by_cases e2 : k + 1 ≤ i ∧ i < k + 1 + m
        · rw [if_pos e2, if_pos (by omega), h4 i e]
        · rw [if_neg e2, if_neg (by omega), h4 i e]
    unfold pickB at step
    split
    · rename_i ht
      exact step _ (hlen _) (by rw [getD_set_self _ _ _ hk, if_pos ht]) (fun j hj => getD_set_far _ _ _ _ (Ne.symm hj))
    · rename_i ht
      split
      · rename_i hb
        exact step _ (hlen _) (by rw [getD_set_self _ _ _ hk, if_neg ht, if_pos hb]) (fun j hj => getD_set_far _ _ _ _ (Ne.symm hj))
      · rename_i hb
        exact step _ rfl (by rw [if_neg ht, if_neg hb]) (fun j _ => rfl)
/-- What a disk is behind so many writes of unlike sectors. -/
structure Lined (n : Nat) (f : Nat → ByteArray) (k : Nat) (sd : St) : Prop where
  safe : sd.safe = List.replicate n (zerosB 128)
  later : sd.later = enumF f 0 k
  arm : sd.arm ≤ 0
theorem Lined.write {n : Nat} {f : Nat → ByteArray} {k : Nat} {sd : St} (h : Lined n f k sd) (s : ByteArray) (hk : k < n) (hs : s.size ≤ 128) (hf : f k = padB s) : Lined n f (k + 1) (sd.write ((k : Nat) : Int) s).2 := by
  have hg : sd.goodW ((k : Nat) : Int) s = true := by
    unfold St.goodW
    rw [h.safe, List.length_replicate, decide_eq_true (by omega), decide_eq_true (by omega), decide_eq_true hs]; rfl
  rw [write_calm h.arm, if_pos hg, Int.toNat_natCast, h.later, ← hf]
  exact ⟨h.safe, (enumF_snoc f k).symm, by have := h.arm; show sd.arm - 1 ≤ 0; omega⟩
theorem Lined.now_last {n : Nat} {f : Nat → ByteArray} {k : Nat} {sd : St} (h : Lined n f (k + 1) sd) : sd.now k = f k := by
  unfold St.now
  rw [h.later, enumF_snoc]
  unfold nowAt
  rw [List.foldl_append]
  simp
theorem Lined.crashed {n : Nat} {f : Nat → ByteArray} {k : Nat} {sd : St} (h : Lined n f k sd) (hk : k ≤ n) (mask : Nat) (torn cut : Int) (i : Nat) (hi : i < k) : (sd.crashed mask torn cut).now i = pickB mask torn (cutC cut) i (f i) (zerosB 128) := by
  show nowAt [] i ((lasting mask torn (cutC cut) 0 sd.later sd.safe).getD i ByteArray.empty) = _
  rw [h.later, h.safe]
  show (lasting mask torn (cutC cut) 0 (enumF f 0 k) _).getD i ByteArray.empty = _
  rw [lasting_enum f mask torn (cutC cut) i k 0 _ (by rw [List.length_replicate]; omega), if_pos (by omega)]
  congr 1
  rw [List.getD_eq_getElem?_getD, List.getElem?_replicate, if_pos (by omega)]; rfl
theorem Lined.new (sectors : Int) (h0 : 0 ≤ sectors) (h1 : sectors ≤ 40) (f : Nat → ByteArray) : Lined sectors.toNat f 0 (St.new sectors) :=
  ⟨by unfold St.new; show List.replicate _ _ = _; congr 1; omega, rfl, by simp [St.new]⟩

/-- What is known while sectors are written, and told: j are written, k told. -/
structure Torn1 (Dk : (Nat → Prop) → World → Nat → St → Prop) (w wr : World) (p n : Nat) (f : Nat → ByteArray) (j k : Nat) (v : Value) : Prop where
  ex : ∃ F sd, Dk F wr p sd ∧ sd.OkN j ∧ Lined n f j sd ∧ (∀ j, F j → w.heap.size ≤ j) ∧ ∀ g, v.ownBlock = some g → ¬ F g ∧ w.heap.size ≤ g
  row : wr.ownsRow 0 9 1 v k (rowS ((List.range k).map f))
  below : Below w.heap.size w wr
section
variable {Dk : (Nat → Prop) → World → Nat → St → Prop} {w wr : World} {p n : Nat} {f : Nat → ByteArray} {j k : Nat} {v : Value}
theorem Torn1.later (K : LandedDk Dk) (h : Torn1 Dk w wr p n f j k v) {w2 : World} (hb : Below wr.heap.size wr w2) : Torn1 Dk w w2 p n f j k v := by
  obtain ⟨⟨F, sd, h1, h2, h3, h4, h5⟩, hr, hbl⟩ := h
  exact ⟨⟨F, sd, K.later h1 hb, h2, h3, h4, h5⟩, (Only.of_below (F := fun _ => False) hb).row hr (fun _ _ e => e), hbl.trans (hb.mono hbl.size)⟩
theorem Torn1.write (K : LandedDk Dk) (h : Torn1 Dk w wr p n f j k v) (s : ByteArray) (hj : j < n) (hj2 : j ≤ 900) (hs : s.size ≤ 128) (hf : f j = padB s) :
    Calls Try.prog 17 #[.pointer (some ⟨p, 0, none⟩), .int .i64 ((j : Nat) : Int), .string s] wr fun e W' => (∃ z, e = .returned (.int .i64 z)) ∧ Torn1 Dk w W' p n f (j + 1) k v := by
  obtain ⟨⟨F, sd, h1, h2, h3, h4, h5⟩, hr, hbl⟩ := h
  refine (K.write F wr p sd ((j : Nat) : Int) s h1 (h2.ok (by omega)) (by omega)).mono ?_
  rintro e W' ⟨he, F', k1, k2, k3⟩
  have hsz := hbl.size
  refine ⟨⟨_, he⟩, ⟨F', _, k1, h2.write _ _, h3.write s hj hs hf, fun i hi => ?_, fun g hg => ⟨fun e => (h5 g hg).1 (k3 g (hr.lt g hg).2 e), (h5 g hg).2⟩⟩, k2.row hr (fun g hg => (h5 g hg).1), hbl.trans (k2.to_below hsz h4)⟩
  by_cases e : i < wr.heap.size
  · exact h4 i (k3 i e hi)
  · omega
theorem Torn1.read (K : LandedDk Dk) (h : Torn1 Dk w wr p n f (j + 1) k v) (hj : j < n) (hj2 : j ≤ 900) :
    Calls Try.prog 14 #[.pointer (some ⟨p, 0, none⟩), .int .i64 ((j : Nat) : Int)] wr fun e W' => e = .returned (.tuple #[.string (f j), .int .i64 0]) ∧ Torn1 Dk w W' p n f (j + 1) k v := by
  have h' := h
  obtain ⟨⟨F, sd, h1, h2, h3, h4, h5⟩, hr, hbl⟩ := h'
  rw [← h3.now_last]
  refine (read_in K F wr p sd j h1 (h2.ok (by omega)) (by rw [h3.safe, List.length_replicate]; exact hj)).mono ?_
  rintro e W' ⟨he, hb⟩
  exact ⟨he, h.later K hb⟩
theorem Torn1.push (K : LandedDk Dk) (h : Torn1 Dk w wr p n f j k v) (hk : k ≤ 1000) :
    ∃ g cap w', (Builtin.append_ #[37, 37] 37 #[v, .slice (some ⟨wr.heap.size, 0, none⟩) 1 1]).run Try.prog (wr.alloc (.cells #[.string (f k)] 9)) = .ok (.slice (some ⟨g, 0, none⟩) (k + 1) cap) w' ∧
      Torn1 Dk w w' p n f j (k + 1) (.slice (some ⟨g, 0, none⟩) (k + 1) cap) := by
  obtain ⟨⟨F, sd, h1, h2, h3, h4, h5⟩, hr, hbl⟩ := h
  obtain ⟨g, cap, w', hrun, ho, hgr, hat⟩ := app_one Try.underlying37 str_info rfl (by omega) wr v k _ hr (.string (f k)) rfl (by omega)
  have hO : Only (fun i => v.ownBlock = some i) wr w' := (Only.of_below ((Below.refl _ _).alloc (Nat.le_refl _) _)).trans (Only.of_grown (F := fun i => v.ownBlock = some i) hgr (fun i _ hi => hi)) (fun _ _ e => e)
  refine ⟨g, cap, w', hrun, ⟨F, sd, K.keep _ _ _ _ _ _ h1 hO (fun i hi e => (h5 i e).1 hi), h2, h3, h4, fun i hi => ?_⟩, ?_, hbl.trans (hO.to_below hbl.size (fun i hi => (h5 i hi).2))⟩
  · have hi2 : g = i := by simpa [Value.ownBlock] using hi
    subst hi2
    rcases hat with e | e
    · exact h5 g e
    · exact ⟨fun e2 => by have := K.near _ _ _ _ h1 g e2; omega, by have := hbl.size; omega⟩
  · have e : rowS ((List.range (k + 1)).map f) = rowS ((List.range k).map f) ++ [.string (f k)] := by unfold rowS; rw [List.range_succ, List.map_append, List.map_append]; rfl
    rw [e]; exact ho
end
/-- Behind the crash. -/
structure Torn2 (Dk : (Nat → Prop) → World → Nat → St → Prop) (w wr : World) (p n : Nat) (f : Nat → ByteArray) (m : Nat) (v : Value) (mask : Nat) (torn : Int) (c : Nat) : Prop where
  ex : ∃ F sd, Dk F wr p sd ∧ sd.Ok ∧ sd.safe.length = n ∧ ∀ i, i < m → sd.now i = pickB mask torn c i (f i) (zerosB 128)
  row : wr.ownsRow 0 9 1 v m (rowS ((List.range m).map f))
  below : Below w.heap.size w wr
section
variable {Dk : (Nat → Prop) → World → Nat → St → Prop} {w wr : World} {p n m : Nat} {f : Nat → ByteArray} {v : Value} {mask : Nat} {torn : Int} {c : Nat}
theorem Torn2.later (K : LandedDk Dk) (h : Torn2 Dk w wr p n f m v mask torn c) {w2 : World} (hb : Below wr.heap.size wr w2) : Torn2 Dk w w2 p n f m v mask torn c := by
  obtain ⟨⟨F, sd, h1, h2, h3, h4⟩, hr, hbl⟩ := h
  exact ⟨⟨F, sd, K.later h1 hb, h2, h3, h4⟩, (Only.of_below (F := fun _ => False) hb).row hr (fun _ _ e => e), hbl.trans (hb.mono hbl.size)⟩
theorem Torn1.crash (K : LandedDk Dk) (h : Torn1 Dk w wr p n f m m v) (hm : m ≤ n) (hm2 : m ≤ 900) (mask : Nat) (hmask : mask < 18446744073709551616) (torn cut : Int) :
    Calls Try.prog 15 #[.pointer (some ⟨p, 0, none⟩), .int .u64 ((mask : Nat) : Int), .int .i64 torn, .int .i64 cut] wr fun e W' => e = .returned (.tuple #[]) ∧ Torn2 Dk w W' p n f m v mask torn (cutC cut) := by
  obtain ⟨⟨F, sd, h1, h2, h3, h4, h5⟩, hr, hbl⟩ := h
  refine (K.crash F wr p sd mask torn cut h1 (h2.ok (by omega)) hmask).mono ?_
  rintro e W' ⟨he, F', k1, k2, k3⟩
  refine ⟨he, ⟨F', _, k1, (h2.crashed mask torn cut).ok (by omega), ?_, fun i hi => h3.crashed hm mask torn cut i hi⟩, k2.row hr (fun g hg => (h5 g hg).1), hbl.trans (k2.to_below hbl.size h4)⟩
  show (sd.crash mask torn cut).safe.length = n
  rw [crash_length, h3.safe, List.length_replicate]
theorem Torn2.read (K : LandedDk Dk) (h : Torn2 Dk w wr p n f m v mask torn c) (i : Nat) (hi : i < m) (hm : m ≤ n) :
    Calls Try.prog 14 #[.pointer (some ⟨p, 0, none⟩), .int .i64 ((i : Nat) : Int)] wr fun e W' => e = .returned (.tuple #[.string (pickB mask torn c i (f i) (zerosB 128)), .int .i64 0]) ∧ Torn2 Dk w W' p n f m v mask torn c := by
  have h' := h
  obtain ⟨⟨F, sd, h1, h2, h3, h4⟩, hr, hbl⟩ := h'
  rw [← h4 i hi]
  refine (read_in K F wr p sd i h1 h2 (by omega)).mono ?_
  rintro e W' ⟨he, hb⟩
  exact ⟨he, h.later K hb⟩
end

set_option maxRecDepth 100000 in
set_option maxHeartbeats 4000000 in
theorem platterTorn_any {Dk : (Nat → Prop) → World → Nat → St → Prop} (K : LandedDk Dk) (sectors : Int) (hse : -9223372036854775808 ≤ sectors ∧ sectors ≤ 9223372036854775807)
    (ao : Option Addr) (cap : Nat) (l : List ByteArray) (hlen : l.length ≤ 140737488351232) (mask : Nat) (hmask : mask < 18446744073709551616) (torn cut : Int) (w : World) (hS : StrsAt w ao l) :
    Calls Try.prog 5 #[.int .i64 sectors, .slice ao l.length cap, .int .u64 ((mask : Nat) : Int), .int .i64 torn, .int .i64 cut] w fun e w' => e = .returned (.bool true) ∧ Below w.heap.size w w' := by
  have hal := Lib.hid (platterAlive_any K)
  by_cases hq : 0 ≤ sectors ∧ sectors ≤ 40 ∧ ((l.length : Nat) : Int) ≤ sectors
  · obtain ⟨q1, q2, q3⟩ := hq
    have n1 : decide (sectors < 0) = false := decide_eq_false (by omega)
    have n2 : decide (40 < sectors) = false := decide_eq_false (by omega)
    have n3 : ¬ sectors < ((l.length : Nat) : Int) := by omega
    have hnew := Lib.hid (fun W => K.new sectors W hse.1 hse.2)
    have hst := Lib.hid (fun f => Lined.new sectors q1 q2 f)
    have hok0 := Lib.hid (St.OkN.new sectors)
    obtain ⟨n, rfl⟩ := Int.eq_ofNat_of_zero_le q1
    have hlt0 : l.length ≤ n := by omega
    have hn40 : n ≤ 40 := by omega
    rw [Int.toNat_natCast] at hst
    replace q1 := Lib.hid q1
    have hcut := Lib.hid (cutC_int cut)
    have hcl := cutC_le cut
    have hpb := Lib.hid pblank_any
    have hpbq := Lib.hid (fun W d os => Calls.regrown_of (w := W) (d := d) (os := os) (pblank_any (grow (redrawn W d) os)))
    go_enter Try.func5, Try.ntmps5
    go_wp2_with fail
    refine (hal.out _).mono ?_
    rintro e w1 ⟨rfl, hb1⟩
    go_wp2_with fail
    refine (hnew.out _).mono ?_
    rintro e w2 ⟨p, F, rfl, hD, hF, hb2⟩
    have z1 := hb1.size
    have hT0 : Torn1 Dk w w2 p n (fun i => padB (l.getD i ByteArray.empty)) 0 0 (.slice none 0 0) := ⟨⟨F, _, hD, hok0.out, hst.out _, fun j hj => by have := hF j hj; omega, fun g hg => by simp [Value.ownBlock] at hg⟩, World.ownsRow_nil _ _ _ _, hb1.trans (hb2.mono hb1.size)⟩
    clear hb1 hb2 hD hF z1 hnew hst hok0 hal
    go_wp2_with fail
    go_loopw [12, 42] (fun nv ix wr => ∃ k : Nat, k ≤ l.length ∧ ix = .int .i64 k ∧ Torn1 Dk w wr p n (fun i => padB (l.getD i ByteArray.empty)) k k nv) (fun _ ix _ => (l.length - intOf ix).toNat)
    case atStart => exact ⟨0, by omega, rfl, hT0⟩
    case round =>
      clear hT0
      rename_i nv _ _
      obtain ⟨k, hk, rfl, hT⟩ := hrel
      by_cases hlt : k < l.length
      · obtain ⟨b, off, rfl, hbl, hc⟩ := (hS.below hT.below (Nat.le_refl _)).spot k hlt
        have hgd : l.getD k ByteArray.empty = l[k] := by rw [List.getD_eq_getElem?_getD, List.getElem?_eq_getElem hlt]; rfl
        by_cases hs : l[k].size ≤ 128
        · have hs2 : ¬ (128 : Int) < ((l[k].size : Nat) : Int) := by omega
          have hWr := Lib.hid (hT.write K l[k] (by omega) (by omega) hs (by show padB _ = _; rw [hgd]))
          have hRd := Lib.hid (fun W v (h : Torn1 Dk w W p n (fun i => padB (l.getD i ByteArray.empty)) (k + 1) k v) => Torn1.read K h (by omega) (by omega))
          rw [hgd] at hRd
          have hPu := Lib.hid (fun W v (h : Torn1 Dk w W p n (fun i => padB (l.getD i ByteArray.empty)) (k + 1) k v) => Torn1.push K h (by omega))
          rw [hgd] at hPu
          clear hgd hT
          generalize l[k] = t at *
          go_wp2_with fail
          refine hWr.out.mono ?_
          rintro e w3 ⟨⟨zz, rfl⟩, hT3⟩
          go_wp2_with fail
          refine (hRd.out _ _ hT3).mono ?_
          rintro e w4 ⟨rfl, hT4⟩
          obtain ⟨g, cap2, w5, hrun, hT5⟩ := hPu.out _ _ hT4
          go_wp2_with (at_builtin; refine Lib.wpList_append_run _ rfl _ _ _ _ rfl _ _ rfl rfl _ _ hrun ?_)
          exact ⟨⟨k + 1, by omega, by go_num, hT5⟩, by simp [intOf]; omega⟩
        · have hs2 : (128 : Int) < ((l[k].size : Nat) : Int) := by omega
          have hb := hT.below
          clear hgd hT
          generalize l[k] = t at *
          go_wp2
          go_ret
          exact ⟨rfl, hb⟩
      · obtain rfl : k = l.length := by omega
        have hCr := Lib.hid (hT.crash K hlt0 (by omega) mask hmask torn cut)
        clear hT
        go_wp2_with fail
        refine hCr.out.mono ?_
        rintro e w3 ⟨rfl, hT3⟩
        clear hCr
        go_wp2_with fail
        rw [hcut.out]
        generalize cutC cut = c at *
        obtain ⟨ao2, k2, rfl, -⟩ := row_slice hT3.row
        go_loopw [75] (fun ix wr => ∃ k : Nat, k ≤ l.length ∧ ix = .int .i64 k ∧ Torn2 Dk w wr p n (fun i => padB (l.getD i ByteArray.empty)) l.length (.slice ao2 l.length k2) mask torn c) (fun ix _ => (l.length - intOf ix).toNat)
        case atStart => exact ⟨0, by omega, rfl, hT3⟩
        case round =>
          clear hT3
          obtain ⟨k, hk, rfl, hT⟩ := hrel
          by_cases hkl : k < l.length
          · have hRd := Lib.hid (Torn2.read K hT k hkl hlt0)
            go_wp2_with fail
            refine hRd.out.mono ?_
            rintro e w4 ⟨rfl, hT4⟩
            clear hRd hT
            obtain ⟨ao3, _, e1, at1⟩ := row_slice hT4.row
            obtain ⟨rfl, -⟩ := (by simpa using e1 : ao2 = ao3 ∧ k2 = _)
            obtain ⟨g1, x1, rfl, l1, y1, z1, -⟩ := at1 k hkl
            have hx1 : x1 = .string (padB (l.getD k ByteArray.empty)) := by
              unfold rowS at y1
              rw [List.getElem?_map, List.getElem?_map, List.getElem?_range hkl] at y1
              exact (Option.some.inj y1).symm
            subst hx1
            clear y1 at1 e1
            have hx := padB_ge (l.getD k ByteArray.empty)
            generalize padB (l.getD k ByteArray.empty) = x at *
            have hz := zerosB_size 128
            have hbl := hT4.below
            have hcell : ∀ W, Below w4.heap.size w4 W → W.cell? ⟨g1, k, none⟩ = some (.string x) := fun W hW => (hW.cell (p := ⟨g1, k, none⟩) l1).trans z1
            have hlat := Lib.hid (fun W (hW : Below w4.heap.size w4 W) => hT4.later K hW)
            replace hcell := Lib.hid hcell
            clear hT4
            generalize hsv : pickB mask torn c k x (zerosB 128) = s
            generalize zerosB 128 = z at *
            unfold pickB at hsv
            have gxx : (x.toList == x.toList) = true := BEq.rfl
            by_cases ht : ((k : Nat) : Int) = torn
            · rw [if_pos ht] at hsv
              have hb : (((k : Nat) : Int) == torn) = true := by rw [beq_iff_eq]; exact ht
              have s1 := str_to' x c (by omega)
              have s2 := str_from' z c (128 - c) (by omega)
              rw [show c + (128 - c) = 128 by omega] at s2
              have gs : ((x.extract 0 c ++ z.extract c 128).toList == s.toList) = true := by rw [hsv]; exact BEq.rfl
              have gs2 : (s.toList == (x.extract 0 c ++ z.extract c 128).toList) = true := by rw [hsv]; exact BEq.rfl
              have hq1 : (x.extract 0 c).size + (z.extract c 128).size ≤ 9223372036854775807 := by rw [ByteArray.size_extract, ByteArray.size_extract]; omega
              have hq2 : ((x.extract 0 c).size : Int) + ((z.extract c 128).size : Int) ≤ 9223372036854775807 := by omega
              have hq3 : ((x.extract 0 c).size : Int) ≤ 8388608 := by rw [ByteArray.size_extract]; omega
              have hq4 : ((z.extract c 128).size : Int) ≤ 8388608 := by rw [ByteArray.size_extract]; omega
              have hq5 := fun W => run_string_add (P := Try.prog) (w := W) _ _ hq3 hq4
              replace hsv := Lib.hid hsv
              replace ht := Lib.hid ht
              go_wp2_with fail
              refine (hpb.out _).mono ?_
              rintro e w5 ⟨rfl, hb5⟩
              go_wp2
              have c1 := hcell.out _ hb5
              have c2 := cell_regrown c1
              refine wp_region_quiet_below (by kernel_rfl) (by kernel_rfl) ?_
              repeat (quiet_step (with_reducible exact hpbq.out _ _ _))
              refine wpQuiet_nil ?_
              intro w6 hw'
              obtain ⟨pq, hw''⟩ := hw'
              have hb6 : Below w5.heap.size w5 w6 := by rw [hw'']; exact below_regrown _ _ _
              have hT6 := hlat.out _ (hb5.trans (hb6.mono hb5.size))
              clear hw'' c1 c2 s1 s2 hcell hlat
              go_wp2
              exact ⟨⟨k + 1, by omega, by go_num, hT6⟩, by simp [intOf]; omega⟩
            · rw [if_neg ht] at hsv
              have hb : (((k : Nat) : Int) == torn) = false := by rw [beq_eq_false_iff_ne]; exact ht
              have hfin : ∀ W : World, Below w4.heap.size w4 W → ∃ j : Nat, j ≤ l.length ∧ Value.int .i64 (((k : Nat) : Int) + 1) = .int .i64 ((j : Nat) : Int) ∧ Torn2 Dk w W p n (fun i => padB (l.getD i ByteArray.empty)) l.length (.slice (some ⟨g1, 0, none⟩) l.length k2) mask torn c := fun W hW => ⟨k + 1, by omega, by go_num, hlat.out _ hW⟩
              replace ht := Lib.hid ht
              replace hfin := Lib.hid hfin
              clear hlat hcell
              by_cases hsx : s = x
              · clear hsv
                subst hsx
                go_wp2_with fail
                refine (hpb.out _).mono ?_
                rintro e w5 ⟨rfl, hb5⟩
                go_wp2
                go_quiet (fail)
                go_wp2
                exact ⟨hfin.out _ (below_drewN hb5 _), by simp [intOf]; omega⟩
              · have hsz : s = z := by
                  split at hsv
                  · exact absurd hsv.symm hsx
                  · exact hsv.symm
                subst hsz
                have gsx : (s.toList == x.toList) = false := by rw [Bool.eq_false_iff]; exact fun e => hsx ((text_beq _ _).1 e)
                have gss : (s.toList == s.toList) = true := BEq.rfl
                go_wp2_with fail
                refine (hpb.out _).mono ?_
                rintro e w5 ⟨rfl, hb5⟩
                go_wp2
                go_quiet (fail)
                go_wp2
                exact ⟨hfin.out _ (below_drewN hb5 _), by simp [intOf]; omega⟩
          · obtain rfl : k = l.length := by omega
            have hb := hT.below
            clear hT
            go_wp2
            go_ret
            exact ⟨rfl, hb⟩
  · by_cases h0 : 0 ≤ sectors
    · have n1 : decide (sectors < 0) = false := decide_eq_false (by omega)
      have n1' : ¬ sectors < 0 := by omega
      by_cases h40 : sectors ≤ 40
      · have n2 : decide (40 < sectors) = false := decide_eq_false (by omega)
        have n2' : ¬ (40 : Int) < sectors := by omega
        have n3 : sectors < ((l.length : Nat) : Int) := by omega
        have n3' : decide (sectors < ((l.length : Nat) : Int)) = true := decide_eq_true n3
        replace hq := Lib.hid hq
        go_enter Try.func5, Try.ntmps5
        go_wp2_with fail
        refine (hal.out _).mono ?_
        rintro e w1 ⟨rfl, hb1⟩
        go_wp2
        go_ret
        exact ⟨rfl, hb1⟩
      · have n2 : decide (40 < sectors) = true := decide_eq_true (by omega)
        have n2' : (40 : Int) < sectors := by omega
        replace hq := Lib.hid hq
        go_enter Try.func5, Try.ntmps5
        go_wp2_with fail
        refine (hal.out _).mono ?_
        rintro e w1 ⟨rfl, hb1⟩
        go_wp2
        go_ret
        exact ⟨rfl, hb1⟩
    · have n1 : decide (sectors < 0) = true := decide_eq_true (by omega)
      have n1' : sectors < 0 := by omega
      replace hq := Lib.hid hq
      go_enter Try.func5, Try.ntmps5
      go_wp2_with fail
      refine (hal.out _).mono ?_
      rintro e w1 ⟨rfl, hb1⟩
      go_wp2
      go_ret
      exact ⟨rfl, hb1⟩
end Go.Proofs.Ythmcdldmmhnleaa
