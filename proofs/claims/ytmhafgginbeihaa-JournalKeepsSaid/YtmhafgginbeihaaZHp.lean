/- Stage 6: a record read: what its first sector tells, and what is taken. Plain: no program, no condition. -/
import Derived.Test.YtmhafgginbeihaaZGc
import Derived.Test.YtmhafgginbeihaaZJb
namespace Go.Proofs.Ytmhafgginbeihaa
open Go Go.RowKit Cr Wm

theorem valL_inj : ∀ (l l' : List Nat), l.length = l'.length → (∀ b ∈ l, b < 256) → (∀ b ∈ l', b < 256) → valL l = valL l' → l = l'
  | [], [], _, _, _, _ => rfl
  | [], b :: r, h, _, _, _ => by simp at h
  | b :: r, [], h, _, _, _ => by simp at h
  | a :: r, b :: r', h, h1, h2, e => by
    have a1 := h1 a (List.mem_cons_self ..)
    have b1 := h2 b (List.mem_cons_self ..)
    have e' : a + 256 * valL r = b + 256 * valL r' := e
    rw [List.length_cons, List.length_cons] at h
    have := valL_inj r r' (by omega) (fun x hx => h1 x (List.mem_cons_of_mem _ hx)) (fun x hx => h2 x (List.mem_cons_of_mem _ hx)) (by omega)
    rw [this, show a = b by omega]
theorem bytesN_same {s t : ByteArray} (h : bytesN s = bytesN t) : s = t := by
  unfold bytesN at h
  apply ByteArray.ext
  apply Array.toList_inj.mp
  exact (List.map_inj_right (fun a b e => UInt8.toNat_inj.mp e)).mp h
theorem intB_back (size : Int) (k : Nat) (hk : sizeK size = k) (h8 : k ≤ 8) {b : ByteArray} (h : b.size = k) : intB size (backZ b) = b := by
  apply bytesN_same
  refine valL_inj _ _ (by rw [bytesN_length, bytesN_length, intB_size, hk, h]) (bytesN_lt _) (bytesN_lt _) ?_
  unfold intB
  rw [valL_textP, hk]
  have hl := valL_lt (bytesN b) (bytesN_lt b)
  rw [bytesN_length, h] at hl
  have hp : (256 : Nat) ^ k ≤ 256 ^ 8 := Nat.pow_le_pow_right (by decide) h8
  have e : u64N (backZ b) = valL (bytesN b) := by
    unfold u64N backZ wrap64
    generalize valL (bytesN b) = v at *
    generalize (256 : Nat) ^ k = q at *
    rw [show (256 : Nat) ^ 8 = 18446744073709551616 from rfl] at hp
    omega
  rw [e]
  exact Nat.mod_eq_of_lt hl
/-- What a leaf's first bytes tell. -/
def headQ (D : ByteArray) : Int := backZ (rdPart (some D) 8)
def headN (D : ByteArray) : Int := backZ (rdPart (rdNext (some D) 8) 4)
theorem headQ_range (D : ByteArray) : -9223372036854775808 ≤ headQ D ∧ headQ D ≤ 9223372036854775807 := backZ_range _
theorem headN_range (D : ByteArray) : -9223372036854775808 ≤ headN D ∧ headN D ≤ 9223372036854775807 := backZ_range _
theorem head_cut {D : ByteArray} (h : 12 ≤ D.size) : headQ D = backZ (D.extract 0 8) ∧ headN D = backZ (D.extract 8 12) := by
  have e1 : rdPart (some D) 8 = D.extract 0 8 := by
    unfold rdPart
    dsimp only
    rw [if_pos ⟨by omega, by omega⟩]; rfl
  have e2 : rdNext (some D) 8 = some (D.extract 8 D.size) := by
    unfold rdNext
    dsimp only
    rw [if_pos ⟨by omega, by omega⟩]; rfl
  have e3 : rdPart (some (D.extract 8 D.size)) 4 = D.extract 8 12 := by
    unfold rdPart
    dsimp only
    rw [if_pos ⟨by omega, by rw [ByteArray.size_extract]; omega⟩, ByteArray.extract_extract]
    congr 1
    show min (8 + 4) D.size = 12
    omega
  unfold headQ headN
  rw [e1, e2, e3]
  exact ⟨rfl, rfl⟩
/-- The leaf that a sector is read as; an empty one, if none. -/
noncomputable def leafN (s : ByteArray) : Int := match leafOf s with | some x => x.1 | none => 0
noncomputable def leafD (s : ByteArray) : ByteArray := match leafOf s with | some x => x.2.2 | none => ⟨#[]⟩
noncomputable def leafI (s : ByteArray) : Int := match leafOf s with | some x => x.2.1 | none => 0
theorem leafV_parts (s : ByteArray) : leafV (leafOf s) = leafA (leafN s) (leafI s) (leafD s) := by
  unfold leafN leafD leafI leafV
  cases leafOf s <;> rfl
theorem leafN_range (s : ByteArray) : 0 ≤ leafN s ∧ leafN s ≤ 1152921504606846976 := by
  unfold leafN
  split
  · rename_i x e
    obtain ⟨N, I, D⟩ := x
    have h := (leafOf_some e).1.n
    exact ⟨Int.le_trans (by decide) h.1, h.2⟩
  · decide
theorem leafD_le (s : ByteArray) : (leafD s).size ≤ 104 := by
  unfold leafD
  split
  · rename_i x e
    obtain ⟨N, I, D⟩ := x
    exact (leafOf_some e).1.d
  · exact Nat.zero_le _
/-- A record that is taken lies there. -/
theorem take_rec {get : Nat → ByteArray} {a u : Nat} {q : Int} {n : Nat} {t : ByteArray} (hq : 0 ≤ q ∧ q ≤ 1152921504606846976) (hn : n ≤ 32768) (hfit : a + cntR n ≤ u)
    (hQ : headQ (leafD (get a)) = q) (hN : headN (leafD (get a)) = ((n : Nat) : Int)) (ht : takeOf (fun i => get (a + i)) (leafN (get a)) (12 + n) = some t) :
    recOf get a u q = some (t.extract 12 t.size) := by
  have hT := takeOf_is ht
  have hp := cntR_pos n
  have hc := cntR_le hn
  have h0 := hT.2 0 (by unfold cntR at hp; omega)
  have hz := hT.1
  simp only [Nat.add_zero] at h0
  have hD : leafD (get a) = partS t 0 := by unfold leafD; rw [h0]
  have hps : (partS t 0).size = min 104 (12 + n) := by rw [partS_size, hz]; omega
  have h12 : 12 ≤ t.size := by omega
  have z8 : (t.extract 0 8).size = 8 := by rw [ByteArray.size_extract]; omega
  have z4 : (t.extract 8 12).size = 4 := by rw [ByteArray.size_extract]; omega
  have hs : (t.extract 12 t.size).size = n := by rw [ByteArray.size_extract]; omega
  have hj := (cut_join t 8 12 (by omega) (by omega))
  obtain ⟨c1, c2⟩ := head_cut (D := leafD (get a)) (by rw [hD, hps]; omega)
  rw [hD] at c1 c2 hQ hN
  rw [hQ, part0_cut t 0 8 h12 (by decide)] at c1
  rw [hN, part0_cut t 8 12 h12 (by decide)] at c2
  have e8 : intB 8 q = t.extract 0 8 := by
    have := intB_back 8 8 rfl (by decide) (b := t.extract 0 8) z8
    rw [← c1] at this
    exact this
  have e4 : intB 4 ((n : Nat) : Int) = t.extract 8 12 := by
    have := intB_back 4 4 rfl (by decide) (b := t.extract 8 12) z4
    rw [← c2] at this
    exact this
  clear c1 c2 hQ hN
  have hf : frameB q (t.extract 12 t.size) = t := by
    unfold frameB
    rw [hs, e8, e4, ← ByteArray.append_assoc, hj, cut_join t 12 t.size h12 (Nat.le_refl _), cut_all t t.size rfl]
  have hok := (leafOf_some h0).1
  refine recOf_some (N := leafN (get a)) ⟨hq, hok.n, by rw [hs]; exact hn, by rw [hs]; exact hfit, fun i hi => ?_⟩
  rw [hs] at hi
  rw [hf]
  exact (leafOf_some (hT.2 i hi)).2.symm
/-- A record that lies there tells its number and its length, and is taken. -/
theorem rec_take {get : Nat → ByteArray} {a u : Nat} {q N : Int} {s : ByteArray} (h : RecAt get a u q N s) :
    headQ (leafD (get a)) = q ∧ headN (leafD (get a)) = ((s.size : Nat) : Int) ∧ takeOf (fun i => get (a + i)) (leafN (get a)) (12 + s.size) = some (frameB q s) := by
  have hp := cntR_pos s.size
  have h0 := h.leaf 0 (by omega)
  have hq := h.num
  have hl := h.len
  have hfs := frameB_size q s
  rw [Nat.add_zero] at h0
  have hD : leafD (get a) = partS (frameB q s) 0 := by unfold leafD; rw [h0]
  have hN : leafN (get a) = N := by unfold leafN; rw [h0]
  have hps : (partS (frameB q s) 0).size = min 104 (12 + s.size) := by rw [partS_size, hfs]; omega
  have h12 : 12 ≤ (frameB q s).size := by omega
  obtain ⟨c1, c2⟩ := head_cut (D := leafD (get a)) (by rw [hD, hps]; omega)
  rw [c1, c2, hD, hN, part0_cut (frameB q s) 0 8 h12 (by decide), part0_cut (frameB q s) 8 12 h12 (by decide), frame_seq, frame_len]
  refine ⟨backZ_int8 hq.1 h.top, ?_, takeOf_some ⟨hfs, fun i hi => h.leaf i hi⟩⟩
  unfold backZ intB
  rw [show sizeK 4 = 4 from rfl, valL_textP]
  unfold u64N
  rw [show (256 : Nat) ^ 4 = 4294967296 from rfl, Int.emod_eq_of_lt (by omega) (by omega), Nat.mod_eq_of_lt (by omega)]
  unfold wrap64
  omega
/-- The record at the next place. -/
noncomputable def nextJ (st : St) (js : JSt) : Option ByteArray := recOf st.now js.spot js.upto (js.seq + 1)
/-- May it be one, by what its first sector tells? -/
noncomputable def mayJ (st : St) (js : JSt) : Prop := headQ (leafD (st.now js.spot)) = js.seq + 1 ∧ js.seq < 1152921504606846976 ∧ js.room (headN (leafD (st.now js.spot))) = true
theorem room_iff (js : JSt) (n : Int) : js.room n = true ↔ 0 ≤ n ∧ n ≤ 32768 ∧ js.spot + cntR n.toNat ≤ js.upto := by
  unfold JSt.room
  simp only [Bool.and_eq_true, decide_eq_true_eq]
  omega
theorem next_not {st : St} {js : JSt} (h : ¬ mayJ st js) : nextJ st js = none := by
  refine recOf_none (fun N s hr => h ?_)
  obtain ⟨h1, h2, _⟩ := rec_take hr
  have hn := hr.num.2
  refine ⟨h1, by omega, (room_iff _ _).2 ?_⟩
  rw [h2, Int.toNat_natCast]
  have := hr.len
  exact ⟨by omega, by omega, hr.fit⟩
theorem next_take {st : St} {js : JSt} (h : mayJ st js) (h0 : 0 ≤ js.seq) : nextJ st js = (takeOf (fun i => st.now (js.spot + i)) (leafN (st.now js.spot)) (12 + (headN (leafD (st.now js.spot))).toNat)).map (fun t => t.extract 12 t.size) := by
  obtain ⟨h1, h2, h3⟩ := h
  obtain ⟨n0, n1, n2⟩ := (room_iff _ _).1 h3
  obtain ⟨n, hn⟩ := Int.eq_ofNat_of_zero_le n0
  rw [hn] at n1 n2
  rw [Int.toNat_natCast] at n2
  rw [hn, Int.toNat_natCast]
  cases e : takeOf (fun i => st.now (js.spot + i)) (leafN (st.now js.spot)) (12 + n) with
  | some t => exact take_rec ⟨by omega, by omega⟩ (by omega) n2 h1 hn e
  | none =>
    refine recOf_none (fun N s hr => ?_)
    obtain ⟨_, k2, k3⟩ := rec_take hr
    rw [hn] at k2
    rw [show s.size = n by omega, e] at k3
    cases k3
end Go.Proofs.Ytmhafgginbeihaa
