/- The document's disk: made, read, and one that is behind a write. No condition but sizes. -/
import Derived.Test.YthmcdldmmhnleaaPr
import Derived.Test.YthmcdldmmhnleaaStep
namespace Go.Proofs.Ythmcdldmmhnleaa
open Go.RowKit

/-- What a call that makes one answers. -/
def MadePost (F : Nat → Prop) (m : Nat) (st : St) (W W' : World) : Prop := RefIs F W' m st ∧ (∀ k, F k → W.heap.size ≤ k) ∧ Below W.heap.size W W'
def RefMade (st : St) (W : World) (e : Ending) (W' : World) : Prop := ∃ m F, e = .returned (.pointer (some ⟨m, 0, none⟩)) ∧ MadePost F m st W W'

/-- What is known while sectors are laid. -/
structure Making (w wr : World) (k : Nat) : Prop where
  ex : ∃ vs, RefV wr w.heap.size (List.replicate k (zerosB 128)) [] [] 0 0 vs (.slice none 0 0) (.slice none 0 0) ∧ ∀ j, vs.ownBlock = some j → w.heap.size ≤ j
  below : Below w.heap.size w wr

set_option maxRecDepth 100000 in
set_option maxHeartbeats 1000000 in
theorem refnew_any (n : Int) (w : World) :
    Calls Try.prog 11 #[.int .i64 n] w (RefMade (St.new n) w) := by
  have hbl := Lib.hid refblank_any
  have hcnt := Lib.hid (show ∀ k : Nat, ¬ (((k : Nat) : Int) < n ∧ ((k : Nat) : Int) < 4096) → ((k : Nat) : Int) ≤ max n 0 → ((k : Nat) : Int) ≤ 4096 → (min (max n 0) 4096).toNat = k from fun k h1 h2 h3 => by omega)
  go_enter Try.func11, Try.ntmps11
  go_wp2_with fail
  refine (hbl.out _).mono ?_
  rintro e w1 ⟨rfl, rfl⟩
  go_wp2_with fail
  go_loopw [5] (fun i wr => ∃ k : Nat, i = .int .i64 k ∧ ((k : Nat) : Int) ≤ max n 0 ∧ ((k : Nat) : Int) ≤ 4096 ∧ Making w wr k) (fun i _ => (4096 - intOf i).toNat)
  case atStart =>
    refine ⟨0, rfl, by omega, by omega, ⟨⟨.slice none 0 0, ?_, fun j hj => by simp [Value.ownBlock] at hj⟩, (Below.refl _ _).alloc (Nat.le_refl _) _⟩⟩
    exact ⟨by simp [go_sem], by simp [go_sem], by simp [go_sem], by simp [go_sem], by simp [go_sem], fun j => by simp [go_sem], by simp, World.ownsRow_nil _ _ _ _, World.ownsRow_nil _ _ _ _, World.ownsRow_nil _ _ _ _,
      by simp [Value.ownBlock], by simp [Value.ownBlock], by simp [Value.ownBlock], fun k hk => by simp [Value.ownBlock] at hk, fun k hk => by simp [Value.ownBlock] at hk, fun k hk => by simp [Value.ownBlock] at hk⟩
  case round =>
    obtain ⟨k, rfl, hk1, hk2, ⟨⟨vs, hV, hvs⟩, hb⟩⟩ := hrel
    by_cases hlt : ((k : Nat) : Int) < n ∧ ((k : Nat) : Int) < 4096
    · obtain ⟨h1, h2⟩ := hlt
      have d2 : decide (((k : Nat) : Int) < 4096) = true := decide_eq_true h2
      have hr := hV.o0
      rw [List.length_replicate] at hr
      obtain ⟨g, cap, w', hrun, ho, hgr, hat⟩ := app_one Try.underlying37 str_info rfl (by omega) wr vs k _ hr (.string (zerosB 128)) rfl (by omega)
      have hO : Only (fun j => vs.ownBlock = some j) wr w' := (Only.of_below ((Below.refl _ _).alloc (Nat.le_refl _) _)).trans (Only.of_grown (F := fun j => vs.ownBlock = some j) hgr (fun j _ hj => hj)) (fun _ _ e => e)
      have hV2 := hV.row0 (l := List.replicate (k + 1) (zerosB 128)) hO (by
        rw [List.length_replicate]
        have e : rowS (List.replicate (k + 1) (zerosB 128)) = rowS (List.replicate k (zerosB 128)) ++ [.string (zerosB 128)] := by unfold rowS; rw [List.replicate_succ', List.map_append]; rfl
        rw [e]; exact ho) (fun j hj => by
        have hj2 : g = j := by simpa [Value.ownBlock] using hj
        subst hj2
        rcases hat with e | e
        · left; exact e
        · right; omega)
      have hvs2 : ∀ j, (Value.slice (some ⟨g, 0, none⟩) (k + 1) cap).ownBlock = some j → w.heap.size ≤ j := fun j hj => by
        have hj2 : g = j := by simpa [Value.ownBlock] using hj
        subst hj2
        rcases hat with e | e
        · exact hvs g e
        · have := hb.size; omega
      have hb2 : Below w.heap.size w (w'.setCell ⟨w.heap.size, 0, none⟩ (.slice (some ⟨g, 0, none⟩) (k + 1) cap)) := (hb.trans (hO.to_below hb.size hvs)).setCell (Nat.le_refl _) _
      have c0 := hV.c0
      have c0' : w'.cell? ⟨w.heap.size, 0, none⟩ = some vs := by rw [hO.cell (p := ⟨w.heap.size, 0, none⟩) hV.lt hV.d0]; exact c0
      have f0' : w'.frozen? ⟨w.heap.size, 0, none⟩ = false := by rw [hO.frozen (p := ⟨w.heap.size, 0, none⟩) hV.lt hV.d0]; exact hV.fz 0
      have hlt0 := hV.lt
      have hM := Lib.hid (show Making w (w'.setCell ⟨w.heap.size, 0, none⟩ (.slice (some ⟨g, 0, none⟩) (k + 1) cap)) (k + 1) from ⟨⟨_, hV2, hvs2⟩, hb2⟩)
      clear hV hV2 hO hgr hr ho hat hb hb2 hvs hvs2
      go_wp2_with (at_builtin; refine Lib.wpList_append_run _ rfl _ _ _ _ rfl _ _ rfl rfl _ _ hrun ?_)
      exact ⟨⟨k + 1, by go_num, by omega, by omega, hM.out⟩, by simp [intOf]; omega⟩
    · have hfin := hcnt.out k hlt hk1 hk2
      have hst := Lib.hid (show St.new n = ⟨List.replicate k (zerosB 128), [], 0, 0⟩ by unfold St.new; rw [hfin])
      have hM : RefMade (St.new n) w (.returned (.pointer (some ⟨w.heap.size, 0, none⟩))) wr := by
        rw [hst.out]
        refine ⟨w.heap.size, foot w.heap.size vs (.slice none 0 0) (.slice none 0 0), rfl, ⟨vs, _, _, hV, fun _ => Iff.rfl⟩, fun j hj => ?_, hb⟩
        rcases hj with rfl | hj | hj | hj
        · exact Nat.le_refl _
        · exact hvs j hj
        · simp [Value.ownBlock] at hj
        · simp [Value.ownBlock] at hj
      have hM2 := Lib.hid hM
      clear hM hV hvs hfin
      have hq : ¬ ((k : Nat) : Int) < n ∨ (((k : Nat) : Int) < n ∧ ¬ ((k : Nat) : Int) < 4096) := by omega
      clear hlt
      rcases hq with h | ⟨h, h'⟩
      · go_wp2
        go_ret
        exact hM2.out
      · have d2 : decide (((k : Nat) : Int) < 4096) = false := decide_eq_false h'
        go_wp2
        go_ret
        exact hM2.out

/-- A row, as a slice whose elements can be read. -/
theorem nowAt_succ (l : List (Nat × ByteArray)) (i k : Nat) (s : ByteArray) (h : k < l.length) : nowAt (l.take (k + 1)) i s = if l[k].1 = i then l[k].2 else nowAt (l.take k) i s := by
  unfold nowAt
  rw [List.take_succ_eq_append_getElem h, List.foldl_append]
  rfl

set_option maxRecDepth 100000 in
set_option maxHeartbeats 1000000 in
theorem refnow_any (F : Nat → Prop) (W : World) (m : Nat) (st : St) (h : RefIs F W m st) (hok : st.Ok) (i : Nat) (hi : i < st.safe.length) :
    Calls Try.prog 28 #[.pointer (some ⟨m, 0, none⟩), .int .i64 ((i : Nat) : Int)] W fun e W' => e = .returned (.string (st.now i)) ∧ W = W' := by
  obtain ⟨vs, va, vd, hV, hF⟩ := h
  have c0 := hV.c0
  have c1 := hV.c1
  have c2 := hV.c2
  obtain ⟨ao0, k0, rfl, at0⟩ := row_slice hV.o0
  obtain ⟨ao1, k1, rfl, at1⟩ := row_slice hV.o1
  obtain ⟨ao2, k2, rfl, at2⟩ := row_slice hV.o2
  have hlt := hV.lt
  obtain ⟨g0, x0, rfl, l0, y0, z0, -⟩ := at0 i (by simpa [rowS] using hi)
  have hx0 : x0 = .string (st.safe.getD i ByteArray.empty) := by
    unfold rowS at y0
    rw [List.getElem?_map, List.getElem?_eq_getElem hi] at y0
    rw [List.getD_eq_getElem?_getD, List.getElem?_eq_getElem hi]
    exact (Option.some.inj y0).symm
  subst hx0
  have hfew := hok.few
  have hmany := hok.many
  have hnow := Lib.hid (show st.now i = nowAt st.later i (st.safe.getD i ByteArray.empty) from rfl)
  clear hV at0 y0 hF hok
  generalize st.safe.getD i ByteArray.empty = s0 at *
  generalize hLl : st.later = L at *
  rw [List.length_map] at c1 c2 at1 at2
  clear hLl
  go_enter Try.func28, Try.ntmps28
  go_wp2
  go_loopw [5, 20] (fun s j wr => ∃ k : Nat, k ≤ L.length ∧ j = .int .i64 k ∧ s = .string (nowAt (L.take k) i s0) ∧ W = wr) (fun _ j _ => (L.length - intOf j).toNat)
  case atStart => exact ⟨0, by omega, rfl, rfl, rfl⟩
  case round =>
    obtain ⟨k, hk, rfl, rfl, rfl⟩ := hrel
    by_cases hlt2 : k < L.length
    · obtain ⟨g1, x1, rfl, l1, y1, z1, -⟩ := at1 k hlt2
      obtain ⟨g2, x2, rfl, l2, y2, z2, -⟩ := at2 k hlt2
      have hx1 : x1 = .int .i64 ((L[k].1 : Nat) : Int) := by
        unfold rowI at y1
        rw [List.map_map, List.getElem?_map, List.getElem?_eq_getElem hlt2] at y1
        exact (Option.some.inj y1).symm
      have hx2 : x2 = .string L[k].2 := by
        unfold rowS at y2
        rw [List.map_map, List.getElem?_map, List.getElem?_eq_getElem hlt2] at y2
        exact (Option.some.inj y2).symm
      subst hx1 hx2
      have hn := Lib.hid (nowAt_succ L i k s0 hlt2)
      clear y1 y2 at1 at2
      generalize nowAt (L.take k) i s0 = cur at *
      generalize L[k] = p at *
      obtain ⟨pi, pd⟩ := p
      dsimp only at z1 z2 hn
      by_cases he : pi = i
      · subst he
        go_wp2
        exact ⟨⟨k + 1, by omega, by go_num, by rw [hn.out, if_pos rfl], trivial⟩, by simp [intOf]; omega⟩
      · have hb : (((pi : Nat) : Int) == ((i : Nat) : Int)) = false := by rw [beq_eq_false_iff_ne]; omega
        go_wp2
        exact ⟨⟨k + 1, by omega, by go_num, by rw [hn.out, if_neg he], trivial⟩, by simp [intOf]; omega⟩
    · obtain rfl : k = L.length := by omega
      rw [List.take_length]
      go_wp2
      go_ret
      exact ⟨by rw [hnow.out]; rfl, rfl⟩
end Go.Proofs.Ythmcdldmmhnleaa
