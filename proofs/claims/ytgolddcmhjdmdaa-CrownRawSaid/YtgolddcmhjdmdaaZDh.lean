/- The landed disk: what a crash makes of its rows. No condition but sizes. -/
import Derived.Test.YtgolddcmhjdmdaaZDg
import Derived.Laws.Bits64b
namespace Go.Proofs.Ytgolddcmhjdmdaa
open Go.RowKit

theorem cellsB_extract (s : ByteArray) (i j : Nat) : cellsB (s.extract i j) = ((cellsB s).drop i).take (j - i) := by
  unfold cellsB
  rw [ByteArray.data_extract, Array.toList_extract, List.extract_eq_take_drop, List.map_take, List.map_drop]
/-- The first bytes of one, the last ones of another one. -/
def mixS (x s : ByteArray) (c : Nat) : ByteArray := x.extract 0 c ++ s.extract c 128
theorem mixS_size (x s : ByteArray) (c : Nat) (hx : x.size = 128) (hs : s.size = 128) (hc : c ≤ 128) : (mixS x s c).size = 128 := by
  unfold mixS
  rw [ByteArray.size_append, ByteArray.size_extract, ByteArray.size_extract]
  omega
theorem mixS_at (x s : ByteArray) (c : Nat) (hx : x.size = 128) (hs : s.size = 128) (hc : c ≤ 128) (j : Nat) : (cellsB (mixS x s c))[j]? = if j < c then (cellsB x)[j]? else (cellsB s)[j]? := by
  unfold mixS
  have hxl := cellsB_length x
  have hsl := cellsB_length s
  rw [cellsB_append, cellsB_extract, cellsB_extract, List.drop_zero, Nat.sub_zero]
  have e : (List.take c (cellsB x)).length = c := by rw [List.length_take]; omega
  by_cases h : j < c
  · rw [if_pos h, List.getElem?_append_left (by omega), List.getElem?_take, if_pos h]
  · rw [if_neg h, List.getElem?_append_right (by omega), e, List.getElem?_take, List.getElem?_drop, show c + (j - c) = j by omega]
    by_cases h2 : j < 128
    · rw [if_pos (by omega)]
    · rw [if_neg (by omega), List.getElem?_eq_none (by omega)]
theorem Secs.part {W : World} {a : Nat} {l : List ByteArray} (h : Secs W a l) (i : Nat) (s : ByteArray) (hi : l[i]? = some s) (x : ByteArray) (hx : x.size = 128) (c : Nat) (hc : c ≤ 128) :
    Secs (W.setCells a (i * 128) ((cellsB x).take c)) a (l.set i (mixS x s c)) := by
  have hil : i < l.length := (List.getElem?_eq_some_iff.1 hi).1
  have hs := h.size _ (List.mem_of_getElem? hi)
  have hlen : ((cellsB x).take c).length = c := by rw [List.length_take, cellsB_length]; omega
  refine ⟨fun k u hk => ?_, fun j => by rw [World.frozen?_setCells]; exact h.fz j, by rw [size_setCellsD]; exact h.lt, fun u hu => ?_⟩
  · by_cases e : k = i
    · subst e
      rw [List.getElem?_set_self hil] at hk
      obtain rfl := Option.some.inj hk
      intro j v hv
      rw [mixS_at x s c hx hs hc] at hv
      by_cases hj : j < c
      · rw [if_pos hj] at hv
        have hj2 : j < ((cellsB x).take c).length := by omega
        rw [World.cell?_setCells_in a _ (k * 128) W (fun m hm => (h.there k hil m (by omega)).1) j hj2, List.getElem_take]
        rw [← hv, List.getElem?_eq_getElem (by rw [cellsB_length]; omega)]
      · rw [if_neg hj] at hv
        rw [World.cell?_setCells_out a _ (k * 128) W ⟨a, k * 128 + j, none⟩ (fun _ _ => .inr (by rw [hlen]; show k * 128 + c ≤ k * 128 + j; omega))]
        exact h.lay k s hi j v hv
    · rw [List.getElem?_set_ne (fun e2 => e e2.symm)] at hk
      have hz := h.size _ (List.mem_of_getElem? hk)
      refine World.rangeAt_setCells_apart (h.lay k u hk) _ _ _ ?_
      rw [cellsB_length, hlen, hz]
      right
      omega
  · rcases List.mem_or_eq_of_mem_set hu with hu | hu
    · exact h.size u hu
    · rw [hu]; exact mixS_size x s c hx hs hc
section
variable {W W' : World} {p a b n : Nat} {v : Value} {safe now : List ByteArray} {later : List (Nat × ByteArray)} {armed ops : Int}
theorem DkV.some0 (h : DkV W p a b v n safe now later armed ops) (o : Nat) (vs : List Value) (l : List ByteArray) (hs : Secs (W.setCells a o vs) a l) (hl : l.length = n) :
    DkV (W.setCells a o vs) p a b v n l now later armed ops :=
  have hO := Only.many W a o vs
  have hc : ∀ j, (W.setCells a o vs).cell? ⟨p, j, none⟩ = W.cell? ⟨p, j, none⟩ := fun j => hO.cell (p := ⟨p, j, none⟩) h.lt h.pa
  ⟨by rw [hc]; exact h.c0, by rw [hc]; exact h.c1, by rw [hc]; exact h.c2, by rw [hc]; exact h.c3, by rw [hc]; exact h.c4,
    fun j => by rw [World.frozen?_setCells]; exact h.fz j, by rw [size_setCellsD]; exact h.lt, hs, h.s1.keep hO (fun e => h.ab e.symm),
    hO.row h.o2 (fun g hg e => h.va (by rw [hg, e])), hl, h.l1, h.ab, h.pa, h.pb, h.vp, h.va, h.vb⟩
end
/-- What is known only behind the last write of a sector. -/
def cover (fin : List ByteArray) : List (Nat × ByteArray) → List ByteArray → List ByteArray
  | [], nw => nw
  | w :: r, nw => cover fin r (nw.set w.1 (fin.getD w.1 ByteArray.empty))
theorem cover_length (fin : List ByteArray) : ∀ (r : List (Nat × ByteArray)) (nw : List ByteArray), (cover fin r nw).length = nw.length
  | [], _ => rfl
  | w :: r, nw => by rw [cover, cover_length fin r, List.length_set]
theorem cover_at (fin : List ByteArray) (i : Nat) (hi : i < fin.length) : ∀ (r : List (Nat × ByteArray)) (nw : List ByteArray), nw.length = fin.length →
    (cover fin r nw)[i]? = if r.any (fun w => w.1 == i) then fin[i]? else nw[i]?
  | [], nw, _ => by simp [cover]
  | w :: r, nw, hl => by
    rw [cover, cover_at fin i hi r _ (by rw [List.length_set]; exact hl), List.any_cons]
    by_cases e : w.1 = i
    · rw [show (w.1 == i) = true from beq_iff_eq.2 e, Bool.true_or, if_pos rfl]
      split
      · rfl
      · rw [e, List.getElem?_set_self (by omega), List.getD_eq_getElem?_getD, List.getElem?_eq_getElem hi]
        rfl
    · rw [show (w.1 == i) = false from beq_eq_false_iff_ne.2 e, Bool.false_or, List.getElem?_set_ne e]
theorem nowAt_untouched (i : Nat) (s : ByteArray) : ∀ (r : List (Nat × ByteArray)), r.any (fun w => w.1 == i) = false → nowAt r i s = s := by
  intro r
  unfold nowAt
  induction r with
  | nil => intro _; rfl
  | cons w r ih =>
    intro h
    rw [List.any_cons, Bool.or_eq_false_iff] at h
    have h1 : w.1 ≠ i := beq_eq_false_iff_ne.1 h.1
    rw [List.foldl_cons, if_neg h1]
    exact ih h.2
theorem lasting_untouched (mask : Nat) (torn : Int) (c i : Nat) : ∀ (r : List (Nat × ByteArray)) (k : Nat) (safe : List ByteArray), r.any (fun w => w.1 == i) = false → (lasting mask torn c k r safe)[i]? = safe[i]?
  | [], _, _, _ => rfl
  | w :: r, k, safe, h => by
    rw [List.any_cons, Bool.or_eq_false_iff] at h
    have h1 : w.1 ≠ i := beq_eq_false_iff_ne.1 h.1
    rw [lasting, lasting_untouched mask torn c i r _ _ h.2]
    split
    · exact List.getElem?_set_ne h1
    · split
      · exact List.getElem?_set_ne h1
      · rfl
theorem nowL_blank (st : St) (h : st.later = []) : nowL st = st.safe := by
  apply List.ext_getElem?
  intro i
  by_cases hi : i < st.safe.length
  · rw [nowL_at st i hi]
    unfold St.now nowAt
    rw [h, List.foldl_nil, List.getD_eq_getElem?_getD, List.getElem?_eq_getElem hi]
    rfl
  · rw [List.getElem?_eq_none (by rw [nowL_length]; omega), List.getElem?_eq_none (by omega)]
/-- Behind a crash each sector is what lasts. -/
theorem cover_crash (st : St) (mask : Nat) (torn : Int) (c : Nat) : cover (lasting mask torn c 0 st.later st.safe) st.later (nowL st) = lasting mask torn c 0 st.later st.safe := by
  have hlen := lasting_length mask torn c st.later 0 st.safe
  apply List.ext_getElem?
  intro i
  by_cases hi : i < st.safe.length
  · rw [cover_at _ i (by omega) _ _ (by rw [nowL_length, hlen])]
    split
    · rfl
    · rename_i hu
      have hu2 := Bool.eq_false_iff.mpr hu
      rw [nowL_at st i hi, lasting_untouched _ _ _ _ _ _ _ hu2]
      unfold St.now
      rw [nowAt_untouched i _ _ hu2, List.getD_eq_getElem?_getD, List.getElem?_eq_getElem hi]
      rfl
  · rw [List.getElem?_eq_none (by rw [cover_length, nowL_length]; omega), List.getElem?_eq_none (by omega)]
/-- A sync leaves what each sector holds. -/
theorem lasting_allD (i : Nat) : ∀ (r : List (Nat × ByteArray)) (k : Nat) (safe : List ByteArray), i < safe.length → (lasting allOnes (-1) 0 k r safe)[i]? = some (nowAt r i (safe.getD i ByteArray.empty))
  | [], _, safe, hi => by
    unfold nowAt
    rw [lasting, List.foldl_nil, List.getD_eq_getElem?_getD, List.getElem?_eq_getElem hi]; rfl
  | w :: r, k, safe, hi => by
    rw [lasting, if_neg (by omega), if_pos (allOnes_bit k), lasting_allD i r (k + 1) _ (by rw [List.length_set]; exact hi)]
    unfold nowAt
    rw [List.foldl_cons]
    congr 2
    by_cases e : w.1 = i
    · rw [if_pos e, e, List.getD_eq_getElem?_getD, List.getElem?_set_self hi]; rfl
    · rw [if_neg e, List.getD_eq_getElem?_getD, List.getElem?_set_ne e, List.getD_eq_getElem?_getD]
theorem nowL_synced (st : St) : lasting allOnes (-1) 0 0 st.later st.safe = nowL st := by
  have hlen := lasting_length allOnes (-1) 0 st.later 0 st.safe
  apply List.ext_getElem?
  intro i
  by_cases hi : i < st.safe.length
  · rw [lasting_allD i _ _ _ hi, nowL_at st i hi]; rfl
  · rw [List.getElem?_eq_none (by omega), List.getElem?_eq_none (by rw [nowL_length]; omega)]
theorem cutC_near (cut : Int) : nearI cut 128 = ((cutC cut : Nat) : Int) := by unfold nearI cutC; omega
theorem sliceSecH (b o c : Nat) (hc : c ≤ 128) (W : World) :
    (Instr.sliceAt 76 (.pointer (some ⟨b, o, none⟩)) none (some (.int .i64 (c : Int))) none).run Try.prog W = .ok (.slice (some ⟨b, o, none⟩) c 128) W := by
  have h16 : Try.prog.arrayLen 76 = 128 := by kernel_rfl
  rw [run_sliceAt_array_h (P := Try.prog) W 76 ⟨b, o, none⟩ (by kernel_rfl) .i64 (c : Int) (by omega) (by rw [h16]; omega), h16]
  have hs : ∀ W, (sizeOf (Try.prog.elem 76)).run Try.prog W = .ok 1 W := fun W => by kernel_rfl
  rw [hs]
  simp [Result.andThen, slicedAt, Addr.add]
/-- 'copy' whose run is known, for the walk. -/
theorem wpList_copy_run {P : Program} (w : World) {ops : Array Oper} {rest : List Oper} {o : Oper} {a : Act} {Q : Exit → Act → World → Prop} (hgd : o.guard = none) (d s : Operand) (dT sT : TypeId)
    (ho : o.op = .call { callee := .builtin .copy, args := #[d, s], argTypes := #[dT, sT] }) (vd vs : Value) (hd : a.eval d = vd) (hs : a.eval s = vs)
    (v' : Value) (w' : World) (hr : (Builtin.copy_ #[dT, sT] o.type #[vd, vs]).run P w = .ok v' w') (h : wpList P ops Q rest (a.put o.dst v') w') : wpList P ops Q (o :: rest) a w :=
  wpList_plain hgd fun _ hK => by
    unfold Oper.wp execOp
    simp only [ho, resolve, invoke, builtin, Sem.run_bind, Sem.run_pure, Result.andThen_ok, List.map_toArray, List.map_cons, List.map_nil, hd, hs, hr]
    exact hK _ _ h
/-- A mask's bit, as the landed text asks for it. -/
theorem bitP_form (mask k : Nat) (hm : mask < 18446744073709551616) : (bits BinOp.and IntKind.u64 (((mask : Nat) : Int) / 2 ^ (min ((k : Nat) : Int) 63).toNat) 1 == 1) = decide (mask / 2 ^ (min k 63) % 2 = 1) := by
  have e1 : (min ((k : Nat) : Int) 63).toNat = min k 63 := by omega
  have e2 : ((mask : Nat) : Int) / 2 ^ (min k 63) = ((mask / 2 ^ (min k 63) : Nat) : Int) := by rw [Int.natCast_ediv, Int.natCast_pow]; rfl
  have e3 : mask / 2 ^ (min k 63) < 18446744073709551616 := Nat.lt_of_le_of_lt (Nat.div_le_self _ _) hm
  have e4 := bits_and_u64_nat (mask / 2 ^ (min k 63)) 1 e3 (by omega)
  rw [e1, e2, show (1 : Int) = ((1 : Nat) : Int) from rfl, e4, Nat.and_one_is_mod]
  generalize mask / 2 ^ (min k 63) = z
  by_cases h : z % 2 = 1
  · rw [decide_eq_true h, beq_iff_eq]; omega
  · rw [decide_eq_false h, beq_eq_false_iff_ne]; omega
theorem getD_some {l : List ByteArray} {i : Nat} (h : i < l.length) : l[i]? = some (l.getD i ByteArray.empty) := by
  rw [List.getD_eq_getElem?_getD, List.getElem?_eq_getElem h]; rfl
end Go.Proofs.Ytgolddcmhjdmdaa
