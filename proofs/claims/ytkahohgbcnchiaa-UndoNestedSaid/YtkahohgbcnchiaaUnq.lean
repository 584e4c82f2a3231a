/- Stage 14: the document's answer by what a caller holds: two lists, and what they were behind each change. No condition but sizes. -/
import Derived.Test.YtkahohgbcnchiaaUnp
namespace Go.Proofs.Ytkahohgbcnchiaa
open Go.RowKit Wm

abbrev StU := List Int × List Int
def selU (sec : Bool) (st : StU) : List Int := cond sec st.2 st.1
def addU (sec : Bool) (st : StU) (x : Int) : StU := cond sec (st.1, st.2 ++ [x]) (st.1 ++ [x], st.2)
def setU (sec : Bool) (st : StU) (i : Nat) (x : Int) : StU := cond sec (st.1, st.2.set i x) (st.1.set i x, st.2)
/-- The present first, then what was, the latest first. -/
def docA (p : Nat) (hist : List StU) : Asr := fun F W => ∃ la lb, la.map Rw.xs = hist.reverse.map Prod.fst ∧ lb.map Rw.xs = hist.reverse.map Prod.snd ∧ pastA p la lb F W
section
variable {w W W' : World} {R : Asr} {p : Nat} {st : StU} {past : List StU} {la lb la' lb' : List Rw} {ra rb : Rw} {vA vB : Value} {F : Nat → Prop}
theorem isAsr_doc (p : Nat) (hist : List StU) : IsAsr (docA p hist) where
  near := fun F W ⟨la, lb, _, _, h⟩ => (isAsr_past p la lb).near F W h
  keep := fun F G W W' ⟨la, lb, h1, h2, h⟩ hO hG => ⟨la, lb, h1, h2, (isAsr_past p la lb).keep F G W W' h hO hG⟩
theorem postA_past (hF : ∀ k, F k ↔ footP p vA vB la lb k) (hp : PostP W p vA vB la' lb' W') (hn : ∀ r, r ∈ la' ∨ r ∈ lb' → (r ∈ la ∨ r ∈ lb) ∨ ∀ k, r.val.ownBlock = some k → W.heap.size ≤ k) : PostA F (pastA p la' lb') W W' := by
  obtain ⟨vA', vB', h1, h2, h3, h4⟩ := hp
  refine ⟨footP p vA' vB' la' lb', ⟨vA', vB', h1, fun _ => Iff.rfl⟩, h2.mono (fun k _ x => (hF k).2 (x.elim .inl (fun x => x.elim (fun y => .inr (.inl y)) (fun y => .inr (.inr (.inl y)))))), fun k hk x => (hF k).2 ?_⟩
  rcases x with x | x | x | ⟨r, hr, x⟩
  · exact .inl x
  · exact .inr (.inl (h3 k hk x))
  · exact .inr (.inr (.inl (h4 k hk x)))
  · rcases hn r hr with y | y
    · exact .inr (.inr (.inr ⟨r, y, x⟩))
    · have := y k x
      omega
theorem map_snoc {l : List Rw} {q : List (List Int)} {x : List Int} (h : l.map Rw.xs = q ++ [x]) : ∃ l' r, l = l' ++ [r] ∧ l'.map Rw.xs = q ∧ r.xs = x := by
  rcases List.eq_nil_or_concat l with rfl | ⟨l', r, rfl⟩
  · simp at h
  · rw [List.concat_eq_append, List.map_append] at h
    obtain ⟨h1, h2⟩ := List.append_inj' h rfl
    exact ⟨l', r, List.concat_eq_append, h1, by simpa using h2⟩
/-- Its rows, told. -/
structure DocRows (st : StU) (past : List StU) (la lb : List Rw) (ra rb : Rw) : Prop where
  a : la.map Rw.xs = past.reverse.map Prod.fst
  b : lb.map Rw.xs = past.reverse.map Prod.snd
  ra : ra.xs = st.1
  rb : rb.xs = st.2
theorem DocRows.lenA (h : DocRows st past la lb ra rb) : la.length = past.length := by have := congrArg List.length h.a; simpa using this
theorem DocRows.lenB (h : DocRows st past la lb ra rb) : lb.length = past.length := by have := congrArg List.length h.b; simpa using this
theorem Held.openDoc (h : Held w W (star (docA p (st :: past)) R)) : ∃ la lb ra rb, DocRows st past la lb ra rb ∧ Held w W (star (pastA p (la ++ [ra]) (lb ++ [rb])) R) := by
  obtain ⟨⟨F, ⟨F1, F2, ⟨la, lb, h1, h2, h3⟩, r, d, e⟩, hF⟩, hb⟩ := h
  rw [List.reverse_cons, List.map_append] at h1 h2
  obtain ⟨la', ra, rfl, ha, hra⟩ := map_snoc h1
  obtain ⟨lb', rb, rfl, hb', hrb⟩ := map_snoc h2
  exact ⟨la', lb', ra, rb, ⟨ha, hb', hra, hrb⟩, ⟨⟨F, ⟨F1, F2, h3, r, d, e⟩, hF⟩, hb⟩⟩
theorem Held.shutDoc (hd : DocRows st past la lb ra rb) (h : Held w W (star (pastA p (la ++ [ra]) (lb ++ [rb])) R)) : Held w W (star (docA p (st :: past)) R) := by
  obtain ⟨⟨F, ⟨F1, F2, a, r, d, e⟩, hF⟩, hb⟩ := h
  refine ⟨⟨F, ⟨F1, F2, ⟨_, _, ?_, ?_, a⟩, r, d, e⟩, hF⟩, hb⟩
  · rw [List.reverse_cons, List.map_append, List.map_append, hd.a]; simp [hd.ra]
  · rw [List.reverse_cons, List.map_append, List.map_append, hd.b]; simp [hd.rb]
theorem Held.pastReads (h : Held w W (star (pastA p (la ++ [ra]) (lb ++ [rb])) R)) : ra.reads W ∧ rb.reads W := by
  obtain ⟨F, vA, vB, hv, -⟩ := h.head
  exact ⟨hv.rA ra (by simp), hv.rB rb (by simp)⟩
theorem pastNow_h (L : IsAsr R) (h : Held w W (star (pastA p (la ++ [ra]) (lb ++ [rb])) R)) (hA : la.length ≤ 100000) (hB : lb.length ≤ 100000) :
    Calls Try.prog 12 #[.pointer (some ⟨p, 0, none⟩)] W fun e w2 => e = .returned (.tuple #[ra.val, rb.val]) ∧ Held w w2 (star (pastA p (la ++ [ra]) (lb ++ [rb])) R) :=
  h.ask (isAsr_past _ _ _) L (S := fun e _ => e = .returned (.tuple #[ra.val, rb.val])) (fun _F ⟨_vA, _vB, hv, _⟩ => refnow_any hv hA hB)
theorem added_h (hF : ∀ k, F k ↔ footP p vA vB (la ++ [ra]) (lb ++ [rb]) k) {sec : Bool} {xs : List Int} (hd : DocRows st past la lb ra rb) (h : AddedP W p vA vB la lb ra rb sec xs W') : PostA F (docA p (cond sec (st.1, xs) (xs, st.2) :: st :: past)) W W' := by
  obtain ⟨r', hx, hn, hp⟩ := h
  have := postA_past hF hp (fun r hr => by
    cases sec with
    | false =>
      simp only [cond_false, List.mem_append, List.mem_singleton] at hr ⊢
      rcases hr with ((hr | hr) | hr) | ((hr | hr) | hr)
      · exact .inl (.inl (.inl hr))
      · exact .inl (.inl (.inr hr))
      · rw [hr]; exact .inr hn
      · exact .inl (.inr (.inl hr))
      · exact .inl (.inr (.inr hr))
      · exact .inl (.inr (.inr hr))
    | true =>
      simp only [cond_true, List.mem_append, List.mem_singleton] at hr ⊢
      rcases hr with ((hr | hr) | hr) | ((hr | hr) | hr)
      · exact .inl (.inl (.inl hr))
      · exact .inl (.inl (.inr hr))
      · exact .inl (.inl (.inr hr))
      · exact .inl (.inr (.inl hr))
      · exact .inl (.inr (.inr hr))
      · rw [hr]; exact .inr hn)
  obtain ⟨F', a, hO, hF'⟩ := this
  refine ⟨F', ⟨_, _, ?_, ?_, a⟩, hO, hF'⟩
  · cases sec <;> simp [hd.a, hd.ra, hx]
  · cases sec <;> simp [hd.b, hd.rb, hx]
theorem docAdd_h (L : IsAsr R) (h : Held w W (star (docA p (st :: past)) R)) (hl : past.length < 10000) (x1 : st.1.length ≤ 10000) (x2 : st.2.length ≤ 10000) (sec : Bool) (x : Int) :
    Calls Try.prog 22 #[.pointer (some ⟨p, 0, none⟩), .bool sec, .int .i64 x] W fun e w2 => e = .returned (.tuple #[]) ∧ Held w w2 (star (docA p (addU sec st x :: st :: past)) R) := by
  obtain ⟨la, lb, ra, rb, hd, h1⟩ := h.openDoc
  have := h1.turn (A' := docA p (addU sec st x :: st :: past)) (S := fun e => e = .returned (.tuple #[])) (isAsr_past _ _ _) L (fun F ⟨vA, vB, hv, hF⟩ => (refadd_any hv (by rw [hd.lenA]; exact hl) (by rw [hd.lenB]; exact hl) (by rw [hd.ra]; exact x1) (by rw [hd.rb]; exact x2) sec x).mono (fun e W' ⟨he, ha⟩ => ⟨he, by
    have := added_h hF hd ha
    rw [hd.ra, hd.rb] at this
    cases sec
    · exact this
    · exact this⟩))
  exact this
theorem docSet_h (L : IsAsr R) (h : Held w W (star (docA p (st :: past)) R)) (hl : past.length < 10000) (x1 : st.1.length ≤ 10000) (x2 : st.2.length ≤ 10000) (sec : Bool) (i x : Int) (hi : hasU (selU sec st) i = true) :
    Calls Try.prog 23 #[.pointer (some ⟨p, 0, none⟩), .bool sec, .int .i64 i, .int .i64 x] W fun e w2 => e = .returned (.bool true) ∧ Held w w2 (star (docA p (setU sec st i.toNat x :: st :: past)) R) := by
  obtain ⟨la, lb, ra, rb, hd, h1⟩ := h.openDoc
  have := h1.turn (A' := docA p (setU sec st i.toNat x :: st :: past)) (S := fun e => e = .returned (.bool true)) (isAsr_past _ _ _) L (fun F ⟨vA, vB, hv, hF⟩ => (refset_any hv (by rw [hd.lenA]; exact hl) (by rw [hd.lenB]; exact hl) (by rw [hd.ra]; exact x1) (by rw [hd.rb]; exact x2) sec i x (by rw [hd.ra, hd.rb]; exact hi)).mono (fun e W' ⟨he, ha⟩ => ⟨he, by
    have := added_h hF hd ha
    rw [hd.ra, hd.rb] at this
    cases sec
    · exact this
    · exact this⟩))
  exact this
theorem docSet_out (L : IsAsr R) (h : Held w W (star (docA p (st :: past)) R)) (hl : past.length < 10000) (sec : Bool) (i x : Int) (hi : hasU (selU sec st) i = false) :
    Calls Try.prog 23 #[.pointer (some ⟨p, 0, none⟩), .bool sec, .int .i64 i, .int .i64 x] W fun e w2 => e = .returned (.bool false) ∧ Held w w2 (star (docA p (st :: past)) R) := by
  obtain ⟨la, lb, ra, rb, hd, h1⟩ := h.openDoc
  refine (h1.ask (isAsr_past _ _ _) L (S := fun e _ => e = .returned (.bool false)) (fun F ⟨vA, vB, hv, hF⟩ => refset_out hv (by rw [hd.lenA]; exact hl) (by rw [hd.lenB]; exact hl) sec i x (by rw [hd.ra, hd.rb]; exact hi))).mono ?_
  rintro e w2 ⟨he, h2⟩
  exact ⟨he, h2.shutDoc hd⟩
theorem docClear_h (L : IsAsr R) (h : Held w W (star (docA p (st :: past)) R)) (hl : past.length < 10000) : Calls Try.prog 25 #[.pointer (some ⟨p, 0, none⟩)] W fun e w2 => e = .returned (.tuple #[]) ∧ Held w w2 (star (docA p [st]) R) := by
  obtain ⟨la, lb, ra, rb, hd, h1⟩ := h.openDoc
  exact h1.turn (A' := docA p [st]) (S := fun e => e = .returned (.tuple #[])) (isAsr_past _ _ _) L (fun F ⟨vA, vB, hv, hF⟩ => (refclear_any hv (by rw [hd.lenA]; omega) (by rw [hd.lenB]; omega)).mono (fun e W' ⟨he, hp⟩ => ⟨he, by
    obtain ⟨F', a, hO, hF'⟩ := postA_past hF hp (fun r hr => by
      simp only [List.mem_append, List.mem_singleton] at hr ⊢
      rcases hr with hr | hr
      · exact .inl (.inl (.inr hr))
      · exact .inl (.inr (.inr hr)))
    exact ⟨F', ⟨_, _, by simp [hd.ra], by simp [hd.rb], a⟩, hO, hF'⟩⟩))
theorem docBack_h (L : IsAsr R) (h : Held w W (star (docA p (st :: past)) R)) (hl : past.length < 10000) (mark : Int) : Calls Try.prog 24 #[.pointer (some ⟨p, 0, none⟩), .int .i64 mark] W fun e w2 => e = .returned (.tuple #[]) ∧ Held w w2 (star (docA p ((st :: past).drop (past.length - mark.toNat))) R) := by
  obtain ⟨la, lb, ra, rb, hd, h1⟩ := h.openDoc
  have eA : (la ++ [ra]).length = past.length + 1 := by simp [hd.lenA]
  have eB : (lb ++ [rb]).length = past.length + 1 := by simp [hd.lenB]
  have hall : (la ++ [ra]).map Rw.xs = (st :: past).reverse.map Prod.fst ∧ (lb ++ [rb]).map Rw.xs = (st :: past).reverse.map Prod.snd := by
    rw [List.reverse_cons, List.map_append, List.map_append, List.map_append, List.map_append, hd.a, hd.b]
    simp [hd.ra, hd.rb]
  have hk : min mark.toNat ((la ++ [ra]).length - 1) + 1 = (st :: past).length - (past.length - mark.toNat) := by rw [eA, List.length_cons]; omega
  exact h1.turn (S := fun e => e = .returned (.tuple #[])) (isAsr_past _ _ _) L (fun F ⟨vA, vB, hv, hF⟩ => (refback_any hv (by omega) (by omega) (by omega) mark).mono (fun e W' ⟨he, hp⟩ => ⟨he, by
    rw [hk] at hp
    obtain ⟨F', a, hO, hF'⟩ := postA_past hF hp (fun r hr => .inl (hr.elim (fun x => .inl (List.mem_of_mem_take x)) (fun x => .inr (List.mem_of_mem_take x))))
    refine ⟨F', ⟨_, _, ?_, ?_, a⟩, hO, hF'⟩
    · rw [List.map_take, hall.1, ← List.map_take, List.reverse_drop]
    · rw [List.map_take, hall.2, ← List.map_take, List.reverse_drop]⟩))
theorem docNew_h (L : IsAsr R) (h : Held w W R) : Calls Try.prog 9 #[] W fun e w2 => ∃ p, e = .returned (.pointer (some ⟨p, 0, none⟩)) ∧ Held w w2 (star (docA p [([], [])]) R) :=
  (refnew_any W).mono (fun _e _w2 ⟨p, vA, vB, he, hv, hb, hf⟩ => ⟨p, he, h.more L hb ⟨footP p vA vB [nilRw] [nilRw], ⟨[nilRw], [nilRw], rfl, rfl, vA, vB, hv, fun _ => Iff.rfl⟩, hf⟩⟩)
end
end Go.Proofs.Ytkahohgbcnchiaa
