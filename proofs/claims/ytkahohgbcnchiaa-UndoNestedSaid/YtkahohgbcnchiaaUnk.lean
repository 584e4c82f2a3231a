/- Stage 14: a log with all that it governs, as one: what it is now, and what it was ahead of each change. No condition but sizes. -/
import Derived.Test.YtkahohgbcnchiaaUnj
namespace Go.Proofs.Ytkahohgbcnchiaa
open Go.RowKit Wm

section
variable {σ : Type} {w W : World} {R Rs : Asr} {g p : Nat} {N : σ → Asr} {st st' : σ} {past : List σ}
/-- A log, and what it governs: the present first, then what was, the latest first. -/
def deskA (g : Nat) (N : σ → Asr) : List σ → Asr
  | [] => fun _ _ => False
  | st :: past => fun F W => ∃ es, ChainA Try.prog es (N st) ∧ es.map Ent.was = past.map N ∧ star (logA g (bksE es)) (star (ownsA es) (N st)) F W
theorem isAsr_desk (hN : ∀ st, IsAsr (N st)) (g : Nat) : ∀ hist : List σ, IsAsr (deskA g N hist)
  | [] => ⟨fun _ _ h => h.elim, fun _ _ _ _ h => h.elim⟩
  | st :: _past => {
    near := fun F W ⟨_es, h1, _, h3⟩ => ((isAsr_log _ _).star ((isAsr_owns h1).star (hN st))).near F W h3
    keep := fun F G W W' ⟨es, h1, h2, h3⟩ hO hG => ⟨es, h1, h2, ((isAsr_log _ _).star ((isAsr_owns h1).star (hN st))).keep F G W W' h3 hO hG⟩ }
theorem Held.openDesk (h : Held w W (star (deskA g N (st :: past)) R)) : ∃ es, ChainA Try.prog es (N st) ∧ es.map Ent.was = past.map N ∧ Held w W (star (logA g (bksE es)) (star (ownsA es) (star (N st) R))) := by
  obtain ⟨⟨F, ⟨F1, F2, ⟨es, h1, h2, h3⟩, r, d, e⟩, hF⟩, hb⟩ := h
  exact ⟨es, h1, h2, ⟨⟨F, star_under (fun _ _ x => star_assoc' x) (star_assoc' (A := logA g (bksE es)) (B := star (ownsA es) (N st)) ⟨F1, F2, h3, r, d, e⟩), hF⟩, hb⟩⟩
theorem Held.shutDesk {es : List Ent} (h1 : ChainA Try.prog es (N st)) (h2 : es.map Ent.was = past.map N) (h : Held w W (star (logA g (bksE es)) (star (ownsA es) (star (N st) R)))) : Held w W (star (deskA g N (st :: past)) R) := by
  obtain ⟨⟨F, h3, hF⟩, hb⟩ := h
  obtain ⟨F1, F2, a, r, d, e⟩ := star_assoc (star_under (fun _ _ x => star_assoc x) h3)
  exact ⟨⟨F, ⟨F1, F2, ⟨es, h1, h2, a⟩, r, d, e⟩, hF⟩, hb⟩
theorem desk_mark (h : Held w W (star (deskA g N (st :: past)) R)) : Calls Try.prog 11 #[.pointer (some ⟨g, 0, none⟩)] W fun e w2 => e = .returned (.int .i64 ((past.length : Nat) : Int)) ∧ W = w2 := by
  obtain ⟨es, h1, h2, h3⟩ := h.openDesk
  have := uMark_h h3
  rwa [bksE_length, show es.length = past.length by have := congrArg List.length h2; simpa using this] at this
theorem desk_clear (hN : ∀ st, IsAsr (N st)) (L : IsAsr R) (h : Held w W (star (deskA g N (st :: past)) R)) : Calls Try.prog 18 #[.pointer (some ⟨g, 0, none⟩)] W fun e w2 => e = .returned (.tuple #[]) ∧ Held w w2 (star (deskA g N [st]) R) := by
  obtain ⟨es, h1, h2, h3⟩ := h.openDesk
  refine (uClear_h ((isAsr_owns h1).star ((hN st).star L)) h3).mono ?_
  rintro e w2 ⟨he, h4⟩
  refine ⟨he, Held.shutDesk (es := []) trivial rfl ?_⟩
  have h5 := h4.pull.rest
  refine h5.under ?_
  intro F W x
  exact ⟨fun _ => False, F, fun _ x => x, x, fun _ x => x.elim, fun _ => ⟨.inr, fun x => x.elim False.elim id⟩⟩
theorem was_at : ∀ {es : List Ent} {past : List σ} {st : σ} (k : Nat), es.map Ent.was = past.map N → k ≤ past.length → ∃ st', (st :: past).drop k = st' :: past.drop k ∧ wasA es (N st) k = N st' ∧ (es.drop k).map Ent.was = (past.drop k).map N
  | es, past, st, 0, h, _ => ⟨st, by simp, by rw [wasA_zero], by simpa using h⟩
  | [], [], _, k + 1, _, hk => by simp at hk
  | [], _ :: _, _, _ + 1, h, _ => by simp at h
  | _ :: _, [], _, _ + 1, h, _ => by simp at h
  | e :: r, s :: q, st, k + 1, h, hk => by
    simp only [List.map_cons, List.cons.injEq] at h
    obtain ⟨h1, h2⟩ := h
    obtain ⟨st', a, b, c⟩ := was_at (st := s) k h2 (by simpa using hk)
    refine ⟨st', ?_, ?_, ?_⟩
    · simpa using a
    · unfold wasA; rw [h1]; exact b
    · simpa using c
/-- Back: what was behind so many changes is now. -/
theorem desk_back (hN : ∀ st, IsAsr (N st)) (L : IsAsr R) (hs : past.length ≤ 100000) (mark : Int) (h : Held w W (star (deskA g N (st :: past)) R)) :
    Calls Try.prog 17 #[.pointer (some ⟨g, 0, none⟩), .int .i64 mark] W fun e w2 => e = .returned (.tuple #[]) ∧ Held w w2 (star (deskA g N ((st :: past).drop (past.length - mark.toNat))) R) := by
  obtain ⟨es, h1, h2, h3⟩ := h.openDesk
  have hl : es.length = past.length := by have := congrArg List.length h2; simpa using this
  refine (uBack_h L (hN st) h1 (by omega) mark h3).mono ?_
  rintro e w2 ⟨he, h4⟩
  refine ⟨he, ?_⟩
  rw [hl] at h4
  obtain ⟨st', a, b, c⟩ := was_at (st := st) (past.length - mark.toNat) h2 (by omega)
  have hc := h1.drop (past.length - mark.toNat)
  rw [b] at hc h4
  rw [a]
  exact Held.shutDesk hc c h4
/-- A change more. -/
theorem desk_more (hN : ∀ st, IsAsr (N st)) {es : List Ent} {own : Asr} {b : Bk} {A A' : Asr} (h1 : ChainA Try.prog es (N st)) (h2 : es.map Ent.was = past.map N) (ho : IsAsr own) (hb : ∀ args w, (callFunc b.fn args).run Try.prog w = .ok (.enter b.fn args) w) (hu : Undoes Try.prog b own A' A) (LR : IsAsr Rs)
    (g1 : ∀ F W, star A' Rs F W → N st' F W) (g1' : ∀ F W, N st' F W → star A' Rs F W) (g2 : ∀ F W, star A Rs F W → N st F W)
    (h : Held w W (star (logA g (bksE es ++ [b])) (star own (star (ownsA es) (star (star A' Rs) R))))) : Held w W (star (deskA g N (st' :: st :: past)) R) := by
  have h3 : Held w W (star (logA g (bksE (⟨b, own, N st⟩ :: es))) (star (ownsA (⟨b, own, N st⟩ :: es)) (star (N st') R))) := by
    rw [bksE_cons]
    refine (h.map (fun _ _ x => star_under (fun _ _ y => star_assoc y) x)).map (fun _ _ x => star_under (fun _ _ y => star_under (fun _ _ z => ?_) y) x)
    obtain ⟨F1, F2, a, r, d, e⟩ := z
    exact ⟨F1, F2, g1 _ _ a, r, d, e⟩
  refine Held.shutDesk (es := ⟨b, own, N st⟩ :: es) ⟨⟨ho, hN st, ((hu.frame LR).from g1').to g2, hb⟩, h1⟩ ?_ h3
  simp only [List.map_cons, h2]
/-- One of its lists, told. -/
theorem Held.deskList {lg : Option Addr} {xs : List Int} (h : Held w W (star (deskA g N (st :: past)) R)) (g1 : ∀ F W, N st F W → star (objA (ListO lg) p xs) Rs F W) : ∃ v, ListV lg W p v xs := by
  obtain ⟨es, _, _, h3⟩ := h.openDesk
  obtain ⟨F, hF⟩ := h3.pull3.head
  obtain ⟨F1, F2, ⟨v, hv, -⟩, -⟩ := g1 _ _ hF
  exact ⟨v, hv⟩
variable (hN : ∀ st, IsAsr (N st)) (L : IsAsr R) (LR : IsAsr Rs)
include hN L LR
theorem desk_add {xs : List Int} (x : Int) (hx : xs.length ≤ 100000) (hs : past.length < 100000) (g0 : ∀ F W, N st F W → star (objA (ListO (some ⟨g, 0, none⟩)) p xs) Rs F W) (g2 : ∀ F W, star (objA (ListO (some ⟨g, 0, none⟩)) p xs) Rs F W → N st F W)
    (g1 : ∀ F W, star (objA (ListO (some ⟨g, 0, none⟩)) p (xs ++ [x])) Rs F W → N st' F W) (g1' : ∀ F W, N st' F W → star (objA (ListO (some ⟨g, 0, none⟩)) p (xs ++ [x])) Rs F W) (h : Held w W (star (deskA g N (st :: past)) R)) :
    Calls Try.prog 19 #[.pointer (some ⟨p, 0, none⟩), .int .i64 x] W fun e w2 => e = .returned (.int .i64 ((xs.length : Nat) : Int)) ∧ Held w w2 (star (deskA g N (st' :: st :: past)) R) := by
  obtain ⟨es, h1, h2, h3⟩ := h.openDesk
  have hl : es.length = past.length := by have := congrArg List.length h2; simpa using this
  have LO := isAsr_owns h1
  have h4 : Held w W (star (objA (ListO (some ⟨g, 0, none⟩)) p xs) (star (logA g (bksE es)) (star (ownsA es) (star Rs R)))) := by
    refine Held.pull3 (h3.map (fun _ _ x => star_under (fun _ _ y => star_under (fun _ _ z => ?_) y) x))
    obtain ⟨F1, F2, a, r, d, e⟩ := z
    exact star_assoc' ⟨F1, F2, g0 _ _ a, r, d, e⟩
  refine (uAdd_held (T := fun B0 B1 => star (boxA B0 [.pointer (some ⟨p, 0, none⟩)]) (star (objA (ListO (some ⟨g, 0, none⟩)) p (xs ++ [x])) (star (logA g (bksE es ++ [addBk B0 B1])) (star (ownsA es) (star Rs R))))) ((isAsr_log _ _).star (LO.star (LR.star L))) _ h4 hx x (fun wx B0 B1 hw => ?_)).mono ?_
  · refine (uKeep_h ((isAsr_box _ _).star ((isAsr_box _ _).star ((isAsr_list _ _ _).star (LO.star (LR.star L))))) (by rw [bksE_length]; omega) (addBk B0 B1) hw.pull4).mono ?_
    rintro e w2 ⟨he, hh⟩
    exact ⟨he, hh.push4⟩
  · rintro e w2 ⟨he, B0, B1, hh⟩
    refine ⟨he, ?_⟩
    have h5 := hh.pull4.map (fun _ _ x => star_under (fun _ _ y => star_under (fun _ _ z => star_under (fun _ _ u => star_assoc u) (star_pull z)) (star_assoc y)) x)
    exact desk_more hN h1 h2 ((isAsr_box _ _).star (isAsr_box _ _)) (fun _ _ => enters_add _ _) ((addUndo (some ⟨g, 0, none⟩) (s := xs ++ [x]) (by simp)).to (fun _ _ x => by rwa [List.take_left] at x)) LR g1 g1' g2 h5
theorem desk_set {xs : List Int} {n : Nat} (hn : n < xs.length) (x : Int) (hs : past.length < 100000) (g0 : ∀ F W, N st F W → star (objA (ListO (some ⟨g, 0, none⟩)) p xs) Rs F W) (g2 : ∀ F W, star (objA (ListO (some ⟨g, 0, none⟩)) p xs) Rs F W → N st F W)
    (g1 : ∀ F W, star (objA (ListO (some ⟨g, 0, none⟩)) p (xs.set n x)) Rs F W → N st' F W) (g1' : ∀ F W, N st' F W → star (objA (ListO (some ⟨g, 0, none⟩)) p (xs.set n x)) Rs F W) (h : Held w W (star (deskA g N (st :: past)) R)) :
    Calls Try.prog 20 #[.pointer (some ⟨p, 0, none⟩), .int .i64 (n : Int), .int .i64 x] W fun e w2 => e = .returned (.bool true) ∧ Held w w2 (star (deskA g N (st' :: st :: past)) R) := by
  obtain ⟨es, h1, h2, h3⟩ := h.openDesk
  have hl : es.length = past.length := by have := congrArg List.length h2; simpa using this
  have LO := isAsr_owns h1
  have h4 : Held w W (star (objA (ListO (some ⟨g, 0, none⟩)) p xs) (star (logA g (bksE es)) (star (ownsA es) (star Rs R)))) := by
    refine Held.pull3 (h3.map (fun _ _ x => star_under (fun _ _ y => star_under (fun _ _ z => ?_) y) x))
    obtain ⟨F1, F2, a, r, d, e⟩ := z
    exact star_assoc' ⟨F1, F2, g0 _ _ a, r, d, e⟩
  refine (uSet_held (T := fun B0 B1 B2 => star (boxA B2 [.int .i64 xs[n]]) (star (boxA B1 [.int .i64 (n : Int)]) (star (boxA B0 [.pointer (some ⟨p, 0, none⟩)]) (star (objA (ListO (some ⟨g, 0, none⟩)) p (xs.set n x)) (star (logA g (bksE es ++ [setBk B0 B1 B2])) (star (ownsA es) (star Rs R))))))) ((isAsr_log _ _).star (LO.star (LR.star L))) _ h4 hn x (fun wx B0 B1 B2 hw => ?_)).mono ?_
  · refine (uKeep_h ((isAsr_box _ _).star ((isAsr_box _ _).star ((isAsr_box _ _).star ((isAsr_list _ _ _).star (LO.star (LR.star L)))))) (by rw [bksE_length]; omega) (setBk B0 B1 B2) hw.pull5).mono ?_
    rintro e w2 ⟨he, hh⟩
    exact ⟨he, hh.push5⟩
  · rintro e w2 ⟨he, B0, B1, B2, hh⟩
    refine ⟨he, ?_⟩
    have h5 := hh.pull5.map (fun _ _ x => star_under (fun _ _ y => star_under (fun _ _ z => star_under (fun _ _ u => star_assoc u) (star_pull z)) (star_assoc (star_under (fun _ _ v => star_assoc v) y))) x)
    exact desk_more hN h1 h2 ((isAsr_box _ _).star ((isAsr_box _ _).star (isAsr_box _ _))) (fun _ _ => enters_set _ _) ((setUndo (some ⟨g, 0, none⟩) (s := xs.set n x) (by simpa using hn) xs[n]).to (fun _ _ x => by rwa [List.set_set, List.set_getElem_self] at x)) LR g1 g1' g2 h5
end
end Go.Proofs.Ytkahohgbcnchiaa
