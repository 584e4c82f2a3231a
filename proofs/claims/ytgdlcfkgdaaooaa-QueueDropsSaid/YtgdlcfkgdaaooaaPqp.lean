/- Stage 13: what a queue holds, as a plain list: the one ahead of all, one dropped. No program, no condition. -/
import Derived.Test.YtgdlcfkgdaaooaaPqa
namespace Go.Proofs.Ytgdlcfkgdaaooaa
open Wm

/-- No two bear one stamp. -/
def OnceQ (m : List Qit) : Prop := (m.map Qit.Stamp).Nodup
def bestQ : List Qit → Option Qit
  | [] => none
  | x :: r => match bestQ r with
    | none => some x
    | some y => if qahead y x = true then some y else some x
def hasQ (m : List Qit) (s : Int) : Bool := m.any fun x => x.Stamp == s
def dropQ (m : List Qit) (s : Int) : List Qit := m.filter fun x => !(x.Stamp == s)
def popR (m : List Qit) (now : Int) : Option Qit := match bestQ m with
  | some x => if x.Due ≤ now then some x else none
  | none => none
def popQ (m : List Qit) (now : Int) : List Qit := match popR m now with
  | some x => dropQ m x.Stamp
  | none => m
theorem bestQ_some : ∀ (m : List Qit) (x : Qit), bestQ m = some x → x ∈ m ∧ ∀ y ∈ m, qle x y
  | [], x, h => by simp [bestQ] at h
  | a :: r, x, h => by
    unfold bestQ at h
    cases hr : bestQ r with
    | none =>
      rw [hr] at h
      have hx : a = x := by injection h
      subst hx
      have : r = [] := by
        cases r with
        | nil => rfl
        | cons b s =>
          exfalso
          unfold bestQ at hr
          split at hr
          · cases hr
          · split at hr <;> cases hr
      subst this
      exact ⟨by simp, fun y hy => by simp at hy; subst hy; exact qle_refl _⟩
    | some b =>
      rw [hr] at h
      obtain ⟨h1, h2⟩ := bestQ_some r b hr
      dsimp only at h
      split at h
      · rename_i e
        have hx : b = x := by injection h
        subst hx
        refine ⟨by simp [h1], fun y hy => ?_⟩
        rcases List.mem_cons.1 hy with rfl | hy
        · exact qle_of_ahead e
        · exact h2 y hy
      · rename_i e
        have hx : a = x := by injection h
        subst hx
        refine ⟨by simp, fun y hy => ?_⟩
        rcases List.mem_cons.1 hy with rfl | hy
        · exact qle_refl _
        · exact qle_trans (Bool.eq_false_iff.2 e) (h2 y hy)
theorem bestQ_none : ∀ (m : List Qit), bestQ m = none → m = []
  | [], _ => rfl
  | a :: r, h => by
    exfalso
    unfold bestQ at h
    split at h
    · cases h
    · split at h <;> cases h
theorem once_mem {m : List Qit} (h : OnceQ m) {x y : Qit} (hx : x ∈ m) (hy : y ∈ m) (e : x.Stamp = y.Stamp) : x = y := by
  induction m with
  | nil => simp at hx
  | cons a r ih =>
    unfold OnceQ at h
    rw [List.map_cons, List.nodup_cons] at h
    obtain ⟨h1, h2⟩ := h
    rcases List.mem_cons.1 hx with ex | hx2
    · rcases List.mem_cons.1 hy with ey | hy2
      · rw [ex, ey]
      · exact (h1 (List.mem_map.2 ⟨y, hy2, by rw [← ex]; exact e.symm⟩)).elim
    · rcases List.mem_cons.1 hy with ey | hy2
      · exact (h1 (List.mem_map.2 ⟨x, hx2, by rw [← ey]; exact e⟩)).elim
      · exact ih h2 hx2 hy2
theorem bestQ_is {m : List Qit} (h : OnceQ m) {x : Qit} (hx : x ∈ m) (hl : ∀ y ∈ m, qle x y) : bestQ m = some x := by
  cases hb : bestQ m with
  | none => rw [bestQ_none m hb] at hx; simp at hx
  | some y =>
    obtain ⟨h1, h2⟩ := bestQ_some m y hb
    rw [once_mem h h1 hx (qle_same (h2 x hx) (hl y h1)).2]
theorem OnceQ.perm {m n : List Qit} (h : OnceQ m) (p : m.Perm n) : OnceQ n := (p.map _).nodup_iff.1 h
theorem bestQ_perm {m n : List Qit} (h : OnceQ m) (p : m.Perm n) : bestQ m = bestQ n := by
  cases hb : bestQ m with
  | none =>
    have := bestQ_none m hb
    subst this
    rw [List.nil_perm.1 p]; rfl
  | some x =>
    obtain ⟨h1, h2⟩ := bestQ_some m x hb
    exact (bestQ_is (h.perm p) (p.subset h1) (fun y hy => h2 y (p.symm.subset hy))).symm
theorem dropQ_not {m : List Qit} {s : Int} (h : s ∉ m.map Qit.Stamp) : dropQ m s = m := by
  unfold dropQ
  rw [List.filter_eq_self]
  intro x hx
  rw [Bool.not_eq_true', beq_eq_false_iff_ne]
  intro e
  exact h (List.mem_map.2 ⟨x, hx, e⟩)
theorem dropQ_app (m n : List Qit) (s : Int) : dropQ (m ++ n) s = dropQ m s ++ dropQ n s := by unfold dropQ; rw [List.filter_append]
theorem dropQ_one (x : Qit) : dropQ [x] x.Stamp = [] := by unfold dropQ; simp
theorem dropQ_perm {m n : List Qit} (p : m.Perm n) (s : Int) : (dropQ m s).Perm (dropQ n s) := p.filter _
theorem dropQ_sub (m : List Qit) (s : Int) : (dropQ m s).Sublist m := List.filter_sublist
theorem OnceQ.drop {m : List Qit} (h : OnceQ m) (s : Int) : OnceQ (dropQ m s) := List.Nodup.sublist ((dropQ_sub m s).map _) h
theorem OnceQ.put {m : List Qit} (h : OnceQ m) {x : Qit} (hx : x.Stamp ∉ m.map Qit.Stamp) : OnceQ (m ++ [x]) := by
  unfold OnceQ
  rw [List.map_append, List.map_singleton]
  exact List.nodup_append.2 ⟨h, by simp, fun a ha b hb => by
    rw [List.mem_singleton] at hb
    rintro rfl
    exact hx (hb ▸ ha)⟩
/-- What is left of a row of which one was taken. -/
theorem took_drop {t m : List Qit} {x : Qit} (h : OnceQ m) (p : (t ++ [x]).Perm m) : t.Perm (dropQ m x.Stamp) := by
  have h2 := h.perm p.symm
  have hn : x.Stamp ∉ t.map Qit.Stamp := by
    intro hm
    unfold OnceQ at h2
    rw [List.map_append, List.nodup_append] at h2
    exact h2.2.2 _ hm _ (by simp) rfl
  have := dropQ_perm p x.Stamp
  rw [dropQ_app, dropQ_one, List.append_nil, dropQ_not hn] at this
  exact this
theorem hasQ_iff (m : List Qit) (s : Int) : hasQ m s = true ↔ s ∈ m.map Qit.Stamp := by
  unfold hasQ
  rw [List.any_eq_true, List.mem_map]
  constructor
  · rintro ⟨x, hx, e⟩; exact ⟨x, hx, beq_iff_eq.1 e⟩
  · rintro ⟨x, hx, e⟩; exact ⟨x, hx, beq_iff_eq.2 e⟩
theorem hasQ_not {m : List Qit} {s : Int} (h : hasQ m s = false) : s ∉ m.map Qit.Stamp := fun e => by rw [(hasQ_iff m s).2 e] at h; cases h
theorem popQ_length (m : List Qit) (now : Int) : (popQ m now).length ≤ m.length := by
  unfold popQ
  split
  · exact (dropQ_sub _ _).length_le
  · exact Nat.le_refl _
theorem OnceQ.pop {m : List Qit} (h : OnceQ m) (now : Int) : OnceQ (popQ m now) := by
  unfold popQ
  split
  · exact h.drop _
  · exact h
end Go.Proofs.Ytgdlcfkgdaaooaa
