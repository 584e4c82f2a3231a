/- Stage 22: requests and replies as bytes, and taken from bytes. Plain: no program, no condition. -/
import Derived.Test.YtfdanlfiaoedfaaZWqv
import Derived.Test.YtfdanlfiaoedfaaZAa
import Derived.Test.YtfdanlfiaoedfaaZXa
namespace Go.Proofs.Ytfdanlfiaoedfaa
open Go Go.RowKit Wm Cr

/-- Bytes of things, one behind the other. -/
def catB {α : Type} (f : α → ByteArray) (l : List α) : ByteArray := l.foldl (fun s x => s ++ f x) ByteArray.empty
section
variable {α : Type} {f : α → ByteArray}
theorem foldl_cat (f : α → ByteArray) : ∀ (l : List α) (s : ByteArray), l.foldl (fun s x => s ++ f x) s = s ++ catB f l
  | [], s => (ByteArray.append_empty).symm
  | x :: l, s => by
    unfold catB
    rw [List.foldl_cons, foldl_cat f l, List.foldl_cons, foldl_cat f l (ByteArray.empty ++ f x), ByteArray.empty_append, ByteArray.append_assoc]
theorem catB_nil : catB f [] = ByteArray.empty := rfl
theorem catB_cons (x : α) (l : List α) : catB f (x :: l) = f x ++ catB f l := by
  conv => lhs; unfold catB
  rw [List.foldl_cons, foldl_cat, ByteArray.empty_append]
theorem catB_take (l : List α) (k : Nat) (h : k < l.length) : catB f (l.take (k + 1)) = catB f (l.take k) ++ f l[k] := by
  unfold catB
  rw [List.take_succ_eq_append_getElem h, List.foldl_append]
  rfl
theorem catB_size {n : Nat} (hf : ∀ x, (f x).size = n) : ∀ l : List α, (catB f l).size = l.length * n
  | [] => by rw [catB_nil]; simp
  | x :: l => by rw [catB_cons, ByteArray.size_append, hf, catB_size hf l, List.length_cons, Nat.add_mul]; omega
end
/-- What is put is taken, and what is taken was put. -/
structure Codec {α : Type} (f : α → ByteArray) (v : Option ByteArray → α) (r : Option ByteArray → Option ByteArray) (P : α → Prop) : Prop where
  put : ∀ x more, P x → v (some (f x ++ more)) = x ∧ r (some (f x ++ more)) = some more
  back : ∀ st t, r st = some t → ∃ s, st = some s ∧ s = f (v st) ++ t ∧ P (v st)
theorem cut_two (s : ByteArray) (k : Nat) (h : k ≤ s.size) : s = s.extract 0 k ++ s.extract k s.size := by rw [cut_join _ _ _ h (Nat.le_refl _), cut_all _ _ rfl]
theorem nextK_some {st : Option ByteArray} {k : Nat} {t : ByteArray} (h : rdNext st ((k : Nat) : Int) = some t) : ∃ s, st = some s ∧ k ≤ s.size ∧ rdPart st ((k : Nat) : Int) = s.extract 0 k ∧ t = s.extract k s.size := by
  unfold rdNext at h
  match st with
  | none => cases h
  | some s =>
    dsimp only at h
    by_cases hk : 0 ≤ ((k : Nat) : Int) ∧ ((k : Nat) : Int) ≤ ((s.size : Nat) : Int)
    · rw [if_pos hk] at h
      injection h with h
      refine ⟨s, rfl, by omega, ?_, by rw [← h]; rfl⟩
      unfold rdPart
      dsimp only
      rw [if_pos hk]
      rfl
    · rw [if_neg hk] at h
      cases h
theorem rd_part_k {a b : ByteArray} {k : Nat} (h : a.size = k) : rdPart (some (a ++ b)) ((k : Nat) : Int) = a := by subst h; exact rd_part a b
theorem rd_next_k {a b : ByteArray} {k : Nat} (h : a.size = k) : rdNext (some (a ++ b)) ((k : Nat) : Int) = some b := by subst h; exact rd_next a b
/-- A number of so many bytes. -/
def intT (k : Nat) (st : Option ByteArray) : Int := backZ (rdPart st ((k : Nat) : Int))
def intR (k : Nat) (st : Option ByteArray) : Option ByteArray := rdNext st ((k : Nat) : Int)
theorem intT_small (k : Nat) (hk : k ≤ 7) (st : Option ByteArray) : 0 ≤ intT k st ∧ intT k st < ((256 ^ k : Nat) : Int) := by
  have h0 : (0 : Int) < ((256 ^ k : Nat) : Int) := by have := Nat.pow_pos (n := k) (show 0 < 256 by decide); omega
  have he : backZ ByteArray.empty = 0 := by decide +kernel
  unfold intT rdPart
  match st with
  | none => dsimp only; rw [he]; omega
  | some s =>
    dsimp only
    split
    · exact back_small _ k (by rw [ByteArray.size_extract, Int.toNat_natCast]; omega) hk
    · rw [he]; omega
theorem intCodec (size : Int) (k : Nat) (hk : sizeK size = k) (h7 : k ≤ 7) : Codec (intB size) (intT k) (intR k) (fun n => 0 ≤ n ∧ n < ((256 ^ k : Nat) : Int)) where
  put := fun n more hn => by
    have hz : (intB size n).size = k := by rw [intB_size, hk]
    refine ⟨?_, rd_next_k hz⟩
    unfold intT
    rw [rd_part_k hz]
    exact backZ_intB hk h7 hn.1 hn.2
  back := fun st t h => by
    obtain ⟨s, rfl, h1, h2, h3⟩ := nextK_some h
    refine ⟨s, rfl, ?_, intT_small k h7 _⟩
    unfold intT
    rw [h2, intB_back size k hk (by omega) (by rw [ByteArray.size_extract]; omega), h3]
    exact cut_two s k h1
theorem int8Codec : Codec (intB 8) (intT 8) (intR 8) (fun n => -9223372036854775808 ≤ n ∧ n ≤ 9223372036854775807) where
  put := fun n more hn => by
    have hz : (intB 8 n).size = 8 := by rw [intB_size]; rfl
    refine ⟨?_, rd_next_k hz⟩
    unfold intT
    rw [rd_part_k hz]
    exact backZ_int8all hn
  back := fun st t h => by
    obtain ⟨s, rfl, h1, h2, h3⟩ := nextK_some h
    refine ⟨s, rfl, ?_, backZ_range _⟩
    unfold intT
    rw [h2, intB_back 8 8 rfl (by omega) (by rw [ByteArray.size_extract]; omega), h3]
    exact cut_two s 8 h1
/-- A number of sixteen bytes. -/
def numT (st : Option ByteArray) : Nat := valL (bytesN (rdPart st 16))
theorem numCodec : Codec numB numT (intR 16) (fun n => n < big) where
  put := fun n more hn => by
    refine ⟨?_, rd_next_k (numB_size n)⟩
    unfold numT
    rw [show (16 : Int) = ((16 : Nat) : Int) from rfl, rd_part_k (numB_size n)]
    exact valL_numB hn
  back := fun st t h => by
    obtain ⟨s, rfl, h1, h2, h3⟩ := nextK_some h
    have hz : (s.extract 0 16).size = 16 := by rw [ByteArray.size_extract]; omega
    unfold numT
    rw [show (16 : Int) = ((16 : Nat) : Int) from rfl, h2]
    refine ⟨s, rfl, ?_, num_of16 _ hz⟩
    rw [numB_valL _ hz, h3]
    exact cut_two s 16 h1
theorem one_byte (x : ByteArray) (h : x.size = 1) (hv : valL (bytesN x) ≤ 1) : x = yesB (decide (bytesN x = [1])) := by
  apply bytesN_same
  have hl : (bytesN x).length = 1 := by rw [bytesN_length, h]
  match hb : bytesN x, hl with
  | [c], _ =>
    rw [hb] at hv
    have hc : c = 0 ∨ c = 1 := by unfold valL valL at hv; omega
    rcases hc with rfl | rfl <;> decide +kernel
theorem flagCodec : Codec yesB flagYes flagNext (fun _ => True) where
  put := fun b more _ => by
    have e : rdPart (some (yesB b ++ more)) 1 = yesB b := rd_part_k (k := 1) (yesB_size b)
    unfold flagYes flagNext
    rw [e]
    cases b
    · refine ⟨by decide +kernel, ?_⟩
      rw [if_pos (by decide +kernel)]
      exact rd_next_k (k := 1) (yesB_size false)
    · refine ⟨by decide +kernel, ?_⟩
      rw [if_pos (by decide +kernel)]
      exact rd_next_k (k := 1) (yesB_size true)
  back := fun st t h => by
    unfold flagNext at h
    by_cases hv : valL (bytesN (rdPart st 1)) ≤ 1
    · rw [if_pos hv] at h
      obtain ⟨s, rfl, h1, h2, h3⟩ := nextK_some (k := 1) h
      refine ⟨s, rfl, ?_, trivial⟩
      have h2' : rdPart (some s) 1 = s.extract 0 1 := h2
      unfold flagYes
      rw [h2'] at hv ⊢
      rw [← one_byte _ (by rw [ByteArray.size_extract]; omega) hv, h3]
      exact cut_two s 1 h1
    · rw [if_neg hv] at h; cases h
theorem acctCodec : Codec accB takeA restA (fun a => a.Wf ∧ goodA a = true) where
  put := fun a more h => by
    have e : wantA a = a := by unfold wantA; rw [h.2]; rfl
    have := takeA_put h.1 more
    rw [e] at this
    exact ⟨this, restA_put a more⟩
  back := fun st t h => by
    unfold restA at h
    match st with
    | none => cases h
    | some s =>
      dsimp only at h
      by_cases hs : 96 ≤ s.size
      · rw [if_pos hs] at h
        injection h with h
        refine ⟨s, rfl, ?_, ?_⟩
        · unfold takeA
          dsimp only
          rw [if_pos hs, accB_accOf s hs, ← h]
          exact cut_two s 96 hs
        · unfold takeA
          dsimp only
          rw [if_pos hs]
          exact ⟨accOf_wf s hs, accOf_good s hs⟩
      · rw [if_neg hs] at h; cases h
theorem tranCodec : Codec traB takeT restT (fun a => a.Wf ∧ goodT a = true) where
  put := fun a more h => by
    have e : wantT a = a := by unfold wantT; rw [h.2]; rfl
    have := takeT_put h.1 more
    rw [e] at this
    exact ⟨this, restT_put a more⟩
  back := fun st t h => by
    unfold restT at h
    match st with
    | none => cases h
    | some s =>
      dsimp only at h
      by_cases hs : 108 ≤ s.size
      · rw [if_pos hs] at h
        injection h with h
        refine ⟨s, rfl, ?_, ?_⟩
        · unfold takeT
          dsimp only
          rw [if_pos hs, traB_tranOf s hs, ← h]
          exact cut_two s 108 hs
        · unfold takeT
          dsimp only
          rw [if_pos hs]
          exact ⟨tranOf_wf s hs, tranOf_good s hs⟩
      · rw [if_neg hs] at h; cases h
section
variable {α : Type} {f : α → ByteArray} {v : Option ByteArray → α} {r : Option ByteArray → Option ByteArray} {P : α → Prop}
/-- So many things taken; what is left. -/
def sevV (v : Option ByteArray → α) (r : Option ByteArray → Option ByteArray) : Nat → Option ByteArray → List α
  | 0, _ => []
  | n + 1, st => v st :: sevV v r n (r st)
def sevR (r : Option ByteArray → Option ByteArray) : Nat → Option ByteArray → Option ByteArray
  | 0, st => st
  | n + 1, st => sevR r n (r st)
theorem sevV_length : ∀ n st, (sevV v r n st).length = n
  | 0, _ => rfl
  | n + 1, st => by unfold sevV; rw [List.length_cons, sevV_length n]
theorem sevR_succ : ∀ n st, sevR r (n + 1) st = r (sevR r n st)
  | 0, _ => rfl
  | n + 1, st => by
    show sevR r (n + 1) (r st) = _
    rw [sevR_succ n]
    rfl
theorem sevV_succ : ∀ n st, sevV v r (n + 1) st = sevV v r n st ++ [v (sevR r n st)]
  | 0, _ => rfl
  | n + 1, st => by
    show v st :: sevV v r (n + 1) (r st) = _
    rw [sevV_succ n]
    rfl
theorem sev_put (C : Codec f v r P) : ∀ (l : List α) (more : ByteArray), (∀ x ∈ l, P x) → sevV v r l.length (some (catB f l ++ more)) = l ∧ sevR r l.length (some (catB f l ++ more)) = some more
  | [], more, _ => ⟨rfl, by rw [catB_nil, ByteArray.empty_append]; rfl⟩
  | x :: l, more, h => by
    obtain ⟨h1, h2⟩ := C.put x (catB f l ++ more) (h x (List.mem_cons_self ..))
    obtain ⟨k1, k2⟩ := sev_put C l more (fun y hy => h y (List.mem_cons_of_mem _ hy))
    rw [catB_cons, ByteArray.append_assoc, List.length_cons]
    constructor
    · show v _ :: sevV v r l.length (r _) = _
      rw [h1, h2, k1]
    · show sevR r l.length (r _) = _
      rw [h2, k2]
theorem sev_back (C : Codec f v r P) : ∀ (n : Nat) (st : Option ByteArray) (t : ByteArray), sevR r n st = some t → ∃ s, st = some s ∧ s = catB f (sevV v r n st) ++ t ∧ ∀ x ∈ sevV v r n st, P x
  | 0, st, t, h => ⟨t, h, by unfold sevV; rw [catB_nil, ByteArray.empty_append], fun x hx => by cases hx⟩
  | n + 1, st, t, h => by
    obtain ⟨u, h1, h2, h3⟩ := sev_back C n (r st) t h
    obtain ⟨s, h4, h5, h6⟩ := C.back st u h1
    refine ⟨s, h4, ?_, fun x hx => ?_⟩
    · show _ = catB f (v st :: sevV v r n (r st)) ++ t
      rw [catB_cons, ByteArray.append_assoc, ← h2]
      exact h5
    · rcases List.mem_cons.1 hx with e | e
      · rw [e]; exact h6
      · exact h3 x e
/-- A list: how many, and each. -/
def listB (f : α → ByteArray) (l : List α) : ByteArray := intB 1 ((l.length : Nat) : Int) ++ catB f l
def cntN (st : Option ByteArray) : Nat := (intT 1 st).toNat
def listV (v : Option ByteArray → α) (r : Option ByteArray → Option ByteArray) (st : Option ByteArray) : List α := sevV v r (cntN st) (intR 1 st)
def listR (r : Option ByteArray → Option ByteArray) (st : Option ByteArray) : Option ByteArray := sevR r (cntN st) (intR 1 st)
theorem cntN_int (st : Option ByteArray) : intT 1 st = ((cntN st : Nat) : Int) ∧ cntN st < 256 := by
  have := intT_small 1 (by decide) st
  rw [show ((256 ^ 1 : Nat) : Int) = 256 from rfl] at this
  unfold cntN
  omega
theorem listCodec (C : Codec f v r P) : Codec (listB f) (listV v r) (listR r) (fun l => l.length < 256 ∧ ∀ x ∈ l, P x) where
  put := fun l more h => by
    obtain ⟨h1, h2⟩ := (intCodec 1 1 rfl (by decide)).put ((l.length : Nat) : Int) (catB f l ++ more) ⟨by omega, by rw [show ((256 ^ 1 : Nat) : Int) = 256 from rfl]; omega⟩
    obtain ⟨k1, k2⟩ := sev_put C l more h.2
    unfold listB listV listR cntN
    rw [ByteArray.append_assoc, h1, h2]
    exact ⟨k1, k2⟩
  back := fun st t h => by
    obtain ⟨u, h1, h2, h3⟩ := sev_back C _ _ _ h
    obtain ⟨s, h4, h5, h6⟩ := (intCodec 1 1 rfl (by decide)).back st u h1
    have hl : (listV v r st).length = cntN st := sevV_length _ _
    refine ⟨s, h4, ?_, by rw [hl]; exact (cntN_int st).2, h3⟩
    unfold listB
    rw [hl, ← (cntN_int st).1, ByteArray.append_assoc]
    unfold listV
    rw [← h2]
    exact h5
end
/-- A filter. -/
def fltB (f : Flt) : ByteArray := numB f.Account ++ (intB 8 f.From ++ (intB 8 f.To ++ (yesB f.Debits ++ (yesB f.Credits ++ (yesB f.Latest ++ intB 1 f.Limit)))))
def fltV (st : Option ByteArray) : Flt :=
  ⟨numT st, intT 8 (intR 16 st), intT 8 (intR 8 (intR 16 st)), flagYes (intR 8 (intR 8 (intR 16 st))), flagYes (flagNext (intR 8 (intR 8 (intR 16 st)))), flagYes (flagNext (flagNext (intR 8 (intR 8 (intR 16 st))))),
    intT 1 (flagNext (flagNext (flagNext (intR 8 (intR 8 (intR 16 st))))))⟩
def fltR (st : Option ByteArray) : Option ByteArray := intR 1 (flagNext (flagNext (flagNext (intR 8 (intR 8 (intR 16 st))))))
theorem fltCodec : Codec fltB fltV fltR (fun f => f.Wf ∧ 0 ≤ f.Limit ∧ f.Limit < 256) where
  put := fun f more ⟨hw, hl⟩ => by
    obtain ⟨a1, b1⟩ := numCodec.put f.Account (intB 8 f.From ++ (intB 8 f.To ++ (yesB f.Debits ++ (yesB f.Credits ++ (yesB f.Latest ++ (intB 1 f.Limit ++ more)))))) hw.Account
    obtain ⟨a2, b2⟩ := int8Codec.put f.From (intB 8 f.To ++ (yesB f.Debits ++ (yesB f.Credits ++ (yesB f.Latest ++ (intB 1 f.Limit ++ more))))) hw.From
    obtain ⟨a3, b3⟩ := int8Codec.put f.To (yesB f.Debits ++ (yesB f.Credits ++ (yesB f.Latest ++ (intB 1 f.Limit ++ more)))) hw.To
    obtain ⟨a4, b4⟩ := flagCodec.put f.Debits (yesB f.Credits ++ (yesB f.Latest ++ (intB 1 f.Limit ++ more))) trivial
    obtain ⟨a5, b5⟩ := flagCodec.put f.Credits (yesB f.Latest ++ (intB 1 f.Limit ++ more)) trivial
    obtain ⟨a6, b6⟩ := flagCodec.put f.Latest (intB 1 f.Limit ++ more) trivial
    obtain ⟨a7, b7⟩ := (intCodec 1 1 rfl (by decide)).put f.Limit more hl
    unfold fltB fltV fltR
    simp only [ByteArray.append_assoc]
    rw [a1, b1, a2, b2, a3, b3, a4, b4, a5, b5, a6, b6, a7, b7]
    exact ⟨rfl, rfl⟩
  back := fun st t h => by
    obtain ⟨s7, h7, e7, p7⟩ := (intCodec 1 1 rfl (by decide)).back _ _ h
    obtain ⟨s6, h6, e6, _⟩ := flagCodec.back _ _ h7
    obtain ⟨s5, h5, e5, _⟩ := flagCodec.back _ _ h6
    obtain ⟨s4, h4, e4, _⟩ := flagCodec.back _ _ h5
    obtain ⟨s3, h3, e3, p3⟩ := int8Codec.back _ _ h4
    obtain ⟨s2, h2, e2, p2⟩ := int8Codec.back _ _ h3
    obtain ⟨s1, h1, e1, p1⟩ := numCodec.back _ _ h2
    refine ⟨s1, h1, ?_, ⟨p1, p2, p3, backZ_range _⟩, p7⟩
    unfold fltB fltV
    dsimp only
    simp only [ByteArray.append_assoc]
    rw [← e7, ← e6, ← e5, ← e4, ← e3, ← e2]
    exact e1
end Go.Proofs.Ytfdanlfiaoedfaa
