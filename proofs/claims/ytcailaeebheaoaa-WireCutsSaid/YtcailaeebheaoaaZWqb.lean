/- Stage 22: whole requests and replies as bytes. Plain: no program, no condition. -/
import Derived.Test.YtcailaeebheaoaaZWqa
namespace Go.Proofs.Ytcailaeebheaoaa
open Go Go.RowKit Wm Cr

theorem endB_iff (st : Option ByteArray) : endB st = true ↔ st = some ByteArray.empty := by
  unfold endB leftN
  match st with
  | none => simp
  | some s =>
    simp only [Option.isSome_some, Bool.true_and, decide_eq_true_eq, Option.some.injEq]
    constructor
    · intro h
      exact ByteArray.size_eq_zero_iff.1 h
    · intro h; rw [h]; rfl
/-- Names as bytes. -/
def idB (x : Idn) : ByteArray := numB x.N
def idT (st : Option ByteArray) : Idn := ⟨numT st⟩
theorem idCodec : Codec idB idT (intR 16) Idn.Wf where
  put := fun x more h => by
    obtain ⟨h1, h2⟩ := numCodec.put x.N more h.N
    unfold idB idT
    rw [h1]
    exact ⟨rfl, h2⟩
  back := fun st t h => by
    obtain ⟨s, h1, h2, h3⟩ := numCodec.back st t h
    exact ⟨s, h1, h2, ⟨h3⟩⟩
/-- Has a filter bytes? -/
def goodF (f : Flt) : Bool := decide (0 ≤ f.From ∧ 0 ≤ f.To ∧ 0 < f.Limit ∧ f.Limit < 17) && (f.Debits || f.Credits)
def fewB (n k : Nat) : Bool := decide (0 < n ∧ n < k)
/-- Has a request bytes? -/
def goodQ (q : Req) : Bool :=
  if q.Op = 1 then fewB q.Accounts.length 9 && q.Accounts.all goodA
  else if q.Op = 2 then fewB q.Transfers.length 9 && q.Transfers.all goodT
  else if q.Op = 3 then decide (0 ≤ q.Now ∧ q.Now ≤ 1099511627776)
  else if q.Op = 4 then fewB q.Ids.length 17
  else if q.Op = 5 then fewB q.Ids.length 17
  else if q.Op = 6 then goodF q.Filter else false
/-- A request's bytes. -/
def bodyQ (q : Req) : ByteArray :=
  if q.Op = 1 then listB accB q.Accounts else if q.Op = 2 then listB traB q.Transfers else if q.Op = 3 then intB 8 q.Now else if q.Op = 6 then fltB q.Filter else listB idB q.Ids
def reqB (q : Req) : ByteArray := intB 1 q.Op ++ bodyQ q
def zeroF : Flt := ⟨0, 0, 0, false, false, false, 0⟩
/-- A request of nothing but an Op. -/
def bareQ (op : Int) : Req := ⟨op, [], [], 0, [], zeroF⟩
/-- Just what its Op names. -/
def keepQ (q : Req) : Req :=
  if q.Op = 1 then ⟨q.Op, q.Accounts, [], 0, [], zeroF⟩ else if q.Op = 2 then ⟨q.Op, [], q.Transfers, 0, [], zeroF⟩ else if q.Op = 3 then ⟨q.Op, [], [], q.Now, [], zeroF⟩
  else if q.Op = 4 then ⟨q.Op, [], [], 0, q.Ids, zeroF⟩ else if q.Op = 5 then ⟨q.Op, [], [], 0, q.Ids, zeroF⟩ else if q.Op = 6 then ⟨q.Op, [], [], 0, [], q.Filter⟩ else bareQ q.Op
/-- What is taken behind an Op, and what is left. -/
def bodyV (op : Int) (st : Option ByteArray) : Req :=
  if op = 1 then ⟨op, listV takeA restA st, [], 0, [], zeroF⟩ else if op = 2 then ⟨op, [], listV takeT restT st, 0, [], zeroF⟩ else if op = 3 then ⟨op, [], [], intT 8 st, [], zeroF⟩
  else if op = 4 then ⟨op, [], [], 0, listV idT (intR 16) st, zeroF⟩ else if op = 5 then ⟨op, [], [], 0, listV idT (intR 16) st, zeroF⟩ else if op = 6 then ⟨op, [], [], 0, [], fltV st⟩ else bareQ op
def bodyR (op : Int) (st : Option ByteArray) : Option ByteArray :=
  if op = 1 then listR restA st else if op = 2 then listR restT st else if op = 3 then intR 8 st
  else if op = 4 then listR (intR 16) st else if op = 5 then listR (intR 16) st else if op = 6 then fltR st else st
/-- The request that bytes are. -/
def takeQ (s : ByteArray) : Req := bodyV (intT 1 (some s)) (intR 1 (some s))
def restQ (s : ByteArray) : Option ByteArray := bodyR (intT 1 (some s)) (intR 1 (some s))
def readQ (s : ByteArray) : Option Req := if (endB (restQ s) && goodQ (takeQ s)) = true then some (takeQ s) else none
theorem goodQ_ops {q : Req} (h : goodQ q = true) : q.Op = 1 ∨ q.Op = 2 ∨ q.Op = 3 ∨ q.Op = 4 ∨ q.Op = 5 ∨ q.Op = 6 := by
  unfold goodQ at h
  by_cases h1 : q.Op = 1
  · exact .inl h1
  by_cases h2 : q.Op = 2
  · exact .inr (.inl h2)
  by_cases h3 : q.Op = 3
  · exact .inr (.inr (.inl h3))
  by_cases h4 : q.Op = 4
  · exact .inr (.inr (.inr (.inl h4)))
  by_cases h5 : q.Op = 5
  · exact .inr (.inr (.inr (.inr (.inl h5))))
  by_cases h6 : q.Op = 6
  · exact .inr (.inr (.inr (.inr (.inr h6))))
  rw [if_neg h1, if_neg h2, if_neg h3, if_neg h4, if_neg h5, if_neg h6] at h
  cases h
section
variable {q : Req}
theorem goodQ_1 (h : q.Op = 1) : goodQ q = (fewB q.Accounts.length 9 && q.Accounts.all goodA) := by unfold goodQ; rw [if_pos h]
theorem goodQ_2 (h : q.Op = 2) : goodQ q = (fewB q.Transfers.length 9 && q.Transfers.all goodT) := by unfold goodQ; rw [if_neg (by omega), if_pos h]
theorem goodQ_3 (h : q.Op = 3) : goodQ q = decide (0 ≤ q.Now ∧ q.Now ≤ 1099511627776) := by unfold goodQ; rw [if_neg (by omega), if_neg (by omega), if_pos h]
theorem goodQ_4 (h : q.Op = 4) : goodQ q = fewB q.Ids.length 17 := by unfold goodQ; rw [if_neg (by omega), if_neg (by omega), if_neg (by omega), if_pos h]
theorem goodQ_5 (h : q.Op = 5) : goodQ q = fewB q.Ids.length 17 := by unfold goodQ; rw [if_neg (by omega), if_neg (by omega), if_neg (by omega), if_neg (by omega), if_pos h]
theorem goodQ_6 (h : q.Op = 6) : goodQ q = goodF q.Filter := by unfold goodQ; rw [if_neg (by omega), if_neg (by omega), if_neg (by omega), if_neg (by omega), if_neg (by omega), if_pos h]
theorem goodQ_0 (h : ¬ (1 ≤ q.Op ∧ q.Op ≤ 6)) : goodQ q = false := by unfold goodQ; rw [if_neg (by omega), if_neg (by omega), if_neg (by omega), if_neg (by omega), if_neg (by omega), if_neg (by omega)]
theorem bodyQ_1 (h : q.Op = 1) : bodyQ q = listB accB q.Accounts := by unfold bodyQ; rw [if_pos h]
theorem bodyQ_2 (h : q.Op = 2) : bodyQ q = listB traB q.Transfers := by unfold bodyQ; rw [if_neg (by omega), if_pos h]
theorem bodyQ_3 (h : q.Op = 3) : bodyQ q = intB 8 q.Now := by unfold bodyQ; rw [if_neg (by omega), if_neg (by omega), if_pos h]
theorem bodyQ_6 (h : q.Op = 6) : bodyQ q = fltB q.Filter := by unfold bodyQ; rw [if_neg (by omega), if_neg (by omega), if_neg (by omega), if_pos h]
theorem bodyQ_x (h1 : q.Op ≠ 1) (h2 : q.Op ≠ 2) (h3 : q.Op ≠ 3) (h6 : q.Op ≠ 6) : bodyQ q = listB idB q.Ids := by unfold bodyQ; rw [if_neg h1, if_neg h2, if_neg h3, if_neg h6]
end
theorem all_mem {α : Type} {f : α → Bool} {l : List α} (h : l.all f = true) : ∀ x ∈ l, f x = true := fun x hx => List.all_eq_true.1 h x hx
theorem bodyQ_put (q : Req) (hw : q.Wf) (hg : goodQ q = true) (more : ByteArray) : bodyV q.Op (some (bodyQ q ++ more)) = keepQ q ∧ bodyR q.Op (some (bodyQ q ++ more)) = some more := by
  have hops := goodQ_ops hg
  rcases hops with h | h | h | h | h | h
  · rw [goodQ_1 h, Bool.and_eq_true] at hg
    have hn := of_decide_eq_true hg.1
    obtain ⟨h1, h2⟩ := (listCodec acctCodec).put q.Accounts more ⟨by omega, fun x hx => ⟨hw.Accounts x hx, all_mem hg.2 x hx⟩⟩
    rw [bodyQ_1 h]
    unfold bodyV bodyR keepQ
    rw [if_pos h, if_pos h, if_pos h, h1, h2]
    exact ⟨rfl, rfl⟩
  · rw [goodQ_2 h, Bool.and_eq_true] at hg
    have hn := of_decide_eq_true hg.1
    obtain ⟨h1, h2⟩ := (listCodec tranCodec).put q.Transfers more ⟨by omega, fun x hx => ⟨hw.Transfers x hx, all_mem hg.2 x hx⟩⟩
    rw [bodyQ_2 h]
    unfold bodyV bodyR keepQ
    have n1 : ¬ q.Op = 1 := by omega
    simp only [if_neg n1, if_pos h, h1, h2]
    first | exact ⟨rfl, rfl⟩ | exact ⟨trivial, trivial⟩ | exact ⟨trivial, rfl⟩ | exact ⟨rfl, trivial⟩
  · obtain ⟨h1, h2⟩ := int8Codec.put q.Now more hw.Now
    rw [bodyQ_3 h]
    unfold bodyV bodyR keepQ
    have n1 : ¬ q.Op = 1 := by omega
    have n2 : ¬ q.Op = 2 := by omega
    simp only [if_neg n1, if_neg n2, if_pos h, h1, h2]
    first | exact ⟨rfl, rfl⟩ | exact ⟨trivial, trivial⟩ | exact ⟨trivial, rfl⟩ | exact ⟨rfl, trivial⟩
  · rw [goodQ_4 h] at hg
    have hn := of_decide_eq_true hg
    obtain ⟨h1, h2⟩ := (listCodec idCodec).put q.Ids more ⟨by omega, hw.Ids⟩
    have n1 : ¬ q.Op = 1 := by omega
    have n2 : ¬ q.Op = 2 := by omega
    have n3 : ¬ q.Op = 3 := by omega
    rw [bodyQ_x n1 n2 n3 (by omega)]
    unfold bodyV bodyR keepQ
    simp only [if_neg n1, if_neg n2, if_neg n3, if_pos h, h1, h2]
    first | exact ⟨rfl, rfl⟩ | exact ⟨trivial, trivial⟩ | exact ⟨trivial, rfl⟩ | exact ⟨rfl, trivial⟩
  · rw [goodQ_5 h] at hg
    have hn := of_decide_eq_true hg
    obtain ⟨h1, h2⟩ := (listCodec idCodec).put q.Ids more ⟨by omega, hw.Ids⟩
    have n1 : ¬ q.Op = 1 := by omega
    have n2 : ¬ q.Op = 2 := by omega
    have n3 : ¬ q.Op = 3 := by omega
    have n4 : ¬ q.Op = 4 := by omega
    rw [bodyQ_x n1 n2 n3 (by omega)]
    unfold bodyV bodyR keepQ
    simp only [if_neg n1, if_neg n2, if_neg n3, if_neg n4, if_pos h, h1, h2]
    first | exact ⟨rfl, rfl⟩ | exact ⟨trivial, trivial⟩ | exact ⟨trivial, rfl⟩ | exact ⟨rfl, trivial⟩
  · rw [goodQ_6 h] at hg
    unfold goodF at hg
    rw [Bool.and_eq_true] at hg
    have hn := of_decide_eq_true hg.1
    obtain ⟨h1, h2⟩ := fltCodec.put q.Filter more ⟨hw.Filter, by omega, by omega⟩
    have n1 : ¬ q.Op = 1 := by omega
    have n2 : ¬ q.Op = 2 := by omega
    have n3 : ¬ q.Op = 3 := by omega
    have n4 : ¬ q.Op = 4 := by omega
    have n5 : ¬ q.Op = 5 := by omega
    rw [bodyQ_6 h]
    unfold bodyV bodyR keepQ
    simp only [if_neg n1, if_neg n2, if_neg n3, if_neg n4, if_neg n5, if_pos h, h1, h2]
    first | exact ⟨rfl, rfl⟩ | exact ⟨trivial, trivial⟩ | exact ⟨trivial, rfl⟩ | exact ⟨rfl, trivial⟩
theorem take_put (q : Req) (hw : q.Wf) (hg : goodQ q = true) (more : ByteArray) : takeQ (reqB q ++ more) = keepQ q ∧ restQ (reqB q ++ more) = some more := by
  have hop : 0 ≤ q.Op ∧ q.Op < ((256 ^ 1 : Nat) : Int) := by
    rw [show ((256 ^ 1 : Nat) : Int) = 256 from rfl]
    rcases goodQ_ops hg with h | h | h | h | h | h <;> omega
  obtain ⟨h1, h2⟩ := (intCodec 1 1 rfl (by decide)).put q.Op (bodyQ q ++ more) hop
  unfold takeQ restQ reqB
  rw [ByteArray.append_assoc, h1, h2]
  exact bodyQ_put q hw hg more
theorem keepQ_op (q : Req) : (keepQ q).Op = q.Op := by
  unfold keepQ bareQ
  repeat' split
  all_goals rfl
theorem keepQ_good (q : Req) : goodQ (keepQ q) = goodQ q := by
  unfold keepQ
  split
  · rename_i h; refine Eq.trans (goodQ_1 ?_) (goodQ_1 h).symm; exact h
  split
  · rename_i h; refine Eq.trans (goodQ_2 ?_) (goodQ_2 h).symm; exact h
  split
  · rename_i h; refine Eq.trans (goodQ_3 ?_) (goodQ_3 h).symm; exact h
  split
  · rename_i h; refine Eq.trans (goodQ_4 ?_) (goodQ_4 h).symm; exact h
  split
  · rename_i h; refine Eq.trans (goodQ_5 ?_) (goodQ_5 h).symm; exact h
  split
  · rename_i h; refine Eq.trans (goodQ_6 ?_) (goodQ_6 h).symm; exact h
  · rename_i n1 n2 n3 n4 n5 n6
    have hn : ¬ (1 ≤ q.Op ∧ q.Op ≤ 6) := by omega
    rw [goodQ_0 hn, goodQ_0 (q := bareQ q.Op) hn]
theorem keepQ_body (q : Req) (hg : goodQ q = true) : bodyQ (keepQ q) = bodyQ q := by
  unfold keepQ
  split
  · rename_i h; refine Eq.trans (bodyQ_1 ?_) (bodyQ_1 h).symm; exact h
  split
  · rename_i h; refine Eq.trans (bodyQ_2 ?_) (bodyQ_2 h).symm; exact h
  split
  · rename_i h; refine Eq.trans (bodyQ_3 ?_) (bodyQ_3 h).symm; exact h
  split
  · rename_i n1 n2 n3 h; refine Eq.trans (bodyQ_x ?_ ?_ ?_ ?_) (bodyQ_x (q := q) n1 n2 n3 (by omega)).symm; exact n1; exact n2; exact n3; show q.Op ≠ 6; omega
  split
  · rename_i n1 n2 n3 _ h; refine Eq.trans (bodyQ_x ?_ ?_ ?_ ?_) (bodyQ_x (q := q) n1 n2 n3 (by omega)).symm; exact n1; exact n2; exact n3; show q.Op ≠ 6; omega
  split
  · rename_i h; refine Eq.trans (bodyQ_6 ?_) (bodyQ_6 h).symm; exact h
  · rename_i n1 n2 n3 n4 n5 n6
    rcases goodQ_ops hg with h | h | h | h | h | h <;> contradiction
theorem keepQ_bytes (q : Req) (hg : goodQ q = true) : reqB (keepQ q) = reqB q := by
  unfold reqB
  rw [keepQ_op, keepQ_body q hg]
theorem read_put (q : Req) (hw : q.Wf) (hg : goodQ q = true) : readQ (reqB q) = some (keepQ q) := by
  have h := take_put q hw hg ByteArray.empty
  rw [ByteArray.append_empty] at h
  unfold readQ
  rw [h.1, h.2, keepQ_good, hg, (endB_iff _).2 rfl]
  rfl
theorem zeroF_wf : zeroF.Wf := by
  have h : (0 : Nat) < big := by rw [big_eq]; omega
  refine ⟨h, ?_, ?_, ?_⟩ <;> (unfold zeroF; constructor <;> decide)
theorem bodyQ_back (op : Int) (st : Option ByteArray) (t : ByteArray) (hg : goodQ (bodyV op st) = true) (h : bodyR op st = some t) : ∃ s, st = some s ∧ s = bodyQ (bodyV op st) ++ t ∧ ((-9223372036854775808 ≤ op ∧ op ≤ 9223372036854775807) → (bodyV op st).Wf) ∧ (bodyV op st).Op = op := by
  have z : (-9223372036854775808 : Int) ≤ 0 ∧ (0 : Int) ≤ 9223372036854775807 := by omega
  unfold bodyV at hg ⊢
  unfold bodyR at h
  by_cases h1 : op = 1
  · simp only [if_pos h1] at hg h ⊢
    obtain ⟨s, a, b, c⟩ := (listCodec acctCodec).back st t h
    exact ⟨s, a, by rw [bodyQ_1 h1]; exact b, fun ho => ⟨ho, fun x hx => (c.2 x hx).1, fun x hx => (by cases hx), z, fun x hx => (by cases hx), zeroF_wf⟩, trivial⟩
  by_cases h2 : op = 2
  · simp only [if_neg h1, if_pos h2] at hg h ⊢
    obtain ⟨s, a, b, c⟩ := (listCodec tranCodec).back st t h
    exact ⟨s, a, by rw [bodyQ_2 h2]; exact b, fun ho => ⟨ho, fun x hx => (by cases hx), fun x hx => (c.2 x hx).1, z, fun x hx => (by cases hx), zeroF_wf⟩, trivial⟩
  by_cases h3 : op = 3
  · simp only [if_neg h1, if_neg h2, if_pos h3] at hg h ⊢
    obtain ⟨s, a, b, c⟩ := int8Codec.back st t h
    exact ⟨s, a, by rw [bodyQ_3 h3]; exact b, fun ho => ⟨ho, fun x hx => (by cases hx), fun x hx => (by cases hx), c, fun x hx => (by cases hx), zeroF_wf⟩, trivial⟩
  by_cases h4 : op = 4
  · simp only [if_neg h1, if_neg h2, if_neg h3, if_pos h4] at hg h ⊢
    obtain ⟨s, a, b, c⟩ := (listCodec idCodec).back st t h
    exact ⟨s, a, by rw [bodyQ_x h1 h2 h3 (by show op ≠ 6; omega)]; exact b, fun ho => ⟨ho, fun x hx => (by cases hx), fun x hx => (by cases hx), z, c.2, zeroF_wf⟩, trivial⟩
  by_cases h5 : op = 5
  · simp only [if_neg h1, if_neg h2, if_neg h3, if_neg h4, if_pos h5] at hg h ⊢
    obtain ⟨s, a, b, c⟩ := (listCodec idCodec).back st t h
    exact ⟨s, a, by rw [bodyQ_x h1 h2 h3 (by show op ≠ 6; omega)]; exact b, fun ho => ⟨ho, fun x hx => (by cases hx), fun x hx => (by cases hx), z, c.2, zeroF_wf⟩, trivial⟩
  by_cases h6 : op = 6
  · simp only [if_neg h1, if_neg h2, if_neg h3, if_neg h4, if_neg h5, if_pos h6] at hg h ⊢
    obtain ⟨s, a, b, c⟩ := fltCodec.back st t h
    exact ⟨s, a, by rw [bodyQ_6 h6]; exact b, fun ho => ⟨ho, fun x hx => (by cases hx), fun x hx => (by cases hx), z, fun x hx => (by cases hx), c.1⟩, trivial⟩
  · simp only [if_neg h1, if_neg h2, if_neg h3, if_neg h4, if_neg h5, if_neg h6] at hg
    rw [goodQ_0 (q := bareQ op) (by show ¬ (1 ≤ op ∧ op ≤ 6); omega)] at hg
    cases hg
theorem take_back (s t : ByteArray) (hg : goodQ (takeQ s) = true) (h : restQ s = some t) : s = reqB (takeQ s) ++ t ∧ (takeQ s).Wf := by
  obtain ⟨u, h1, h2, h3, h4⟩ := bodyQ_back _ _ t hg h
  obtain ⟨s', e1, e2, e3⟩ := (intCodec 1 1 rfl (by decide)).back _ _ h1
  injection e1 with e1
  subst e1
  refine ⟨?_, h3 (backZ_range _)⟩
  unfold reqB
  rw [show (takeQ s).Op = intT 1 (some s) from h4, ByteArray.append_assoc]
  rw [show bodyQ (takeQ s) ++ t = u from h2.symm]
  exact e2
theorem read_some {s : ByteArray} {q : Req} (h : readQ s = some q) : q = takeQ s ∧ restQ s = some ByteArray.empty ∧ goodQ q = true := by
  unfold readQ at h
  by_cases hc : (endB (restQ s) && goodQ (takeQ s)) = true
  · rw [if_pos hc] at h
    injection h with h
    rw [Bool.and_eq_true] at hc
    exact ⟨h.symm, (endB_iff _).1 hc.1, by rw [← h]; exact hc.2⟩
  · rw [if_neg hc] at h; cases h
theorem read_back {s : ByteArray} {q : Req} (h : readQ s = some q) : reqB q = s ∧ goodQ q = true ∧ q.Wf := by
  obtain ⟨rfl, h2, h3⟩ := read_some h
  obtain ⟨h4, h5⟩ := take_back s _ h3 h2
  rw [ByteArray.append_empty] at h4
  exact ⟨h4.symm, h3, h5⟩
/-- Something behind a request's bytes, or less than they are: none. -/
theorem read_more (q : Req) (hw : q.Wf) (hg : goodQ q = true) (more : ByteArray) (hm : 0 < more.size) : readQ (reqB q ++ more) = none := by
  have h := take_put q hw hg more
  unfold readQ
  rw [h.2]
  have : endB (some more) = false := by
    show (true && decide (more.size = 0)) = false
    rw [decide_eq_false (by omega)]
    rfl
  rw [this]
  rfl
theorem read_less (q : Req) (hw : q.Wf) (hg : goodQ q = true) (i : Nat) (hi : i < (reqB q).size) : readQ ((reqB q).extract 0 i) = none := by
  match hr : readQ ((reqB q).extract 0 i) with
  | none => rfl
  | some x =>
    exfalso
    obtain ⟨h1, h2, h3⟩ := read_back hr
    have hs := cut_two (reqB q) i (by omega)
    have hm : 0 < ((reqB q).extract i (reqB q).size).size := by rw [ByteArray.size_extract]; omega
    rw [← h1] at hs
    have h4 := read_more x h3 h2 _ hm
    rw [← hs, read_put q hw hg] at h4
    cases h4
theorem read_ops (s : ByteArray) (h : ¬ (1 ≤ intT 1 (some s) ∧ intT 1 (some s) ≤ 6)) : readQ s = none := by
  have : takeQ s = bareQ (intT 1 (some s)) := by
    unfold takeQ bodyV
    rw [if_neg (by omega), if_neg (by omega), if_neg (by omega), if_neg (by omega), if_neg (by omega), if_neg (by omega)]
  unfold readQ
  rw [this, goodQ_0 (q := bareQ (intT 1 (some s))) h, Bool.and_false]
  rfl

end Go.Proofs.Ytcailaeebheaoaa
