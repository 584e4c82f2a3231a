/- Stage 22: whole requests and replies as bytes. Plain: no program, no condition. -/
import Derived.Test.YtfdanlfiaoedfaaZWqa
namespace Go.Proofs.Ytfdanlfiaoedfaa
open Go Go.RowKit Wm Cr

theorem endB_iff (st : Option ByteArray) : endB st = true ↔ st = some ByteArray.empty := by
  unfold endB leftN
  match st with
  | none => simp
  | some s =>
    simp only [Option.isSome_some, Bool.true_and, decide_eq_true_eq, Option.some.injEq]
    constructor
    · intro h
      exact ByteArray.size_eq_zero_iff.1 h
    · intro h; rw [h]; rfl
/-- Names as bytes. -/
def idB (x : Idn) : ByteArray := numB x.N
def idT (st : Option ByteArray) : Idn := ⟨numT st⟩
theorem idCodec : Codec idB idT (intR 16) Idn.Wf where
  put := fun x more h => by
    obtain ⟨h1, h2⟩ := numCodec.put x.N more h.N
    unfold idB idT
    rw [h1]
    exact ⟨rfl, h2⟩
  back := fun st t h => by
    obtain ⟨s, h1, h2, h3⟩ := numCodec.back st t h
    exact ⟨s, h1, h2, ⟨h3⟩⟩
/-- Has a filter bytes? -/
def goodF (f : Flt) : Bool := decide (0 ≤ f.From ∧ 0 ≤ f.To ∧ 0 < f.Limit ∧ f.Limit < 17) && (f.Debits || f.Credits)
def fewB (n k : Nat) : Bool := decide (0 < n ∧ n < k)
/-- Has a request bytes? -/
def goodQ (q : Req) : Bool :=
  if q.Op = 1 then fewB q.Accounts.length 9 && q.Accounts.all goodA
  else if q.Op = 2 then fewB q.Transfers.length 9 && q.Transfers.all goodT
  else if q.Op = 3 then decide (0 ≤ q.Now ∧ q.Now ≤ 1099511627776)
  else if q.Op = 4 then fewB q.Ids.length 17
  else if q.Op = 5 then fewB q.Ids.length 17
  else if q.Op = 6 then goodF q.Filter else false
/-- A request's bytes. -/
def bodyQ (q : Req) : ByteArray :=
  if q.Op = 1 then listB accB q.Accounts else if q.Op = 2 then listB traB q.Transfers else if q.Op = 3 then intB 8 q.Now else if q.Op = 6 then fltB q.Filter else listB idB q.Ids
def reqB (q : Req) : ByteArray := intB 1 q.Op ++ bodyQ q
def zeroF : Flt := ⟨0, 0, 0, false, false, false, 0⟩
/-- A request of nothing but an Op. -/
def bareQ (op : Int) : Req := ⟨op, [], [], 0, [], zeroF⟩
/-- Just what its Op names. -/
def keepQ (q : Req) : Req :=
  if q.Op = 1 then ⟨q.Op, q.Accounts, [], 0, [], zeroF⟩ else if q.Op = 2 then ⟨q.Op, [], q.Transfers, 0, [], zeroF⟩ else if q.Op = 3 then ⟨q.Op, [], [], q.Now, [], zeroF⟩
  else if q.Op = 4 then ⟨q.Op, [], [], 0, q.Ids, zeroF⟩ else if q.Op = 5 then ⟨q.Op, [], [], 0, q.Ids, zeroF⟩ else if q.Op = 6 then ⟨q.Op, [], [], 0, [], q.Filter⟩ else bareQ q.Op
/-- What is taken behind an Op, and what is left. -/
def bodyV (op : Int) (st : Option ByteArray) : Req :=
  if op = 1 then ⟨op, listV takeA restA st, [], 0, [], zeroF⟩ else if op = 2 then ⟨op, [], listV takeT restT st, 0, [], zeroF⟩ else if op = 3 then ⟨op, [], [], intT 8 st, [], zeroF⟩
  else if op = 4 then ⟨op, [], [], 0, listV idT (intR 16) st, zeroF⟩ else if op = 5 then ⟨op, [], [], 0, listV idT (intR 16) st, zeroF⟩ else if op = 6 then ⟨op, [], [], 0, [], fltV st⟩ else bareQ op
def bodyR (op : Int) (st : Option ByteArray) : Option ByteArray :=
  if op = 1 then listR restA st else if op = 2 then listR restT st else if op = 3 then intR 8 st
  else if op = 4 then listR (intR 16) st else if op = 5 then listR (intR 16) st else if op = 6 then fltR st else st
/-- The request that bytes are. -/
def takeQ (s : ByteArray) : Req := bodyV (intT 1 (some s)) (intR 1 (some s))
def restQ (s : ByteArray) : Option ByteArray := bodyR (intT 1 (some s)) (intR 1 (some s))
def readQ (s : ByteArray) : Option Req := if (endB (restQ s) && goodQ (takeQ s)) = true then some (takeQ s) else none
theorem goodQ_ops {q : Req} (h : goodQ q = true) : q.Op = 1 ∨ q.Op = 2 ∨ q.Op = 3 ∨ q.Op = 4 ∨ q.Op = 5 ∨ q.Op = 6 := by
  unfold goodQ at h
  by_cases h1 : q.Op = 1
  · exact .inl h1
  by_cases h2 : q.Op = 2
  · exact .inr (.inl h2)
  by_cases h3 : q.Op = 3
  · exact .inr (.inr (.inl h3))
  by_cases h4 : q.Op = 4
  · exact .inr (.inr (.inr (.inl h4)))
  by_cases h5 : q.Op = 5
  · exact .inr (.inr (.inr (.inr (.inl h5))))
  by_cases h6 : q.Op = 6
  · exact .inr (.inr (.inr (.inr (.inr h6))))
  rw [if_neg h1, if_neg h2, if_neg h3, if_neg h4, if_neg h5, if_neg h6] at h
  cases h
section
variable {q : Req}
theorem goodQ_1 (h : q.Op = 1) : goodQ q = (fewB q.Accounts.length 9 && q.Accounts.all goodA) := by unfold goodQ; rw [if_pos h]
theorem goodQ_2 (h : q.Op = 2) : goodQ q = (fewB q.Transfers.length 9 && q.Transfers.all goodT) := by unfold goodQ; rw [if_neg (by omega), if_pos h]
theorem goodQ_3 (h : q.Op = 3) : goodQ q = decide (0 ≤ q.Now ∧ q.Now ≤ 1099511627776) := by unfold goodQ; rw [if_neg (by omega), if_neg (by omega), if_pos h]
theorem goodQ_4 (h : q.Op = 4) : goodQ q = fewB q.Ids.length 17 := by unfold goodQ; rw [if_neg (by omega), if_neg (by omega), if_neg (by omega), if_pos h]
theorem goodQ_5 (h : q.Op = 5) : goodQ q = fewB q.Ids.length 17 := by unfold goodQ; rw [if_neg (by omega), if_neg (by omega), if_neg (by omega), if_neg (by omega), if_pos h]
theorem goodQ_6 (h : q.Op = 6) : goodQ q = goodF q.Filter := by unfold goodQ; rw [if_neg (by omega), if_neg (by omega), if_neg (by omega), if_neg (by omega), if_neg (by omega), if_pos h]
theorem goodQ_0 (h : ¬ (1 ≤ q.Op ∧ q.Op ≤ 6)) : goodQ q = false := by unfold goodQ; rw [if_neg (by omega), if_neg (by omega), if_neg (by omega), if_neg (by omega), if_neg (by omega), if_neg (by omega)]
theorem bodyQ_1 (h : q.Op = 1) : bodyQ q = listB accB q.Accounts := by unfold bodyQ; rw [if_pos h]
theorem bodyQ_2 (h : q.Op = 2) : bodyQ q = listB traB q.Transfers := by unfold bodyQ; rw [if_neg (by omega), if_pos h]
theorem bodyQ_3 (h : q.Op = 3) : bodyQ q = intB 8 q.Now := by unfold bodyQ; rw [if_neg (by omega), if_neg (by omega), if_pos h]
theorem bodyQ_6 (h : q.Op = 6) : bodyQ q = fltB q.Filter := by unfold bodyQ; rw [if_neg (by omega), if_neg (by omega), if_neg (by omega), if_pos h]
theorem bodyQ_x (h1 : q.Op ≠ 1) (h2 : q.Op ≠ 2) (h3 : q.Op ≠ 3) (h6 : q.Op ≠ 6) : bodyQ q = listB idB q.Ids := by unfold bodyQ; rw [if_neg h1, if_neg h2, if_neg h3, if_neg h6]
end
theorem all_mem {α : Type} {f : α → Bool} {l : List α} (h : l.all f = true) : ∀ x ∈ l, f x = true := fun x hx => List.all_eq_true.1 h x hx
theorem bodyQ_put (q : Req) (hw : q.Wf) (hg : goodQ q = true) (more : ByteArray) : bodyV q.Op (some (bodyQ q ++ more)) = keepQ q ∧ bodyR q.Op (some (bodyQ q ++ more)) = some more := by
  have hops := goodQ_ops hg
  rcases hops with h | h | h | h | h | h
  · rw [goodQ_1 h, Bool.and_eq_true] at hg
    have hn := of_decide_eq_true hg.1
    obtain ⟨h1, h2⟩ := (listCodec acctCodec).put q.Accounts more ⟨by omega, fun x hx => ⟨hw.Accounts x hx, all_mem hg.2 x hx⟩⟩
    rw [bodyQ_1 h]
    unfold bodyV bodyR keepQ
    rw [if_pos h, if_pos h, if_pos h, h1, h2]
    exact ⟨rfl, rfl⟩
  · rw [goodQ_2 h, Bool.and_eq_true] at hg
    have hn := of_decide_eq_true hg.1
    obtain ⟨h1, h2⟩ := (listCodec tranCodec).put q.Transfers more ⟨by omega, fun x hx => ⟨hw.Transfers x hx, all_mem hg.2 x hx⟩⟩
    rw [bodyQ_2 h]
    unfold bodyV bodyR keepQ
    have n1 : ¬ q.Op = 1 := by omega
    simp only [if_neg n1, if_pos h, h1, h2]
    first | exact ⟨rfl, rfl⟩ | exact ⟨trivial, trivial⟩ | exact ⟨trivial, rfl⟩ | exact ⟨rfl, trivial⟩
  · obtain ⟨h1, h2⟩ := int8Codec.put q.Now more hw.Now
    rw [bodyQ_3 h]
    unfold bodyV bodyR keepQ
    have n1 : ¬ q.Op = 1 := by omega
    have n2 : ¬ q.Op = 2 := by omega
    simp only [if_neg n1, if_neg n2, if_pos h, h1, h2]
    first | exact ⟨rfl, rfl⟩ | exact ⟨trivial, trivial⟩ | exact ⟨trivial, rfl⟩ | exact ⟨rfl, trivial⟩
  · rw [goodQ_4 h] at hg
    have hn := of_decide_eq_true hg
    obtain ⟨h1, h2⟩ := (listCodec idCodec).put q.Ids more ⟨by omega, hw.Ids⟩
    have n1 : ¬ q.Op = 1 := by omega
    have n2 : ¬ q.Op = 2 := by omega
    have n3 : ¬ q.Op = 3 := by omega
    rw [bodyQ_x n1 n2 n3 (by omega)]
    unfold bodyV bodyR keepQ
    simp only [if_neg n1, if_neg n2, if_neg n3, if_pos h, h1, h2]
    first | exact ⟨rfl, rfl⟩ | exact ⟨trivial, trivial⟩ | exact ⟨trivial, rfl⟩ | exact ⟨rfl, trivial⟩
  · rw [goodQ_5 h] at hg
    have hn := of_decide_eq_true hg
    obtain ⟨h1, h2⟩ := (listCodec idCodec).put q.Ids more ⟨by omega, hw.Ids⟩
    have n1 : ¬ q.Op = 1 := by omega
    have n2 : ¬ q.Op = 2 := by omega
    have n3 : ¬ q.Op = 3 := by omega
    have n4 : ¬ q.Op = 4 := by omega
    rw [bodyQ_x n1 n2 n3 (by omega)]
    unfold bodyV bodyR keepQ
    simp only [if_neg n1, if_neg n2, if_neg n3, if_neg n4, if_pos h, h1, h2]
    first | exact ⟨rfl, rfl⟩ | exact ⟨trivial, trivial⟩ | exact ⟨trivial, rfl⟩ | exact ⟨rfl, trivial⟩
  · rw [goodQ_6 h] at hg
    unfold goodF at hg
    rw [Bool.and_eq_true] at hg
    have hn := of_decide_eq_true hg.1
    obtain ⟨h1, h2⟩ := fltCodec.put q.Filter more ⟨hw.Filter, by omega, by omega⟩
    have n1 : ¬ q.Op = 1 := by omega
    have n2 : ¬ q.Op = 2 := by omega
    have n3 : ¬ q.Op = 3 := by omega
    have n4 : ¬ q.Op = 4 := by omega
    have n5 : ¬ q.Op = 5 := by omega
    rw [bodyQ_6 h]
    unfold bodyV bodyR keepQ
    simp only [if_neg n1, if_neg n2, if_neg n3, if_neg n4, if_neg n5, if_pos h, h1, h2]
    first | exact ⟨rfl, rfl⟩ | exact ⟨trivial, trivial⟩ | exact ⟨trivial, rfl⟩ | exact ⟨rfl, trivial⟩
theorem take_put (q : Req) (hw : q.Wf) (hg : goodQ q = true) (more : ByteArray) : takeQ (reqB q ++ more) = keepQ q ∧ restQ (reqB q ++ more) = some more := by
  have hop : 0 ≤ q.Op ∧ q.Op < ((256 ^ 1 : Nat) : Int) := by
    rw [show ((256 ^ 1 : Nat) : Int) = 256 from rfl]
    rcases goodQ_ops hg with h | h | h | h | h | h <;> omega
  obtain ⟨h1, h2⟩ := (intCodec 1 1 rfl (by decide)).put q.Op (bodyQ q ++ more) hop
  unfold takeQ restQ reqB
  rw [ByteArray.append_assoc, h1, h2]
  exact bodyQ_put q hw hg more
theorem keepQ_good (q : Req) : goodQ (keepQ q) = goodQ q := by
  unfold keepQ
  split
  · rename_i h; refine Eq.trans (goodQ_1 ?_) (goodQ_1 h).symm; exact h
  split
  · rename_i h; refine Eq.trans (goodQ_2 ?_) (goodQ_2 h).symm; exact h
  split
  · rename_i h; refine Eq.trans (goodQ_3 ?_) (goodQ_3 h).symm; exact h
  split
  · rename_i h; refine Eq.trans (goodQ_4 ?_) (goodQ_4 h).symm; exact h
  split
  · rename_i h; refine Eq.trans (goodQ_5 ?_) (goodQ_5 h).symm; exact h
  split
  · rename_i h; refine Eq.trans (goodQ_6 ?_) (goodQ_6 h).symm; exact h
  · rename_i n1 n2 n3 n4 n5 n6
    have hn : ¬ (1 ≤ q.Op ∧ q.Op ≤ 6) := by omega
    rw [goodQ_0 hn, goodQ_0 (q := bareQ q.Op) hn]
theorem read_put (q : Req) (hw : q.Wf) (hg : goodQ q = true) : readQ (reqB q) = some (keepQ q) := by
  have h := take_put q hw hg ByteArray.empty
  rw [ByteArray.append_empty] at h
  unfold readQ
  rw [h.1, h.2, keepQ_good, hg, (endB_iff _).2 rfl]
  rfl
theorem zeroF_wf : zeroF.Wf := by
  have h : (0 : Nat) < big := by rw [big_eq]; omega
  refine ⟨h, ?_, ?_, ?_⟩ <;> (unfold zeroF; constructor <;> decide)
/-- Has a number of an error, or of a result, bytes? -/
def codeB (n : Int) : Bool := decide (0 ≤ n ∧ n ≤ 255)
def resB (x : Resu) : ByteArray := intB 1 x.N
def resT (st : Option ByteArray) : Resu := ⟨intT 1 st⟩
def codeR (x : Resu) : Bool := codeB x.N
theorem resCodec : Codec resB resT (intR 1) (fun x => x.Wf ∧ codeR x = true) where
  put := fun x more h => by
    have hc := of_decide_eq_true h.2
    obtain ⟨h1, h2⟩ := (intCodec 1 1 rfl (by decide)).put x.N more ⟨hc.1, by rw [show ((256 ^ 1 : Nat) : Int) = 256 from rfl]; omega⟩
    unfold resB resT
    rw [h1]
    exact ⟨rfl, h2⟩
  back := fun st t h => by
    obtain ⟨s, h1, h2, h3⟩ := (intCodec 1 1 rfl (by decide)).back st t h
    rw [show ((256 ^ 1 : Nat) : Int) = 256 from rfl] at h3
    exact ⟨s, h1, h2, ⟨backZ_range _⟩, decide_eq_true (by show 0 ≤ intT 1 st ∧ intT 1 st ≤ 255; omega)⟩
/-- Has a reply bytes? -/
def fitsP (p : Rep) : Bool :=
  codeB p.Err && (decide (p.Results.length ≤ 16) && (decide (p.Accounts.length ≤ 16) && (decide (p.Transfers.length ≤ 16) && (p.Results.all codeR && (p.Accounts.all goodA && p.Transfers.all goodT)))))
def partsB (p : Rep) : ByteArray := intB 1 p.Err ++ (listB resB p.Results ++ (listB accB p.Accounts ++ listB traB p.Transfers))
def longP : Rep := ⟨3, [], [], []⟩
def saidP (p : Rep) : Rep := if fitsP p = true then p else longP
def repB (p : Rep) : ByteArray := partsB (saidP p)
def repT (st : Option ByteArray) : Rep :=
  ⟨intT 1 st, listV resT (intR 1) (intR 1 st), listV takeA restA (listR (intR 1) (intR 1 st)), listV takeT restT (listR restA (listR (intR 1) (intR 1 st)))⟩
def repR (st : Option ByteArray) : Option ByteArray := listR restT (listR restA (listR (intR 1) (intR 1 st)))
def readP (s : ByteArray) : Option Rep := if (endB (repR (some s)) && fitsP (repT (some s))) = true then some (repT (some s)) else none
structure Fits (p : Rep) : Prop where
  err : 0 ≤ p.Err ∧ p.Err ≤ 255
  r : p.Results.length ≤ 16
  a : p.Accounts.length ≤ 16
  t : p.Transfers.length ≤ 16
  rs : ∀ x ∈ p.Results, codeR x = true
  acs : ∀ x ∈ p.Accounts, goodA x = true
  ts : ∀ x ∈ p.Transfers, goodT x = true
theorem fitsP_iff (p : Rep) : fitsP p = true ↔ Fits p := by
  unfold fitsP
  simp only [Bool.and_eq_true, List.all_eq_true, decide_eq_true_eq]
  constructor
  · rintro ⟨h1, h2, h3, h4, h5, h6, h7⟩
    exact ⟨of_decide_eq_true h1, h2, h3, h4, h5, h6, h7⟩
  · rintro ⟨h1, h2, h3, h4, h5, h6, h7⟩
    exact ⟨decide_eq_true h1, h2, h3, h4, h5, h6, h7⟩
theorem rep_put (p : Rep) (hw : p.Wf) (hf : fitsP p = true) (more : ByteArray) : repT (some (partsB p ++ more)) = p ∧ repR (some (partsB p ++ more)) = some more := by
  have h := (fitsP_iff p).1 hf
  have he := h.err
  have hr := h.r
  have ha := h.a
  have ht := h.t
  obtain ⟨a1, b1⟩ := (intCodec 1 1 rfl (by decide)).put p.Err (listB resB p.Results ++ (listB accB p.Accounts ++ (listB traB p.Transfers ++ more))) ⟨he.1, by rw [show ((256 ^ 1 : Nat) : Int) = 256 from rfl]; omega⟩
  obtain ⟨a2, b2⟩ := (listCodec resCodec).put p.Results (listB accB p.Accounts ++ (listB traB p.Transfers ++ more)) ⟨by omega, fun x hx => ⟨hw.Results x hx, h.rs x hx⟩⟩
  obtain ⟨a3, b3⟩ := (listCodec acctCodec).put p.Accounts (listB traB p.Transfers ++ more) ⟨by omega, fun x hx => ⟨hw.Accounts x hx, h.acs x hx⟩⟩
  obtain ⟨a4, b4⟩ := (listCodec tranCodec).put p.Transfers more ⟨by omega, fun x hx => ⟨hw.Transfers x hx, h.ts x hx⟩⟩
  unfold repT repR partsB
  simp only [ByteArray.append_assoc]
  rw [a1, b1, a2, b2, a3, b3, a4, b4]
  exact ⟨rfl, rfl⟩
theorem longP_wf : longP.Wf := ⟨by unfold longP; constructor <;> decide, fun x hx => (by cases hx), fun x hx => (by cases hx), fun x hx => (by cases hx)⟩
theorem saidP_fits (p : Rep) : fitsP (saidP p) = true := by
  unfold saidP
  split
  · assumption
  · decide
theorem saidP_wf {p : Rep} (h : p.Wf) : (saidP p).Wf := by
  unfold saidP
  split
  · exact h
  · exact longP_wf
theorem saidP_of {p : Rep} (h : fitsP p = true) : saidP p = p := by unfold saidP; rw [if_pos h]
theorem saidP_not {p : Rep} (h : fitsP p = false) : saidP p = longP := by unfold saidP; rw [h]; rfl
theorem repB_said (p : Rep) : repB (saidP p) = repB p := by unfold repB; rw [saidP_of (saidP_fits p)]
theorem read_putP (p : Rep) (hw : p.Wf) : readP (repB p) = some (saidP p) := by
  have h := rep_put (saidP p) (saidP_wf hw) (saidP_fits p) ByteArray.empty
  rw [ByteArray.append_empty] at h
  unfold readP repB
  rw [h.1, h.2, saidP_fits, (endB_iff _).2 rfl]
  rfl
theorem read_someP {s : ByteArray} {p : Rep} (h : readP s = some p) : p = repT (some s) ∧ repR (some s) = some ByteArray.empty ∧ fitsP p = true := by
  unfold readP at h
  by_cases hc : (endB (repR (some s)) && fitsP (repT (some s))) = true
  · rw [if_pos hc] at h
    injection h with h
    rw [Bool.and_eq_true] at hc
    exact ⟨h.symm, (endB_iff _).1 hc.1, by rw [← h]; exact hc.2⟩
  · rw [if_neg hc] at h; cases h
theorem read_backP {s : ByteArray} {p : Rep} (h : readP s = some p) : repB p = s ∧ fitsP p = true ∧ p.Wf := by
  obtain ⟨rfl, h2, h3⟩ := read_someP h
  obtain ⟨s4, h4, e4, p4⟩ := (listCodec tranCodec).back _ _ h2
  obtain ⟨s3, h5, e3, p3⟩ := (listCodec acctCodec).back _ _ h4
  obtain ⟨s2, h6, e2, p2⟩ := (listCodec resCodec).back _ _ h5
  obtain ⟨s1, h7, e1, p1⟩ := (intCodec 1 1 rfl (by decide)).back _ _ h6
  injection h7 with h7
  subst h7
  rw [ByteArray.append_empty] at e4
  refine ⟨?_, h3, ⟨backZ_range _, fun x hx => (p2.2 x hx).1, fun x hx => (p3.2 x hx).1, fun x hx => (p4.2 x hx).1⟩⟩
  unfold repB
  rw [saidP_of h3]
  unfold partsB
  have e : s = intB 1 (intT 1 (some s)) ++ (listB resB (repT (some s)).Results ++ (listB accB (repT (some s)).Accounts ++ listB traB (repT (some s)).Transfers)) := by
    rw [show listB traB (repT (some s)).Transfers = s4 from e4.symm, show listB accB (repT (some s)).Accounts ++ s4 = s3 from e3.symm, show listB resB (repT (some s)).Results ++ s3 = s2 from e2.symm]
    exact e1
  exact e.symm
end Go.Proofs.Ytfdanlfiaoedfaa
