/- Requests and replies as arguments: what their cells hold, and the rows behind them. No condition. -/
import Derived.Test.YtfdanlfiaoedfaaZAv
import Derived.Test.YtfdanlfiaoedfaaZXv
import Derived.Test.YtfdanlfiaoedfaaZWqr
namespace Go.Proofs.Ytfdanlfiaoedfaa
open Go.RowKit Go.ChangeShapes Go.WideShapes Go.Deep Wm

/-- A list in memory, each thing of K cells. -/
structure RowAt {α : Type} (cs : α → List Value) (K : Nat) (w : World) (ao : Option Addr) (l : List α) : Prop where
  spot : ∀ k (h : k < l.length), ∃ b off, ao = some ⟨b, off, none⟩ ∧ b < w.heap.size ∧ ∀ j v, (cs l[k])[j]? = some v → w.cell? ⟨b, off + k * K + j, none⟩ = some v
theorem RowAt.later {α : Type} {cs : α → List Value} {K : Nat} {w w2 : World} {ao : Option Addr} {l : List α} (h : RowAt cs K w ao l) (hb : Below w.heap.size w w2) : RowAt cs K w2 ao l :=
  ⟨fun k hk => by
    obtain ⟨b, off, e, hlt, hc⟩ := h.spot k hk
    exact ⟨b, off, e, Nat.lt_of_lt_of_le hlt hb.size, fun j v hj => by rw [hb.cell (p := ⟨b, off + k * K + j, none⟩) hlt]; exact hc j v hj⟩⟩
theorem RowAt.nil {α : Type} {cs : α → List Value} {K : Nat} {w : World} {ao : Option Addr} : RowAt cs K w ao [] := ⟨fun k hk => by cases hk⟩
section
variable {H : Type} {enc : TypeId × Value → H} {w : World} {base : Nat} {spare : Nat → Bool} {held : Bool}
set_option maxRecDepth 100000 in
theorem accts_trod {fuel : Nat} {cs : List Value} {x : DataW H × List MemPlace} (hf : DataW.trod enc Try.prog w base spare held fuel 22 cs = some x)
    (hz : ∀ n ∈ x.1.weights Try.prog 22, n ≤ reachBytes) : ∃ (ao : Option Addr) (cap : Nat) (l : List Acct), cs = [.slice ao l.length cap] ∧ RowAt Acct.cells 14 w ao l ∧ (∀ y ∈ l, y.Wf) ∧ l.length ≤ 140737488351232 := by
  obtain ⟨d, pl⟩ := x
  rcases open_slice Try.underlying22 hf with ⟨hc, hx⟩ | ⟨a, len, cap, m, n, D, Pl, hc, hb, hl, hm, hmm, hx, hi⟩
  · subst hc
    exact ⟨none, 0, [], rfl, RowAt.nil, fun x hx => (by cases hx), by simp⟩
  · subst hc
    have hC : Try.prog.cellsOf 58 = 14 := by kernel_rfl
    have hle : len ≤ m := by rw [hmm]; split <;> omega
    obtain rfl : d = _ := congrArg Prod.fst hx
    have hbytes : 1 ≤ Try.prog.bytesOf 58 := by decide +kernel
    have hlen : len ≤ 140737488351232 := by
      have := hz (((List.range len).map D).length + ((List.range (m - len)).map fun j => D (len + j)).length |>.mul (Try.prog.bytesOf 58)) (by simp [DataW.weights, Try.underlying22])
      simp at this
      have h2 := Nat.le_mul_of_pos_right (len + (m - len)) hbytes
      unfold reachBytes at this
      omega
    have key : ∀ i, i < len → ∃ y : Acct, (∀ j v, y.cells[j]? = some v → w.cell? (a.add (i * 14 + j)) = some v) ∧ y.Wf := by
      intro i him
      obtain ⟨cs', h1, h2⟩ := hi i (by omega)
      rw [hC] at h1
      obtain ⟨y, rfl, hy⟩ := acct_open h2 (fun q hq => hz q (by
        simp only [DataW.weights, Try.underlying22, List.mem_cons, List.mem_append]
        right; left
        exact weightsAll_mem_acct (d := D i) (List.mem_map.mpr ⟨i, List.mem_range.mpr him, rfl⟩) q hq))
      obtain ⟨_, _, hat⟩ := World.cells?_some h1
      refine ⟨y, fun j v hj => ?_, hy⟩
      have hjn : j < 14 := by have := (List.getElem?_eq_some_iff.1 hj).1; rw [Acct.cells_length] at this; exact this
      rw [← Go.Deep.add_add, hat j hjn, hj]
    obtain ⟨f, hfs⟩ := choose_lt key
    refine ⟨some a, cap, (List.range len).map f, by simp, ⟨fun k hk => ?_⟩, fun x hx => ?_, by simpa using hlen⟩
    · have hk2 : k < len := by simpa using hk
      obtain ⟨hcell, _⟩ := hfs k hk2
      have c0 := hcell 0 _ rfl
      obtain ⟨b, off, spot⟩ := a
      have hs2 : spot = none := by
        obtain ⟨hc0, _⟩ := hfs 0 (by omega)
        have c0 := hc0 0 _ rfl
        cases spot with
        | none => rfl
        | some z => exfalso; simp [Addr.add, World.cell?] at c0; split at c0 <;> simp at c0
      subst hs2
      refine ⟨b, off, rfl, ?_, fun j v hj => ?_⟩
      · have := World.block_lt_of_cell? w _ c0
        unfold Addr.add at this; split at this <;> exact this
      · have hj2 : (f k).cells[j]? = some v := by simpa using hj
        have := hcell j v hj2
        unfold Addr.add at this
        split at this
        · rename_i h0; rw [show off + k * 14 + j = off by omega]; exact this
        · rw [show off + k * 14 + j = off + (k * 14 + j) by omega]; exact this
    · obtain ⟨i, hi2, rfl⟩ := List.mem_map.mp hx
      exact (hfs i (List.mem_range.mp hi2)).2
set_option maxRecDepth 100000 in
theorem trans_trod {fuel : Nat} {cs : List Value} {x : DataW H × List MemPlace} (hf : DataW.trod enc Try.prog w base spare held fuel 23 cs = some x)
    (hz : ∀ n ∈ x.1.weights Try.prog 23, n ≤ reachBytes) : ∃ (ao : Option Addr) (cap : Nat) (l : List Tran), cs = [.slice ao l.length cap] ∧ RowAt Tran.cells 16 w ao l ∧ (∀ y ∈ l, y.Wf) ∧ l.length ≤ 140737488351232 := by
  obtain ⟨d, pl⟩ := x
  rcases open_slice Try.underlying23 hf with ⟨hc, hx⟩ | ⟨a, len, cap, m, n, D, Pl, hc, hb, hl, hm, hmm, hx, hi⟩
  · subst hc
    exact ⟨none, 0, [], rfl, RowAt.nil, fun x hx => (by cases hx), by simp⟩
  · subst hc
    have hC : Try.prog.cellsOf 61 = 16 := by kernel_rfl
    have hle : len ≤ m := by rw [hmm]; split <;> omega
    obtain rfl : d = _ := congrArg Prod.fst hx
    have hbytes : 1 ≤ Try.prog.bytesOf 61 := by decide +kernel
    have hlen : len ≤ 140737488351232 := by
      have := hz (((List.range len).map D).length + ((List.range (m - len)).map fun j => D (len + j)).length |>.mul (Try.prog.bytesOf 61)) (by simp [DataW.weights, Try.underlying23])
      simp at this
      have h2 := Nat.le_mul_of_pos_right (len + (m - len)) hbytes
      unfold reachBytes at this
      omega
    have key : ∀ i, i < len → ∃ y : Tran, (∀ j v, y.cells[j]? = some v → w.cell? (a.add (i * 16 + j)) = some v) ∧ y.Wf := by
      intro i him
      obtain ⟨cs', h1, h2⟩ := hi i (by omega)
      rw [hC] at h1
      obtain ⟨y, rfl, hy⟩ := tran_open h2 (fun q hq => hz q (by
        simp only [DataW.weights, Try.underlying23, List.mem_cons, List.mem_append]
        right; left
        exact weightsAll_mem_tran (d := D i) (List.mem_map.mpr ⟨i, List.mem_range.mpr him, rfl⟩) q hq))
      obtain ⟨_, _, hat⟩ := World.cells?_some h1
      refine ⟨y, fun j v hj => ?_, hy⟩
      have hjn : j < 16 := by have := (List.getElem?_eq_some_iff.1 hj).1; rw [Tran.cells_length] at this; exact this
      rw [← Go.Deep.add_add, hat j hjn, hj]
    obtain ⟨f, hfs⟩ := choose_lt key
    refine ⟨some a, cap, (List.range len).map f, by simp, ⟨fun k hk => ?_⟩, fun x hx => ?_, by simpa using hlen⟩
    · have hk2 : k < len := by simpa using hk
      obtain ⟨hcell, _⟩ := hfs k hk2
      have c0 := hcell 0 _ rfl
      obtain ⟨b, off, spot⟩ := a
      have hs2 : spot = none := by
        obtain ⟨hc0, _⟩ := hfs 0 (by omega)
        have c0 := hc0 0 _ rfl
        cases spot with
        | none => rfl
        | some z => exfalso; simp [Addr.add, World.cell?] at c0; split at c0 <;> simp at c0
      subst hs2
      refine ⟨b, off, rfl, ?_, fun j v hj => ?_⟩
      · have := World.block_lt_of_cell? w _ c0
        unfold Addr.add at this; split at this <;> exact this
      · have hj2 : (f k).cells[j]? = some v := by simpa using hj
        have := hcell j v hj2
        unfold Addr.add at this
        split at this
        · rename_i h0; rw [show off + k * 16 + j = off by omega]; exact this
        · rw [show off + k * 16 + j = off + (k * 16 + j) by omega]; exact this
    · obtain ⟨i, hi2, rfl⟩ := List.mem_map.mp hx
      exact (hfs i (List.mem_range.mp hi2)).2
set_option maxRecDepth 100000 in
theorem resus_trod {fuel : Nat} {cs : List Value} {x : DataW H × List MemPlace} (hf : DataW.trod enc Try.prog w base spare held fuel 41 cs = some x)
    (hz : ∀ n ∈ x.1.weights Try.prog 41, n ≤ reachBytes) : ∃ (ao : Option Addr) (cap : Nat) (l : List Resu), cs = [.slice ao l.length cap] ∧ RowAt Resu.cells 1 w ao l ∧ (∀ y ∈ l, y.Wf) ∧ l.length ≤ 140737488351232 := by
  obtain ⟨d, pl⟩ := x
  rcases open_slice Try.underlying41 hf with ⟨hc, hx⟩ | ⟨a, len, cap, m, n, D, Pl, hc, hb, hl, hm, hmm, hx, hi⟩
  · subst hc
    exact ⟨none, 0, [], rfl, RowAt.nil, fun x hx => (by cases hx), by simp⟩
  · subst hc
    have hC : Try.prog.cellsOf 81 = 1 := by kernel_rfl
    have hle : len ≤ m := by rw [hmm]; split <;> omega
    obtain rfl : d = _ := congrArg Prod.fst hx
    have hbytes : 1 ≤ Try.prog.bytesOf 81 := by decide +kernel
    have hlen : len ≤ 140737488351232 := by
      have := hz (((List.range len).map D).length + ((List.range (m - len)).map fun j => D (len + j)).length |>.mul (Try.prog.bytesOf 81)) (by simp [DataW.weights, Try.underlying41])
      simp at this
      have h2 := Nat.le_mul_of_pos_right (len + (m - len)) hbytes
      unfold reachBytes at this
      omega
    have key : ∀ i, i < len → ∃ y : Resu, (∀ j v, y.cells[j]? = some v → w.cell? (a.add (i * 1 + j)) = some v) ∧ y.Wf := by
      intro i him
      obtain ⟨cs', h1, h2⟩ := hi i (by omega)
      rw [hC] at h1
      obtain ⟨y, rfl, hy⟩ := resu_open h2 (fun q hq => hz q (by
        simp only [DataW.weights, Try.underlying41, List.mem_cons, List.mem_append]
        right; left
        exact weightsAll_mem_resu (d := D i) (List.mem_map.mpr ⟨i, List.mem_range.mpr him, rfl⟩) q hq))
      obtain ⟨_, _, hat⟩ := World.cells?_some h1
      refine ⟨y, fun j v hj => ?_, hy⟩
      have hjn : j < 1 := by have := (List.getElem?_eq_some_iff.1 hj).1; rw [Resu.cells_length] at this; exact this
      rw [← Go.Deep.add_add, hat j hjn, hj]
    obtain ⟨f, hfs⟩ := choose_lt key
    refine ⟨some a, cap, (List.range len).map f, by simp, ⟨fun k hk => ?_⟩, fun x hx => ?_, by simpa using hlen⟩
    · have hk2 : k < len := by simpa using hk
      obtain ⟨hcell, _⟩ := hfs k hk2
      have c0 := hcell 0 _ rfl
      obtain ⟨b, off, spot⟩ := a
      have hs2 : spot = none := by
        obtain ⟨hc0, _⟩ := hfs 0 (by omega)
        have c0 := hc0 0 _ rfl
        cases spot with
        | none => rfl
        | some z => exfalso; simp [Addr.add, World.cell?] at c0; split at c0 <;> simp at c0
      subst hs2
      refine ⟨b, off, rfl, ?_, fun j v hj => ?_⟩
      · have := World.block_lt_of_cell? w _ c0
        unfold Addr.add at this; split at this <;> exact this
      · have hj2 : (f k).cells[j]? = some v := by simpa using hj
        have := hcell j v hj2
        unfold Addr.add at this
        split at this
        · rename_i h0; rw [show off + k * 1 + j = off by omega]; exact this
        · rw [show off + k * 1 + j = off + (k * 1 + j) by omega]; exact this
    · obtain ⟨i, hi2, rfl⟩ := List.mem_map.mp hx
      exact (hfs i (List.mem_range.mp hi2)).2
end
/-- A request. -/
structure Req where
  Op : Int
  Accounts : List Acct
  Transfers : List Tran
  Now : Int
  Ids : List Idn
  Filter : Flt
  deriving Inhabited
structure Req.Wf (q : Req) : Prop where
  Op : -9223372036854775808 ≤ q.Op ∧ q.Op ≤ 9223372036854775807
  Accounts : ∀ y ∈ q.Accounts, y.Wf
  Transfers : ∀ y ∈ q.Transfers, y.Wf
  Now : -9223372036854775808 ≤ q.Now ∧ q.Now ≤ 9223372036854775807
  Ids : ∀ y ∈ q.Ids, y.Wf
  Filter : q.Filter.Wf
/-- Where its rows lie. -/
structure Reqs where
  Accounts : Option Addr
  Accountsc : Nat
  Transfers : Option Addr
  Transfersc : Nat
  Ids : Option Addr
  Idsc : Nat
def Req.cells (q : Req) (s : Reqs) : List Value := [.int .i64 q.Op, .slice s.Accounts q.Accounts.length s.Accountsc, .slice s.Transfers q.Transfers.length s.Transfersc, .int .i64 q.Now, .slice s.Ids q.Ids.length s.Idsc, .int .u64 ((hiN q.Filter.Account : Nat) : Int), .int .u64 ((loN q.Filter.Account : Nat) : Int), .int .i64 q.Filter.From, .int .i64 q.Filter.To, .bool q.Filter.Debits, .bool q.Filter.Credits, .bool q.Filter.Latest, .int .i64 q.Filter.Limit]
def reqV (q : Req) (s : Reqs) : Value := .agg #[.int .i64 q.Op, .slice s.Accounts q.Accounts.length s.Accountsc, .slice s.Transfers q.Transfers.length s.Transfersc, .int .i64 q.Now, .slice s.Ids q.Ids.length s.Idsc, .int .u64 ((hiN q.Filter.Account : Nat) : Int), .int .u64 ((loN q.Filter.Account : Nat) : Int), .int .i64 q.Filter.From, .int .i64 q.Filter.To, .bool q.Filter.Debits, .bool q.Filter.Credits, .bool q.Filter.Latest, .int .i64 q.Filter.Limit]
structure ReqAt (w : World) (q : Req) (s : Reqs) : Prop where
  Accounts : RowAt Acct.cells 14 w s.Accounts q.Accounts
  Accountsl : q.Accounts.length ≤ 140737488351232
  Transfers : RowAt Tran.cells 16 w s.Transfers q.Transfers
  Transfersl : q.Transfers.length ≤ 140737488351232
  Ids : RowAt Idn.cells 2 w s.Ids q.Ids
  Idsl : q.Ids.length ≤ 140737488351232
theorem ReqAt.later {w w2 : World} {q : Req} {s : Reqs} (h : ReqAt w q s) (hb : Below w.heap.size w w2) : ReqAt w2 q s :=
  ⟨h.Accounts.later hb, h.Accountsl, h.Transfers.later hb, h.Transfersl, h.Ids.later hb, h.Idsl⟩
section
variable {H : Type} {enc : TypeId × Value → H} {w : World} {base : Nat} {spare : Nat → Bool} {held : Bool}
end
/-- A reply. -/
structure Rep where
  Err : Int
  Results : List Resu
  Accounts : List Acct
  Transfers : List Tran
  deriving Inhabited
structure Rep.Wf (q : Rep) : Prop where
  Err : -9223372036854775808 ≤ q.Err ∧ q.Err ≤ 9223372036854775807
  Results : ∀ y ∈ q.Results, y.Wf
  Accounts : ∀ y ∈ q.Accounts, y.Wf
  Transfers : ∀ y ∈ q.Transfers, y.Wf
/-- Where its rows lie. -/
structure Reps where
  Results : Option Addr
  Resultsc : Nat
  Accounts : Option Addr
  Accountsc : Nat
  Transfers : Option Addr
  Transfersc : Nat
def Rep.cells (q : Rep) (s : Reps) : List Value := [.int .i64 q.Err, .slice s.Results q.Results.length s.Resultsc, .slice s.Accounts q.Accounts.length s.Accountsc, .slice s.Transfers q.Transfers.length s.Transfersc]
def repV (q : Rep) (s : Reps) : Value := .agg #[.int .i64 q.Err, .slice s.Results q.Results.length s.Resultsc, .slice s.Accounts q.Accounts.length s.Accountsc, .slice s.Transfers q.Transfers.length s.Transfersc]
structure RepAt (w : World) (q : Rep) (s : Reps) : Prop where
  Results : RowAt Resu.cells 1 w s.Results q.Results
  Resultsl : q.Results.length ≤ 140737488351232
  Accounts : RowAt Acct.cells 14 w s.Accounts q.Accounts
  Accountsl : q.Accounts.length ≤ 140737488351232
  Transfers : RowAt Tran.cells 16 w s.Transfers q.Transfers
  Transfersl : q.Transfers.length ≤ 140737488351232
theorem RepAt.later {w w2 : World} {q : Rep} {s : Reps} (h : RepAt w q s) (hb : Below w.heap.size w w2) : RepAt w2 q s :=
  ⟨h.Results.later hb, h.Resultsl, h.Accounts.later hb, h.Accountsl, h.Transfers.later hb, h.Transfersl⟩
section
variable {H : Type} {enc : TypeId × Value → H} {w : World} {base : Nat} {spare : Nat → Bool} {held : Bool}
set_option maxRecDepth 100000 in
theorem rep_open {fuel : Nat} {cs : List Value} {x : DataW H × List MemPlace} (h : DataW.trod enc Try.prog w base spare held fuel 43 cs = some x)
    (hz : ∀ n ∈ x.1.weights Try.prog 43, n ≤ reachBytes) : ∃ (q : Rep) (s : Reps), cs = q.cells s ∧ RepAt w q s ∧ q.Wf := by
  obtain ⟨xs, m, _, hx, hlen, hxl, hf⟩ := DataW.trod_struct Try.underlying43 h
  have hC : Try.prog.cellsOf 43 = 4 := by kernel_rfl
  have hU0 : Try.prog.cellsOf 22 = 1 := by kernel_rfl
  have hU1 : Try.prog.cellsOf 41 = 1 := by kernel_rfl
  have hU2 : Try.prog.cellsOf 23 = 1 := by kernel_rfl
  have hU3 : Try.prog.cellsOf 34 = 1 := by kernel_rfl
  rw [hC] at hlen
  subst hx
  match cs, hlen with
  | [c0, c1, c2, c3], _ =>
    match xs, hxl with
    | [x0, x1, x2, x3], _ =>
      replace hz : ∀ n ∈ DataW.weightsEach Try.prog [34, 41, 22, 23] [x0.1, x1.1, x2.1, x3.1], n ≤ reachBytes := by
        intro n hn
        exact hz n (by simpa [DataW.weights, Try.underlying43] using hn)
      have f0 := hf 0 _ rfl
      simp [hU3] at f0
      have f1 := hf 1 _ rfl
      simp [hU1] at f1
      have f2 := hf 2 _ rfl
      simp [hU0] at f2
      have f3 := hf 3 _ rfl
      simp [hU2] at f3
      obtain ⟨v0, e0, _, w0⟩ := DataW.trod_int Try.underlying34 f0
      simp at e0
      subst e0
      have b0 := bounds_i64 w0
      obtain ⟨ao1, cap1, v1, e1, at1, wf1, len1⟩ := resus_trod f1 (fun q hq => hz q (DataW.weights_mem_each (j := 1) rfl rfl q hq))
      simp at e1
      subst e1
      obtain ⟨ao2, cap2, v2, e2, at2, wf2, len2⟩ := accts_trod f2 (fun q hq => hz q (DataW.weights_mem_each (j := 2) rfl rfl q hq))
      simp at e2
      subst e2
      obtain ⟨ao3, cap3, v3, e3, at3, wf3, len3⟩ := trans_trod f3 (fun q hq => hz q (DataW.weights_mem_each (j := 3) rfl rfl q hq))
      simp at e3
      subst e3
      exact ⟨⟨v0, v1, v2, v3⟩, ⟨ao1, cap1, ao2, cap2, ao3, cap3⟩, rfl, ⟨at1, len1, at2, len2, at3, len3⟩, ⟨b0, wf1, wf2, wf3⟩⟩
set_option maxRecDepth 100000 in
/-- By value, opened. -/
theorem repv_open {r : Reach} {b0 : Nat} {v : Value} {d : DataW H} {p : List MemPlace} (hv : Value.okWide Try.prog w r b0 43 v) (h : DataW.Trod enc Try.prog w base spare held 43 v d p)
    (hz : ∀ n ∈ d.weights Try.prog 43, n ≤ reachBytes) : ∃ (q : Rep) (s : Reps), v = repV q s ∧ RepAt w q s ∧ q.Wf := by
  obtain ⟨cs, rfl, _⟩ := okWide_struct Try.underlying43 hv
  obtain ⟨fuel, hf⟩ := h
  obtain ⟨q, s, e, hat, hw⟩ := rep_open hf hz
  refine ⟨q, s, ?_, hat, hw⟩
  have e2 : cs.toList = q.cells s := e
  have e3 : cs = (q.cells s).toArray := by rw [← e2]
  rw [e3]
  rfl
end
end Go.Proofs.Ytfdanlfiaoedfaa
