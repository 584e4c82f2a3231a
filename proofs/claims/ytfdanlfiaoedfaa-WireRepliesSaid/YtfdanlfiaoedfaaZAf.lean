/- Plain arithmetic for the document's own digits: doubled digit by digit. No condition. -/
/- The document's own Show: digit by digit, doubled. -/
/- Stage 9: the question that each law asks first; the document's Check, Again, Good and Bytes. No condition but the landed package's. -/
/- Stage 9: the document's Again, Good and Bytes; the walks of AcctChecks, AcctAgain and AcctSame. No condition but the landed package's. -/
/- Stage 9: the document's bytes of an account. No condition. -/
import Derived.Test.YtfdanlfiaoedfaaZAv
import Derived.Test.YtfdanlfiaoedfaaZBb
import Derived.Test.YtfdanlfiaoedfaaZTp
import Derived.Test.YtfdanlfiaoedfaaZAa
import Derived.Test.YtfdanlfiaoedfaaZEq
import Derived.Test.YtfdanlfiaoedfaaZCalb
import Derived.Deep.AppendSrc
import Derived.Room.AppendZeros
import Derived.Deep.RegionHeld3
import Derived.Laws.StructEq
namespace Go.Proofs.Ytfdanlfiaoedfaa.Wm
open Go Go.RowKit

/-- Digit e of a number, counted from the lowest. -/
def digE (X e : Nat) : Nat := X / 10 ^ e % 10
end Go.Proofs.Ytfdanlfiaoedfaa.Wm
namespace Go.Proofs.Ytfdanlfiaoedfaa
open Go.RowKit Go.Sort Wm

def mixE (X Y L q p : Nat) : Nat := if L ≤ p + q then digE Y (L - 1 - p) else digE X (L - 1 - p)
/-- What lies in memory: the number's box, and a row of digits. -/
structure Dg (w wr : World) (a blk L X Y q : Nat) : Prop where
  b0 : wr.cell? ⟨w.heap.size, 0, none⟩ = some (.int .u64 ((hiN a : Nat) : Int))
  b1 : wr.cell? ⟨w.heap.size, 1, none⟩ = some (.int .u64 ((loN a : Nat) : Int))
  row : ∀ p, p < L → wr.cell? ⟨blk, p, none⟩ = some (.int .i64 ((mixE X Y L q p : Nat) : Int))
  fz : ∀ p, wr.frozen? ⟨blk, p, none⟩ = false
  far : w.heap.size < blk
  lt : blk < wr.heap.size
  below : Below w.heap.size w wr
theorem Dg.later {w wr w2 : World} {a blk L X Y q : Nat} (h : Dg w wr a blk L X Y q) (hb : Below wr.heap.size wr w2) : Dg w w2 a blk L X Y q :=
  have hl := h.lt
  have hf := h.far
  ⟨by rw [hb.cell (by show w.heap.size < _; omega)]; exact h.b0, by rw [hb.cell (by show w.heap.size < _; omega)]; exact h.b1, fun p hp => by rw [hb.cell (by show blk < _; omega)]; exact h.row p hp, fun p => by rw [hb.frozen (by show blk < _; omega)]; exact h.fz p, h.far, Nat.lt_of_lt_of_le h.lt hb.size, h.below.trans (hb.mono (by omega))⟩
theorem Dg.put {w wr : World} {a blk L X Y q p : Nat} (h : Dg w wr a blk L X Y q) (hp : p + q + 1 = L) (d : Int) (hd : d = ((digE Y q : Nat) : Int)) :
    Dg w (wr.setCell ⟨blk, p, none⟩ (.int .i64 d)) a blk L X Y (q + 1) := by
  have hf := h.far
  have far : ∀ c j, (c ≠ blk ∨ j ≠ p) → (wr.setCell ⟨blk, p, none⟩ (.int .i64 d)).cell? ⟨c, j, none⟩ = wr.cell? ⟨c, j, none⟩ := fun c j hc => by
    rw [World.cell?_setCell_other]
    intro e; injection e with e1 e2 _; omega
  refine ⟨by rw [far _ _ (by omega)]; exact h.b0, by rw [far _ _ (by omega)]; exact h.b1, fun j hj => ?_, fun j => by simpa using h.fz j, h.far, by simpa using h.lt, h.below.setCell (by show _ ≤ blk; omega) _⟩
  by_cases e : j = p
  · subst e
    rw [World.cell?_setCell_same _ _ _ (h.row j hj), hd]
    unfold mixE
    rw [if_pos (by omega), show L - 1 - j = q by omega]
  · rw [far _ _ (by omega), h.row j hj]
    unfold mixE
    by_cases k : L ≤ j + q
    · rw [if_pos k, if_pos (by omega)]
    · rw [if_neg k, if_neg (by omega)]
theorem Dg.start {w wr : World} {a blk L X Y : Nat} (h : Dg w wr a blk L X X 0) : Dg w wr a blk L X Y 0 :=
  ⟨h.b0, h.b1, fun p hp => by have := h.row p hp; unfold mixE at *; rw [if_neg (by omega)] at *; exact this, h.fz, h.far, h.lt, h.below⟩
theorem Dg.done {w wr : World} {a blk L X Y : Nat} (h : Dg w wr a blk L X Y L) : Dg w wr a blk L Y Y 0 :=
  ⟨h.b0, h.b1, fun p hp => by have := h.row p hp; unfold mixE at *; rw [if_pos (by omega)] at this; rw [if_neg (by omega)]; exact this, h.fz, h.far, h.lt, h.below⟩
end Go.Proofs.Ytfdanlfiaoedfaa
namespace Go.Proofs.Ytfdanlfiaoedfaa
open Go.RowKit Go.Sort Wm Cr

/-- What the world must keep, behind a first one, and blocks of known cells. -/
structure Hx (Mo : World → Prop) (w W : World) (l : List (Nat × List Value)) : Prop where
  mo : Mo W
  bel : Below w.heap.size w W
  box : ∀ x ∈ l, BoxAt W x.1 x.2
section
variable {Mo : World → Prop} {w W W' : World} {l : List (Nat × List Value)} (later : ∀ W W', Mo W → Below W.heap.size W W' → Mo W')
include later
theorem Hx.call (h : Hx Mo w W l) (hb : Below W.heap.size W W') : Hx Mo w W' l := ⟨later _ _ h.mo hb, h.bel.trans (hb.mono h.bel.size), fun x hx => (h.box x hx).later hb⟩
theorem Hx.drew (h : Hx Mo w W l) : Hx Mo w W.drew l := h.call later ((Below.refl _ _).drew)
theorem Hx.alloc (h : Hx Mo w W l) (o : Obj) : Hx Mo w (W.alloc o) l := h.call later ((Below.refl _ _).alloc (Nat.le_refl _) o)
theorem Hx.new (h : Hx Mo w W l) (cs : List Value) (t : TypeId) : Hx Mo w (W.alloc (.cells cs.toArray t)) ((W.heap.size, cs) :: l) := by
  obtain ⟨h1, h2, h3⟩ := h.alloc later (.cells cs.toArray t)
  refine ⟨h1, h2, fun x hx => ?_⟩
  rcases List.mem_cons.1 hx with rfl | hx
  · exact BoxAt.new W cs t
  · exact h3 x hx
theorem Hx.ask (h : Hx Mo w W l) {f : FuncId} {args : Array Value} {R : Ending → Prop} (hc : Calls Try.prog f args W fun e W' => R e ∧ Below W.heap.size W W') :
    Calls Try.prog f args W fun e W' => R e ∧ Hx Mo w W' l := by
  refine hc.mono ?_
  rintro e w2 ⟨hr, hb⟩
  exact ⟨hr, h.call later hb⟩
end
theorem Hx.refl {Mo : World → Prop} {w : World} (h : Mo w) : Hx Mo w w [] := ⟨h, Below.refl _ _, fun _ hx => by cases hx⟩
theorem run_neq_num0 (a : Nat) (w : World) : (binOp .neq 27 (numV a) (.agg #[.int .u64 0, .int .u64 0])).run Try.prog w = .ok (.bool (!decide (a = 0))) w := run_neq_num a 0 w
/-- An account in a block. -/
theorem BoxAt.acct {w : World} {b : Nat} {a : Acct} {P : Prop} (h : BoxAt w b a.cells) (p : P) : w.cell? ⟨b, 0, none⟩ = some (.int .u64 ((hiN a.Id : Nat) : Int)) ∧ w.cell? ⟨b, 1, none⟩ = some (.int .u64 ((loN a.Id : Nat) : Int)) ∧ w.cell? ⟨b, 2, none⟩ = some (.int .u64 ((hiN a.DebitsPending : Nat) : Int)) ∧ w.cell? ⟨b, 3, none⟩ = some (.int .u64 ((loN a.DebitsPending : Nat) : Int)) ∧ w.cell? ⟨b, 4, none⟩ = some (.int .u64 ((hiN a.DebitsPosted : Nat) : Int)) ∧ w.cell? ⟨b, 5, none⟩ = some (.int .u64 ((loN a.DebitsPosted : Nat) : Int)) ∧ w.cell? ⟨b, 6, none⟩ = some (.int .u64 ((hiN a.CreditsPending : Nat) : Int)) ∧ w.cell? ⟨b, 7, none⟩ = some (.int .u64 ((loN a.CreditsPending : Nat) : Int)) ∧ w.cell? ⟨b, 8, none⟩ = some (.int .u64 ((hiN a.CreditsPosted : Nat) : Int)) ∧ w.cell? ⟨b, 9, none⟩ = some (.int .u64 ((loN a.CreditsPosted : Nat) : Int)) ∧ w.cell? ⟨b, 10, none⟩ = some (.int .i64 a.Ledger) ∧ w.cell? ⟨b, 11, none⟩ = some (.int .i64 a.Code) ∧ w.cell? ⟨b, 12, none⟩ = some (.int .i64 a.Flags) ∧ w.cell? ⟨b, 13, none⟩ = some (.int .i64 a.Stamp) ∧ b < w.heap.size ∧ P :=
  ⟨h.spot 0 _ rfl, h.spot 1 _ rfl, h.spot 2 _ rfl, h.spot 3 _ rfl, h.spot 4 _ rfl, h.spot 5 _ rfl, h.spot 6 _ rfl, h.spot 7 _ rfl, h.spot 8 _ rfl, h.spot 9 _ rfl, h.spot 10 _ rfl, h.spot 11 _ rfl, h.spot 12 _ rfl, h.spot 13 _ rfl, h.lt, p⟩
theorem acctV_eq (a : Acct) : acctV a = .agg #[.int .u64 ((hiN a.Id : Nat) : Int), .int .u64 ((loN a.Id : Nat) : Int), .int .u64 ((hiN a.DebitsPending : Nat) : Int), .int .u64 ((loN a.DebitsPending : Nat) : Int), .int .u64 ((hiN a.DebitsPosted : Nat) : Int), .int .u64 ((loN a.DebitsPosted : Nat) : Int),
    .int .u64 ((hiN a.CreditsPending : Nat) : Int), .int .u64 ((loN a.CreditsPending : Nat) : Int), .int .u64 ((hiN a.CreditsPosted : Nat) : Int), .int .u64 ((loN a.CreditsPosted : Nat) : Int), .int .i64 a.Ledger, .int .i64 a.Code, .int .i64 a.Flags, .int .i64 a.Stamp] := rfl
end Go.Proofs.Ytfdanlfiaoedfaa
namespace Go.Proofs.Ytfdanlfiaoedfaa
open Go.RowKit Go.Sort Wm Cr
attribute [local go_sem high] run_eql_num run_neq_num run_eql_num0 run_neq_num0

section
variable {Mo : World → Prop} {Wr : (Nat → Prop) → World → Nat → ByteArray → Prop} {Rd : (Nat → Prop) → World → Nat → Option ByteArray → Prop}
set_option maxRecDepth 100000 in
set_option maxHeartbeats 1000000 in
theorem refgood_acct (a : Acct) (w : World) : Calls Try.prog 24 #[acctV a] w fun e w' => e = .returned (.bool (goodA a)) ∧ Below w.heap.size w w' := by
  have hz : Below w.heap.size w (w.alloc (.cells a.cells.toArray 58)) := (Below.refl _ _).alloc (Nat.le_refl _) _
  replace hz := Lib.hid hz
  obtain ⟨i, p, q, r, s, l, c, f, t⟩ := a
  unfold acctV
  unfold Acct.cells at *
  dsimp only at *
  go_enter Try.func24, Try.ntmps24
  go_wp2
  all_goals
    go_ret
    exact ⟨by unfold goodA; first | (simp; done) | (simp; omega) | (simp_all; done) | (simp_all; omega), hz.out⟩
end
end Go.Proofs.Ytfdanlfiaoedfaa
namespace Go.Proofs.Ytfdanlfiaoedfaa
open Go.RowKit Go.Sort Wm Cr

/-- A contract asked behind a first world. -/
theorem ask_behind {W0 W : World} (h : Below W0.heap.size W0 W) {f : FuncId} {args : Array Value} {R : Ending → Prop} (hc : Calls Try.prog f args W fun e W' => R e ∧ Below W.heap.size W W') :
    Calls Try.prog f args W fun e W' => R e ∧ Below W0.heap.size W0 W' := by
  refine hc.mono ?_
  rintro e w2 ⟨hr, hb⟩
  exact ⟨hr, h.trans (hb.mono h.size)⟩
theorem accB_join (a : Acct) : accB a = ((((numB a.Id ++ numB a.DebitsPending) ++ numB a.DebitsPosted) ++ numB a.CreditsPending) ++ numB a.CreditsPosted) ++ intB 4 a.Ledger ++ intB 2 a.Code ++ intB 2 a.Flags ++ intB 8 a.Stamp := rfl
set_option maxRecDepth 100000 in
set_option maxHeartbeats 2000000 in
theorem refbytes_acct (a : Acct) (w : World) : Calls Try.prog 38 #[acctV a] w fun e w' => e = .returned (.string (accB a)) ∧ Below w.heap.size w w' := by
  have hbx := BoxAt.new w a.cells 58
  have hbl : Below w.heap.size w (w.alloc (.cells a.cells.toArray 58)) := (Below.refl _ _).alloc (Nat.le_refl _) _
  obtain ⟨W0, hW0⟩ : ∃ W0, W0 = w.alloc (.cells a.cells.toArray 58) := ⟨_, rfl⟩
  rw [← hW0] at hbx hbl
  have n0 := Lib.hid (fun W (h : Below W0.heap.size W0 W) => ask_behind h (refbytesN_any a.Id W))
  have n1 := Lib.hid (fun W (h : Below W0.heap.size W0 W) => ask_behind h (refbytesN_any a.DebitsPending W))
  have n2 := Lib.hid (fun W (h : Below W0.heap.size W0 W) => ask_behind h (refbytesN_any a.DebitsPosted W))
  have n3 := Lib.hid (fun W (h : Below W0.heap.size W0 W) => ask_behind h (refbytesN_any a.CreditsPending W))
  have n4 := Lib.hid (fun W (h : Below W0.heap.size W0 W) => ask_behind h (refbytesN_any a.CreditsPosted W))
  have i0 := Lib.hid (fun W (h : Below W0.heap.size W0 W) => ask_behind h (refint_any 4 a.Ledger W))
  have i1 := Lib.hid (fun W (h : Below W0.heap.size W0 W) => ask_behind h (refint_any 2 a.Code W))
  have i2 := Lib.hid (fun W (h : Below W0.heap.size W0 W) => ask_behind h (refint_any 2 a.Flags W))
  have i3 := Lib.hid (fun W (h : Below W0.heap.size W0 W) => ask_behind h (refint_any 8 a.Stamp W))
  have hj := Lib.hid (accB_join a)
  have hg := Lib.hid (fun W (hb : Below W0.heap.size W0 W) => (hbx.later hb).acct hb)
  have hz0 := numB_size a.Id
  have hz1 := numB_size a.DebitsPending
  have hz2 := numB_size a.DebitsPosted
  have hz3 := numB_size a.CreditsPending
  have hz4 := numB_size a.CreditsPosted
  have hy4 : (intB 4 a.Ledger).size = 4 := by rw [intB_size]; rfl
  have hy5 : (intB 2 a.Code).size = 2 := by rw [intB_size]; rfl
  have hy6 : (intB 2 a.Flags).size = 2 := by rw [intB_size]; rfl
  have hy7 := int8_size a.Stamp
  rw [hj.out, acctV_eq]
  unfold numV at n0 n1 n2 n3 n4
  generalize numB a.Id = B0 at *
  generalize numB a.DebitsPending = B1 at *
  generalize numB a.DebitsPosted = B2 at *
  generalize numB a.CreditsPending = B3 at *
  generalize numB a.CreditsPosted = B4 at *
  generalize intB 4 a.Ledger = B5 at *
  generalize intB 2 a.Code = B6 at *
  generalize intB 2 a.Flags = B7 at *
  generalize intB 8 a.Stamp = B8 at *
  have q1 : (B0 ++ B1).size = 32 := by rw [ByteArray.size_append]; omega
  have q2 : (B0 ++ B1 ++ B2).size = 48 := by rw [ByteArray.size_append]; omega
  have q3 : (B0 ++ B1 ++ B2 ++ B3).size = 64 := by rw [ByteArray.size_append]; omega
  have q4 : (B0 ++ B1 ++ B2 ++ B3 ++ B4).size = 80 := by rw [ByteArray.size_append]; omega
  have q5 : (B0 ++ B1 ++ B2 ++ B3 ++ B4 ++ B5).size = 84 := by rw [ByteArray.size_append]; omega
  have q6 : (B0 ++ B1 ++ B2 ++ B3 ++ B4 ++ B5 ++ B6).size = 86 := by rw [ByteArray.size_append]; omega
  have q7 : (B0 ++ B1 ++ B2 ++ B3 ++ B4 ++ B5 ++ B6 ++ B7).size = 88 := by rw [ByteArray.size_append]; omega
  have hd := Lib.hid (fun W (h : Below W0.heap.size W0 W) => h.drew)
  have hm2 := Below.refl W0.heap.size W0
  have hm2d := hm2.drew
  go_enter Try.func38, Try.ntmps38
  go_wp2_with fail
  dsimp only [Acct.cells] at hW0
  rw [← hW0]
  replace hW0 := Lib.hid hW0
  go_region_held3 (fun w' => w'.cell? ⟨w.heap.size, 0, none⟩ = some (.int .u64 ((hiN a.Id : Nat) : Int)) ∧ w'.cell? ⟨w.heap.size, 1, none⟩ = some (.int .u64 ((loN a.Id : Nat) : Int)) ∧ w'.cell? ⟨w.heap.size, 2, none⟩ = some (.int .u64 ((hiN a.DebitsPending : Nat) : Int)) ∧ w'.cell? ⟨w.heap.size, 3, none⟩ = some (.int .u64 ((loN a.DebitsPending : Nat) : Int)) ∧ w'.cell? ⟨w.heap.size, 4, none⟩ = some (.int .u64 ((hiN a.DebitsPosted : Nat) : Int)) ∧ w'.cell? ⟨w.heap.size, 5, none⟩ = some (.int .u64 ((loN a.DebitsPosted : Nat) : Int)) ∧ w'.cell? ⟨w.heap.size, 6, none⟩ = some (.int .u64 ((hiN a.CreditsPending : Nat) : Int)) ∧ w'.cell? ⟨w.heap.size, 7, none⟩ = some (.int .u64 ((loN a.CreditsPending : Nat) : Int)) ∧ w'.cell? ⟨w.heap.size, 8, none⟩ = some (.int .u64 ((hiN a.CreditsPosted : Nat) : Int)) ∧ w'.cell? ⟨w.heap.size, 9, none⟩ = some (.int .u64 ((loN a.CreditsPosted : Nat) : Int)) ∧ w'.cell? ⟨w.heap.size, 10, none⟩ = some (.int .i64 a.Ledger) ∧ w'.cell? ⟨w.heap.size, 11, none⟩ = some (.int .i64 a.Code) ∧ w'.cell? ⟨w.heap.size, 12, none⟩ = some (.int .i64 a.Flags) ∧ w'.cell? ⟨w.heap.size, 13, none⟩ = some (.int .i64 a.Stamp) ∧ w.heap.size < w'.heap.size ∧ Below W0.heap.size W0 w')
    (first | exact hg.out _ hmx | exact hg.out _ (hd.out _ hmx) | exact hg.out _ hm2 | exact hg.out _ hm2d)
    (first | (go_at_call 40; with_reducible refine (n0.out _ (by first | exact hmx | exact hd.out _ hmx | exact hm2 | exact hm2d)).mono ?_; rintro e wx ⟨rfl, hmx⟩) | (go_at_call 40; with_reducible refine (n1.out _ (by first | exact hmx | exact hd.out _ hmx | exact hm2 | exact hm2d)).mono ?_; rintro e wx ⟨rfl, hmx⟩) | (go_at_call 40; with_reducible refine (n2.out _ (by first | exact hmx | exact hd.out _ hmx | exact hm2 | exact hm2d)).mono ?_; rintro e wx ⟨rfl, hmx⟩) | (go_at_call 40; with_reducible refine (n3.out _ (by first | exact hmx | exact hd.out _ hmx | exact hm2 | exact hm2d)).mono ?_; rintro e wx ⟨rfl, hmx⟩) | (go_at_call 40; with_reducible refine (n4.out _ (by first | exact hmx | exact hd.out _ hmx | exact hm2 | exact hm2d)).mono ?_; rintro e wx ⟨rfl, hmx⟩))
  rename_i hH
  have hm3 := hH.2.2.2.2.2.2.2.2.2.2.2.2.2.2.2
  have hm3d := hm3.drew
  clear hmx hH n0 n1 n2 n3 n4 hm2 hm2d
  go_wp2_with fail
  go_region_held3 (fun w' => w'.cell? ⟨w.heap.size, 0, none⟩ = some (.int .u64 ((hiN a.Id : Nat) : Int)) ∧ w'.cell? ⟨w.heap.size, 1, none⟩ = some (.int .u64 ((loN a.Id : Nat) : Int)) ∧ w'.cell? ⟨w.heap.size, 2, none⟩ = some (.int .u64 ((hiN a.DebitsPending : Nat) : Int)) ∧ w'.cell? ⟨w.heap.size, 3, none⟩ = some (.int .u64 ((loN a.DebitsPending : Nat) : Int)) ∧ w'.cell? ⟨w.heap.size, 4, none⟩ = some (.int .u64 ((hiN a.DebitsPosted : Nat) : Int)) ∧ w'.cell? ⟨w.heap.size, 5, none⟩ = some (.int .u64 ((loN a.DebitsPosted : Nat) : Int)) ∧ w'.cell? ⟨w.heap.size, 6, none⟩ = some (.int .u64 ((hiN a.CreditsPending : Nat) : Int)) ∧ w'.cell? ⟨w.heap.size, 7, none⟩ = some (.int .u64 ((loN a.CreditsPending : Nat) : Int)) ∧ w'.cell? ⟨w.heap.size, 8, none⟩ = some (.int .u64 ((hiN a.CreditsPosted : Nat) : Int)) ∧ w'.cell? ⟨w.heap.size, 9, none⟩ = some (.int .u64 ((loN a.CreditsPosted : Nat) : Int)) ∧ w'.cell? ⟨w.heap.size, 10, none⟩ = some (.int .i64 a.Ledger) ∧ w'.cell? ⟨w.heap.size, 11, none⟩ = some (.int .i64 a.Code) ∧ w'.cell? ⟨w.heap.size, 12, none⟩ = some (.int .i64 a.Flags) ∧ w'.cell? ⟨w.heap.size, 13, none⟩ = some (.int .i64 a.Stamp) ∧ w.heap.size < w'.heap.size ∧ Below W0.heap.size W0 w')
    (first | exact hg.out _ hmy | exact hg.out _ (hd.out _ hmy) | exact hg.out _ hm3 | exact hg.out _ hm3d)
    (first | (go_at_call 37; with_reducible refine (i0.out _ (by first | exact hmy | exact hd.out _ hmy | exact hm3 | exact hm3d)).mono ?_; rintro e wy ⟨rfl, hmy⟩) | (go_at_call 37; with_reducible refine (i1.out _ (by first | exact hmy | exact hd.out _ hmy | exact hm3 | exact hm3d)).mono ?_; rintro e wy ⟨rfl, hmy⟩) | (go_at_call 37; with_reducible refine (i2.out _ (by first | exact hmy | exact hd.out _ hmy | exact hm3 | exact hm3d)).mono ?_; rintro e wy ⟨rfl, hmy⟩) | (go_at_call 37; with_reducible refine (i3.out _ (by first | exact hmy | exact hd.out _ hmy | exact hm3 | exact hm3d)).mono ?_; rintro e wy ⟨rfl, hmy⟩))
  rename_i hH2
  have hm4 := hH2.2.2.2.2.2.2.2.2.2.2.2.2.2.2.2
  go_wp2
  go_ret
  exact ⟨by first | rfl | simp, hbl.trans (hm4.mono hbl.size)⟩
end Go.Proofs.Ytfdanlfiaoedfaa
