/- Stage 9: the question that each law asks first; the document's Check, Again, Good and Bytes. No condition but the landed package's. -/
import Derived.Test.YtideooaefplbhaaDoorZBb
import Derived.Test.YtideooaefplbhaaDoorZTr
import Derived.Test.YtideooaefplbhaaDoorZPl
import Derived.Test.YtideooaefplbhaaDoorZAa
import Derived.Test.YtideooaefplbhaaDoorZEq
import Derived.Test.YtideooaefplbhaaDoorZSa
import Derived.Deep.RegionHeld3
namespace Go.Proofs.YtideooaefplbhaaDoor
open Go.RowKit Go.Sort Wm Cr

theorem decN_inj : ∀ (k a b : Nat), decN k a = decN k b → a % 10 ^ k = b % 10 ^ k
  | 0, a, b, _ => by simp [Nat.mod_one]
  | k + 1, a, b, h => by
    rw [decN, decN] at h
    injection h with h1 h2
    have h3 := decN_inj k a b h2
    have h4 : a / 10 ^ k % 10 = b / 10 ^ k % 10 := by
      have e := congrArg UInt8.toNat h1
      rw [digB_toNat, digB_toNat] at e
      omega
    rw [Nat.pow_succ, Nat.mod_mul, Nat.mod_mul, h3, h4]
theorem showN_inj {a b : Nat} (ha : a < big) (hb : b < big) (h : showN a = showN b) : a = b := by
  unfold showN at h
  have h1 : decN (ndN a) a = decN (ndN b) b := by
    injection h with h
    have h2 := congrArg Array.toList h
    simpa using h2
  have h2 : ndN a = ndN b := by rw [← decN_length (ndN a) a, h1, decN_length]
  rw [← h2] at h1
  have h3 := decN_inj _ _ _ h1
  rw [Nat.mod_eq_of_lt (ndN_len a ha).2.2.1, Nat.mod_eq_of_lt (by rw [h2]; exact (ndN_len b hb).2.2.1)] at h3
  exact h3
theorem show_is_most {a : Nat} (ha : a < big) : ((showN a).toList == [51, 52, 48, 50, 56, 50, 51, 54, 54, 57, 50, 48, 57, 51, 56, 52, 54, 51, 52, 54, 51, 51, 55, 52, 54, 48, 55, 52, 51, 49, 55, 54, 56, 50, 49, 49, 52, 53, 53]) = decide (a = mostN) := by
  have e : ([51, 52, 48, 50, 56, 50, 51, 54, 54, 57, 50, 48, 57, 51, 56, 52, 54, 51, 52, 54, 51, 51, 55, 52, 54, 48, 55, 52, 51, 49, 55, 54, 56, 50, 49, 49, 52, 53, 53] : List UInt8) = (showN mostN).toList := by rw [show_most_text]; decide +kernel
  rw [e, ByteArray.toList_eq, ByteArray.toList_eq]
  by_cases h : a = mostN
  · rw [decide_eq_true h, h]
    exact beq_self_eq_true _
  · rw [decide_eq_false h]
    exact beq_eq_false_iff_ne.2 (fun e => h (showN_inj ha most_lt (ByteArray.ext (Array.toList_inj.mp e))))
/-- What the world must keep, behind a first one, and blocks of known cells. -/
structure Hx (Mo : World → Prop) (w W : World) (l : List (Nat × List Value)) : Prop where
  mo : Mo W
  bel : Below w.heap.size w W
  box : ∀ x ∈ l, BoxAt W x.1 x.2
section
variable {Mo : World → Prop} {w W W' : World} {l : List (Nat × List Value)} (later : ∀ W W', Mo W → Below W.heap.size W W' → Mo W')
include later
theorem Hx.call (h : Hx Mo w W l) (hb : Below W.heap.size W W') : Hx Mo w W' l := ⟨later _ _ h.mo hb, h.bel.trans (hb.mono h.bel.size), fun x hx => (h.box x hx).later hb⟩
theorem Hx.drew (h : Hx Mo w W l) : Hx Mo w W.drew l := h.call later ((Below.refl _ _).drew)
theorem Hx.alloc (h : Hx Mo w W l) (o : Obj) : Hx Mo w (W.alloc o) l := h.call later ((Below.refl _ _).alloc (Nat.le_refl _) o)
theorem Hx.new (h : Hx Mo w W l) (cs : List Value) (t : TypeId) : Hx Mo w (W.alloc (.cells cs.toArray t)) ((W.heap.size, cs) :: l) := by
  obtain ⟨h1, h2, h3⟩ := h.alloc later (.cells cs.toArray t)
  refine ⟨h1, h2, fun x hx => ?_⟩
  rcases List.mem_cons.1 hx with rfl | hx
  · exact BoxAt.new W cs t
  · exact h3 x hx
theorem Hx.ask (h : Hx Mo w W l) {f : FuncId} {args : Array Value} {R : Ending → Prop} (hc : Calls Tryd.prog f args W fun e W' => R e ∧ Below W.heap.size W W') :
    Calls Tryd.prog f args W fun e W' => R e ∧ Hx Mo w W' l := by
  refine hc.mono ?_
  rintro e w2 ⟨hr, hb⟩
  exact ⟨hr, h.call later hb⟩
end
theorem Hx.refl {Mo : World → Prop} {w : World} (h : Mo w) : Hx Mo w w [] := ⟨h, Below.refl _ _, fun _ hx => by cases hx⟩
theorem run_neq_num0 (a : Nat) (w : World) : (binOp .neq 24 (numV a) (.agg #[.int .u64 0, .int .u64 0])).run Tryd.prog w = .ok (.bool (!decide (a = 0))) w := run_neq_num a 0 w
def oneA : Acct := ⟨1, 0, 0, 0, 0, 1, 0, 0, 0⟩
def oneB : Acct := ⟨1, 0, 0, 0, 0, 1, 1, 0, 0⟩
theorem oneA_wf : oneA.Wf := by
  have h : (0 : Nat) < big := by rw [big_eq]; omega
  have h1 : (1 : Nat) < big := by rw [big_eq]; omega
  refine ⟨h1, h, h, h, h, ?_, ?_, ?_, ?_⟩ <;> (unfold oneA; constructor <;> decide)
theorem oneB_wf : oneB.Wf := by
  have h : (0 : Nat) < big := by rw [big_eq]; omega
  have h1 : (1 : Nat) < big := by rw [big_eq]; omega
  refine ⟨h1, h, h, h, h, ?_, ?_, ?_, ?_⟩ <;> (unfold oneB; constructor <;> decide)
theorem oneA_chk : chkA oneA = 9 := by decide +kernel
theorem oneB_chk : chkA oneB = 0 := by decide +kernel
set_option maxRecDepth 100000 in
set_option maxHeartbeats 1000000 in
theorem acctAlive_any {Mo : World → Prop} {Wr : (Nat → Prop) → World → Nat → ByteArray → Prop} {Rd : (Nat → Prop) → World → Nat → Option ByteArray → Prop} (L : LandedAc Mo Wr Rd) (w : World) (hM : Mo w) :
    Calls Tryd.prog 8 #[] w fun e w' => e = .returned (.bool true) ∧ Below w.heap.size w w' := by
  have h1 := Lib.hid (fun W (h : Hx Mo w W []) => h.ask L.later (L.check oneA W oneA_wf h.mo))
  have h2 := Lib.hid (fun W (h : Hx Mo w W []) => h.ask L.later (L.check oneB W oneB_wf h.mo))
  rw [oneA_chk] at h1
  rw [oneB_chk] at h2
  have hv1 : acctV oneA = .agg #[.int .u64 0, .int .u64 1, .int .u64 0, .int .u64 0, .int .u64 0, .int .u64 0, .int .u64 0, .int .u64 0, .int .u64 0, .int .u64 0, .int .i64 1, .int .i64 0, .int .i64 0, .int .i64 0] := by kernel_rfl
  have hv2 : acctV oneB = .agg #[.int .u64 0, .int .u64 1, .int .u64 0, .int .u64 0, .int .u64 0, .int .u64 0, .int .u64 0, .int .u64 0, .int .u64 0, .int .u64 0, .int .i64 1, .int .i64 1, .int .i64 0, .int .i64 0] := by kernel_rfl
  rw [hv1] at h1
  rw [hv2] at h2
  have hm0 := Hx.refl hM
  clear hv1 hv2 hM L
  go_enter Tryd.func8, Tryd.ntmps8
  go_wp2_with fail
  refine (h1.out _ hm0).mono ?_
  rintro e w1 ⟨rfl, hm1⟩
  go_wp2_with fail
  refine (h2.out _ hm1).mono ?_
  rintro e w2 ⟨rfl, hm2⟩
  go_wp2
  go_ret
  exact ⟨rfl, hm2.bel⟩
set_option maxRecDepth 100000 in
set_option maxHeartbeats 1000000 in
theorem refbit_any (f b : Int) (w : World) (h0 : 0 ≤ f) (h1 : f ≤ 9223372036854775807) (hb : 1 ≤ b) (hb2 : b ≤ 65536) : Calls Tryd.prog 26 #[.int .i64 f, .int .i64 b] w fun e w' => e = .returned (.bool (bitZ f b)) ∧ w = w' := by
  have hx := Lib.hid (show ((f / b).tmod 2 == 1) = bitZ f b by
    unfold bitZ
    rw [Int.tmod_eq_emod_of_nonneg (Int.ediv_nonneg h0 (by omega))]
    rfl)
  have hnz : b ≠ 0 := by omega
  generalize bitZ f b = v at *
  go_enter Tryd.func26, Tryd.ntmps26
  go_wp2
  go_ret
  exact ⟨by rw [← hx.out]; rfl, rfl⟩
/-- An account in a block. -/
theorem BoxAt.acct {w : World} {b : Nat} {a : Acct} {P : Prop} (h : BoxAt w b a.cells) (p : P) : w.cell? ⟨b, 0, none⟩ = some (.int .u64 ((hiN a.Id : Nat) : Int)) ∧ w.cell? ⟨b, 1, none⟩ = some (.int .u64 ((loN a.Id : Nat) : Int)) ∧ w.cell? ⟨b, 2, none⟩ = some (.int .u64 ((hiN a.DebitsPending : Nat) : Int)) ∧ w.cell? ⟨b, 3, none⟩ = some (.int .u64 ((loN a.DebitsPending : Nat) : Int)) ∧ w.cell? ⟨b, 4, none⟩ = some (.int .u64 ((hiN a.DebitsPosted : Nat) : Int)) ∧ w.cell? ⟨b, 5, none⟩ = some (.int .u64 ((loN a.DebitsPosted : Nat) : Int)) ∧ w.cell? ⟨b, 6, none⟩ = some (.int .u64 ((hiN a.CreditsPending : Nat) : Int)) ∧ w.cell? ⟨b, 7, none⟩ = some (.int .u64 ((loN a.CreditsPending : Nat) : Int)) ∧ w.cell? ⟨b, 8, none⟩ = some (.int .u64 ((hiN a.CreditsPosted : Nat) : Int)) ∧ w.cell? ⟨b, 9, none⟩ = some (.int .u64 ((loN a.CreditsPosted : Nat) : Int)) ∧ w.cell? ⟨b, 10, none⟩ = some (.int .i64 a.Ledger) ∧ w.cell? ⟨b, 11, none⟩ = some (.int .i64 a.Code) ∧ w.cell? ⟨b, 12, none⟩ = some (.int .i64 a.Flags) ∧ w.cell? ⟨b, 13, none⟩ = some (.int .i64 a.Stamp) ∧ b < w.heap.size ∧ P :=
  ⟨h.spot 0 _ rfl, h.spot 1 _ rfl, h.spot 2 _ rfl, h.spot 3 _ rfl, h.spot 4 _ rfl, h.spot 5 _ rfl, h.spot 6 _ rfl, h.spot 7 _ rfl, h.spot 8 _ rfl, h.spot 9 _ rfl, h.spot 10 _ rfl, h.spot 11 _ rfl, h.spot 12 _ rfl, h.spot 13 _ rfl, h.lt, p⟩
theorem acctV_eq (a : Acct) : acctV a = .agg #[.int .u64 ((hiN a.Id : Nat) : Int), .int .u64 ((loN a.Id : Nat) : Int), .int .u64 ((hiN a.DebitsPending : Nat) : Int), .int .u64 ((loN a.DebitsPending : Nat) : Int), .int .u64 ((hiN a.DebitsPosted : Nat) : Int), .int .u64 ((loN a.DebitsPosted : Nat) : Int),
    .int .u64 ((hiN a.CreditsPending : Nat) : Int), .int .u64 ((loN a.CreditsPending : Nat) : Int), .int .u64 ((hiN a.CreditsPosted : Nat) : Int), .int .u64 ((loN a.CreditsPosted : Nat) : Int), .int .i64 a.Ledger, .int .i64 a.Code, .int .i64 a.Flags, .int .i64 a.Stamp] := rfl
theorem box_two (w : World) (cs ds : List Value) (t u : TypeId) : BoxAt ((w.alloc (.cells cs.toArray t)).alloc (.cells ds.toArray u)) w.heap.size cs ∧ BoxAt ((w.alloc (.cells cs.toArray t)).alloc (.cells ds.toArray u)) (w.heap.size + 1) ds ∧ Below w.heap.size w ((w.alloc (.cells cs.toArray t)).alloc (.cells ds.toArray u)) := by
  have h1 := BoxAt.new w cs t
  have h2 := BoxAt.new (w.alloc (.cells cs.toArray t)) ds u
  rw [World.size_alloc] at h2
  exact ⟨h1.later ((Below.refl _ _).alloc (Nat.le_refl _) _), h2, ((Below.refl _ _).alloc (Nat.le_refl _) _).alloc (by simp) _⟩
end Go.Proofs.YtideooaefplbhaaDoor
