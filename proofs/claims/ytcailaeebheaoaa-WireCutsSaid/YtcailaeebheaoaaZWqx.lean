/- Stage 22: what the laws ask first; WireOps' walk. No condition. -/
/- Stage 22: WireReads' walk. No condition. -/
import Derived.Test.YtcailaeebheaoaaZWqs
import Derived.Test.YtcailaeebheaoaaZWqua
namespace Go.Proofs.Ytcailaeebheaoaa
open Go.RowKit Go.Sort Wm Cr

/-- The question's request, its bytes. -/
def tickQ : Req := ⟨3, [], [], 1, [], zeroF⟩
def tickB : ByteArray := ⟨#[3, 1, 0, 0, 0, 0, 0, 0, 0]⟩
theorem tickQ_good : goodQ tickQ = true := by decide
theorem tickQ_bytes : reqB tickQ = tickB := by decide +kernel
theorem tickQ_wf : tickQ.Wf := ⟨by unfold tickQ; constructor <;> decide, fun x hx => (by cases hx), fun x hx => (by cases hx), by unfold tickQ; constructor <;> decide, fun x hx => (by cases hx), zeroF_wf⟩
theorem tickQ_read : readQ tickB = some tickQ := by
  rw [← tickQ_bytes, read_put tickQ tickQ_wf tickQ_good]
  rfl
theorem tickQ_V : reqV tickQ ⟨none, 0, none, 0, none, 0⟩ = .agg #[.int .i64 3, .slice none 0 0, .slice none 0 0, .int .i64 1, .slice none 0 0, .int .u64 0, .int .u64 0, .int .i64 0, .int .i64 0, .bool false, .bool false, .bool false, .int .i64 0] := by
  unfold tickQ reqV zeroF; dsimp only; rw [show hiN 0 = 0 from by decide, show loN 0 = 0 from by decide]; rfl
theorem reqAt_nil (W : World) {q : Req} {s : Reqs} (h1 : q.Accounts = []) (h2 : q.Transfers = []) (h3 : q.Ids = []) : ReqAt W q s :=
  ⟨by rw [h1]; exact RowAt.nil, by rw [h1]; exact Nat.zero_le _, by rw [h2]; exact RowAt.nil, by rw [h2]; exact Nat.zero_le _, by rw [h3]; exact RowAt.nil, by rw [h3]; exact Nat.zero_le _⟩
theorem aliveBytes (W : World) : Calls Try.prog 12 #[.agg #[.int .i64 3, .slice none 0 0, .slice none 0 0, .int .i64 1, .slice none 0 0, .int .u64 0, .int .u64 0, .int .i64 0, .int .i64 0, .bool false, .bool false, .bool false, .int .i64 0]] W
    fun e w2 => e = .returned (.tuple #[.string ⟨#[3, 1, 0, 0, 0, 0, 0, 0, 0]⟩, .int .i64 0]) ∧ Below W.heap.size W w2 := by
  have h := wireBytes_any tickQ ⟨none, 0, none, 0, none, 0⟩ W (reqAt_nil W rfl rfl rfl) tickQ_wf
  rw [tickQ_V, if_pos tickQ_good, tickQ_bytes] at h
  exact h
theorem aliveRead (W : World) : Calls Try.prog 14 #[.string ⟨#[3, 1, 0, 0, 0, 0, 0, 0, 0]⟩] W
    fun e w2 => (∃ sl, e = .returned (.tuple #[reqV tickQ sl, .int .i64 0])) ∧ Below W.heap.size W w2 := by
  refine (wireRead_any tickB (by decide) W).mono ?_
  rintro e w2 ⟨h, hb⟩
  refine ⟨?_, hb⟩
  rcases h with ⟨q, sl, h1, h2, h3⟩ | ⟨h1, h2⟩
  · rw [tickQ_read] at h1
    injection h1 with h1
    subst h1
    exact ⟨sl, h2⟩
  · rw [tickQ_read] at h1; cases h1
set_option maxRecDepth 100000 in
set_option maxHeartbeats 2000000 in
theorem wireAlive_any (W : World) : Calls Try.prog 9 #[] W fun e w2 => e = .returned (.bool true) ∧ Below W.heap.size W w2 := by
  have hz := Lib.hid (fun (cs : Array Value) (t : TypeId) => (Below.refl W.heap.size W).alloc (Nat.le_refl _) (.cells cs t))
  have k0 := Lib.hid aliveBytes
  have k1 := Lib.hid aliveRead
  go_enter Try.func9, Try.ntmps9
  go_wp2_with fail
  refine (k0.out _).mono ?_
  rintro e w2 ⟨rfl, hb2⟩
  go_wp2_with fail
  refine (k1.out _).mono ?_
  rintro e w3 ⟨⟨sl, rfl⟩, hb3⟩
  obtain ⟨sA, sAc, sT, sTc, sI, sIc⟩ := sl
  unfold reqV tickQ
  dsimp only
  have h3 := hb2.trans (hb3.mono hb2.size)
  go_wp2
  go_ret
  exact ⟨rfl, h3.alloc h3.size _⟩
/-- A byte as a text. -/
def opB (op : Nat) : ByteArray := ⟨#[UInt8.ofNat op]⟩
theorem run_one_byte (op : Nat) (hop : op < 256) (w : World) :
    (convert 55 9 (.slice (some ⟨w.heap.size, 0, none⟩) 1 1)).run Try.prog (w.alloc (.cells #[.int .u8 (op : Int)] 5)) = .ok (.string (opB op)) (w.alloc (.cells #[.int .u8 (op : Int)] 5)) := by
  have := run_convert_bytes_back (P := Try.prog) (w.alloc (.cells #[.int .u8 (op : Int)] 5)) 55 9 5 ⟨w.heap.size, 0, none⟩ 1 [UInt8.ofNat op] Try.underlying55 Try.underlying5 Try.underlying9 (fun j hj => by
    have hj0 : j = 0 := by simpa using hj
    subst hj0
    have e : (UInt8.ofNat op).toNat = op := by simp; omega
    simp [Addr.add, go_sem, e])
  exact this
theorem opB_size (op : Nat) : (opB op).size = 1 := rfl
theorem intT_one (op : Nat) (hop : op < 256) (s : ByteArray) : intT 1 (some (opB op ++ s)) = (op : Int) := by
  unfold intT
  rw [rd_part_k (opB_size op)]
  have e : (UInt8.ofNat op).toNat = op := by simp; omega
  have e2 : bytesN (opB op) = [op] := by
    show [(UInt8.ofNat op).toNat] = [op]
    rw [e]
  unfold backZ
  rw [e2]
  show wrap64 (((op + 256 * 0 : Nat)) : Int) = (op : Int)
  unfold wrap64
  omega
theorem readOps {op : Nat} (hop : op < 256) (h : ¬ (1 ≤ op ∧ op ≤ 6)) (s : ByteArray) (hs : s.size ≤ 2000) (W : World) : Calls Try.prog 14 #[.string (opB op ++ s)] W
    fun e w2 => e = .returned (.tuple #[bareV, .int .i64 4]) ∧ Below W.heap.size W w2 := by
  refine (wireRead_any _ (by rw [ByteArray.size_append, opB_size]; omega) W).mono ?_
  rintro e w2 ⟨h1, hb⟩
  have hn := read_ops (opB op ++ s) (by rw [intT_one op hop]; omega)
  rcases h1 with ⟨q, sl, h2, -⟩ | ⟨-, h2⟩
  · rw [hn] at h2; cases h2
  · exact ⟨h2, hb⟩
theorem readEmpty (W : World) : Calls Try.prog 14 #[.string ⟨#[]⟩] W
    fun e w2 => e = .returned (.tuple #[bareV, .int .i64 4]) ∧ Below W.heap.size W w2 := by
  refine (wireRead_any _ (by decide) W).mono ?_
  rintro e w2 ⟨h1, hb⟩
  have hn := read_ops (⟨#[]⟩ : ByteArray) (by decide +kernel)
  rcases h1 with ⟨q, sl, h2, -⟩ | ⟨-, h2⟩
  · rw [hn] at h2; cases h2
  · exact ⟨h2, hb⟩
set_option maxRecDepth 100000 in
set_option maxHeartbeats 2000000 in
theorem wireOps_any (op : Nat) (hop : op < 256) (s : ByteArray) (hs : s.size ≤ 140737488351232) (W : World) :
    Calls Try.prog 8 #[.int .u8 (op : Int), .string s] W fun e w2 => e = .returned (.bool true) ∧ Below W.heap.size W w2 := by
  have ha := Lib.hid wireAlive_any
  by_cases h1 : 2000 < s.size
  · have h1I : decide (2000 < ((s.size : Nat) : Int)) = true := decide_eq_true (by omega)
    go_enter Try.func8, Try.ntmps8
    go_wp2_with fail
    refine (ha.out _).mono ?_
    rintro e w2 ⟨rfl, hb2⟩
    go_wp2
    go_ret
    exact ⟨rfl, hb2⟩
  have h1I : decide (2000 < ((s.size : Nat) : Int)) = false := decide_eq_false (by omega)
  by_cases h2 : 1 ≤ op ∧ op ≤ 6
  · have h2a : decide ((1 : Int) ≤ ((op : Nat) : Int)) = true := decide_eq_true (by omega)
    have h2b : decide (((op : Nat) : Int) ≤ 6) = true := decide_eq_true (by omega)
    go_enter Try.func8, Try.ntmps8
    go_wp2_with fail
    refine (ha.out _).mono ?_
    rintro e w2 ⟨rfl, hb2⟩
    go_wp2
    go_ret
    exact ⟨rfl, hb2⟩
  have h3 : (decide ((1 : Int) ≤ ((op : Nat) : Int)) && decide (((op : Nat) : Int) ≤ 6)) = false := by
    rw [Bool.and_eq_false_iff]
    by_cases h : 1 ≤ op
    · right; exact decide_eq_false (by omega)
    · left; exact decide_eq_false (by omega)
  have k1 := Lib.hid (readOps hop h2 s (by omega))
  have k2 := Lib.hid readEmpty
  have hob := opB_size op
  have hcv := Lib.hid (run_one_byte op hop)
  unfold bareV at k1 k2
  generalize opB op = B at *
  by_cases hc : 1 ≤ op
  · have c1 : (1 : Int) ≤ ((op : Nat) : Int) := by omega
    have c2 : ¬ (((op : Nat) : Int) ≤ 6) := by omega
    go_enter Try.func8, Try.ntmps8
    go_wp2_with fail
    refine (ha.out _).mono ?_
    rintro e w2 ⟨rfl, hb2⟩
    have hcv2 := hcv.out w2
    go_wp2_with fail
    refine (k1.out _).mono ?_
    rintro e w3 ⟨rfl, hb3⟩
    have hb4 := Lib.hid (((hb2.alloc hb2.size (.cells #[.int .u8 (op : Int)] 5))).trans (hb3.mono (hb2.alloc hb2.size (.cells #[.int .u8 (op : Int)] 5)).size))
    clear hb2 hb3 hcv2
    go_wp2_with fail
    refine (k2.out _).mono ?_
    rintro e w5 ⟨rfl, hb5⟩
    have hb7 := Lib.hid (fun (cs : Array Value) (t : TypeId) => hb4.out.alloc hb4.out.size (.cells cs t))
    have hb6 := Lib.hid ((hb7.out _ _).trans (hb5.mono (hb7.out _ _).size))
    clear hb4 hb5 hb7
    go_wp2
    go_ret
    first | exact ⟨rfl, hb6.out⟩ | exact ⟨rfl, hb6.out.alloc hb6.out.size _⟩
  · have c1 : ¬ ((1 : Int) ≤ ((op : Nat) : Int)) := by omega
    go_enter Try.func8, Try.ntmps8
    go_wp2_with fail
    refine (ha.out _).mono ?_
    rintro e w2 ⟨rfl, hb2⟩
    have hcv2 := hcv.out w2
    go_wp2_with fail
    refine (k1.out _).mono ?_
    rintro e w3 ⟨rfl, hb3⟩
    have hb4 := Lib.hid (((hb2.alloc hb2.size (.cells #[.int .u8 (op : Int)] 5))).trans (hb3.mono (hb2.alloc hb2.size (.cells #[.int .u8 (op : Int)] 5)).size))
    clear hb2 hb3 hcv2
    go_wp2_with fail
    refine (k2.out _).mono ?_
    rintro e w5 ⟨rfl, hb5⟩
    have hb7 := Lib.hid (fun (cs : Array Value) (t : TypeId) => hb4.out.alloc hb4.out.size (.cells cs t))
    have hb6 := Lib.hid ((hb7.out _ _).trans (hb5.mono (hb7.out _ _).size))
    clear hb4 hb5 hb7
    go_wp2
    go_ret
    first | exact ⟨rfl, hb6.out⟩ | exact ⟨rfl, hb6.out.alloc hb6.out.size _⟩
end Go.Proofs.Ytcailaeebheaoaa
namespace Go.Proofs.Ytcailaeebheaoaa
open Go.RowKit Go.Sort Wm Cr

set_option maxRecDepth 100000 in
set_option maxHeartbeats 4000000 in
theorem wireReads_any (s : ByteArray) (hs : s.size ≤ 140737488351232) (W : World) :
    Calls Try.prog 4 #[.string s] W fun e w2 => e = .returned (.bool true) ∧ Below W.heap.size W w2 := by
  have ha := Lib.hid wireAlive_any
  by_cases h1 : 2000 < s.size
  · have h1I : decide (2000 < ((s.size : Nat) : Int)) = true := decide_eq_true (by omega)
    go_enter Try.func4, Try.ntmps4
    go_wp2_with fail
    refine (ha.out _).mono ?_
    rintro e w2 ⟨rfl, hb2⟩
    go_wp2
    go_ret
    exact ⟨rfl, hb2⟩
  have h1I : decide (2000 < ((s.size : Nat) : Int)) = false := decide_eq_false (by omega)
  have kr := Lib.hid (fun W => wireRead_any s (by omega) W)
  go_enter Try.func4, Try.ntmps4
  go_wp2_with fail
  refine (ha.out _).mono ?_
  rintro e w2 ⟨rfl, hb2⟩
  go_wp2_with fail
  refine (kr.out _).mono ?_
  rintro e w3 ⟨hr, hb3⟩
  have hb4 := Lib.hid (hb2.trans (hb3.mono hb2.size))
  clear hb2 hb3 ha kr
  rcases hr with ⟨q, sl, h2, rfl, hat⟩ | ⟨h2, rfl⟩
  · obtain ⟨h3, h4, h5⟩ := read_back h2
    have hal := Lib.hid (fun (W' : World) (hb : Below w3.heap.size w3 W') => hat.later hb)
    have kg := Lib.hid (fun w h => refGood22_any q sl w h)
    have kb := Lib.hid (fun w h => refBytes22_any q sl w h h4)
    rw [h3] at kb
    rw [h4] at kg
    have hbx := Lib.hid (BoxAt.new w3 (q.cells sl) 31)
    have hcs := Lib.hid (fun wx b (h : BoxAt wx b (q.cells sl)) => h.req)
    clear h2 h3 h4 h5 hat
    obtain ⟨op, acs, ts, now, ids, ⟨ac, fr, tt, db, cr, la, li⟩⟩ := q
    obtain ⟨sA, sAc, sT, sTc, sI, sIc⟩ := sl
    unfold reqV at *
    dsimp only at *
    go_wp2_with fail
    have hb5 := (Below.refl w3.heap.size w3).alloc (Nat.le_refl _) (.cells #[.int .i64 op, .slice sA acs.length sAc, .slice sT ts.length sTc, .int .i64 now, .slice sI ids.length sIc, .int .u64 ((hiN ac : Nat) : Int), .int .u64 ((loN ac : Nat) : Int), .int .i64 fr, .int .i64 tt, .bool db, .bool cr, .bool la, .int .i64 li] 31)
    refine (kg.out _ (hal.out _ hb5)).mono ?_
    rintro e w5 ⟨rfl, hb6⟩
    obtain ⟨z0, z1, z2, z3, z4, z5, z6, z7, z8, z9, z10, z11, z12, zl⟩ := hcs.out _ _ (hbx.out.later hb6)
    try dsimp only at z0 z1 z2 z3 z4 z5 z6 z7 z8 z9 z10 z11 z12 zl
    have hb7 := hb5.trans (hb6.mono hb5.size)
    clear kg hb5 hb6 hbx hcs
    go_wp2_with fail
    refine (kb.out _ (hal.out _ hb7)).mono ?_
    rintro e w6 ⟨rfl, hb8⟩
    have hb9 := hb7.trans (hb8.mono hb7.size)
    have hfin := Lib.hid (hb4.out.trans (hb9.mono hb4.out.size))
    clear hb7 hb8 hb9 kb hal z0 z1 z2 z3 z4 z5 z6 z7 z8 z9 z10 z11 z12 zl hb4
    go_wp2
    go_ret
    exact ⟨by simp, hfin.out⟩
  · unfold bareV
    go_wp2
    go_ret
    exact ⟨by simp, by first | exact hb4.out | exact hb4.out.alloc hb4.out.size _⟩
end Go.Proofs.Ytcailaeebheaoaa
