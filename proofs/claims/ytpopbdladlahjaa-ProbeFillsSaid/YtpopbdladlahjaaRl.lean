/- Stage 11: ProbeFills' walk. No condition but the landed package's. -/
import Derived.Test.YtpopbdladlahjaaRk
import Derived.Test.YtpopbdladlahjaaRn
namespace Go.Proofs.Ytpopbdladlahjaa
open Go.RowKit Go.Maps Wm

def nmB (x : Numb) : Nat := num x.Hi x.Lo
/-- What stands in the table behind the first k names. -/
def fillT (l : List Numb) : Nat → Tbl
  | 0 => []
  | k + 1 => putT (fillT l k) (nmB (l.getD k default)) (k : Int)
theorem fillT_length (l : List Numb) : ∀ k, (fillT l k).length ≤ k
  | 0 => Nat.le_refl _
  | k + 1 => by
    have := fillT_length l k
    unfold fillT
    rw [putT_length]
    split <;> omega
theorem fillT_once (l : List Numb) : ∀ k, OnceT (fillT l k)
  | 0 => List.nodup_nil
  | k + 1 => (fillT_once l k).put _ _
theorem nmB_lt {x : Numb} (h : x.Wf) : nmB x < big := num_lt (by have := h.Hi; omega) (by have := h.Lo; omega)
theorem fillT_big {l : List Numb} (hl : ∀ x ∈ l, x.Wf) : ∀ k, k ≤ l.length → ∀ x ∈ (fillT l k).map Prod.fst, x < big
  | 0, _ => fun x hx => by cases hx
  | k + 1, hk => fun x hx => by
    unfold fillT at hx
    rw [putT_names] at hx
    have hg : l.getD k default = l[k]'(by omega) := by rw [List.getD_eq_getElem?_getD, List.getElem?_eq_getElem (by omega)]; rfl
    have hn : nmB (l.getD k default) < big := by rw [hg]; exact nmB_lt (hl _ (List.getElem_mem _))
    split at hx
    · exact fillT_big hl k (by omega) x hx
    · rcases List.mem_append.1 hx with h | h
      · exact fillT_big hl k (by omega) x h
      · rw [List.mem_singleton.1 h]; exact hn
/-- An object of the call's own, and a block that is none of its. -/
structure OnB {α : Type} (O : Kind α) (w wr : World) (p : Nat) (m : α) (B : Nat) : Prop where
  ex : ∃ F, O F wr p m ∧ (∀ k, F k → w.heap.size ≤ k) ∧ ¬ F B
  below : Below w.heap.size w wr
section
variable {α : Type} {O : Kind α} {w wr wx w2 : World} {p B b : Nat} {m m2 : α} {cs : List Value} {P : Program}
theorem OnB.start (K : IsKind O) (h : On O w wr p m) (hb : Below wr.heap.size wr w2) : OnB O w w2 p m wr.heap.size := by
  obtain ⟨⟨F, h1, h2⟩, h3⟩ := h
  exact ⟨⟨F, K.later h1 hb, h2, fun e => Nat.lt_irrefl _ (K.near _ _ _ _ h1 _ e)⟩, h3.trans (hb.mono h3.size)⟩
theorem OnB.later (K : IsKind O) (h : OnB O w wr p m B) (hb : Below wr.heap.size wr w2) : OnB O w w2 p m B := by
  obtain ⟨⟨F, h1, h2, h4⟩, h3⟩ := h
  exact ⟨⟨F, K.later h1 hb, h2, h4⟩, h3.trans (hb.mono h3.size)⟩
/-- A call that turns it: another block, and one that was made behind it, stay. -/
theorem OnB.opX (K : IsKind O) (h : OnB O w wr p m B) (hB : B < wr.heap.size) (hb : Below wr.heap.size wr wx) (hn : wr.heap.size ≤ b) (hbx : BoxAt wx b cs) {f : FuncId} {args : Array Value} {S : Ending → Prop}
    (hc : ∀ F, O F wx p m → Calls P f args wx fun e W' => S e ∧ PostO O F p m2 wx W') :
    Calls P f args wx fun e w2 => S e ∧ OnB O w w2 p m2 B ∧ BoxAt w2 b cs ∧ w2.heap[B]? = wx.heap[B]? ∧ wx.heap.size ≤ w2.heap.size := by
  obtain ⟨⟨F, h1, h2, h4⟩, h3⟩ := h
  have nF := K.near _ _ _ _ h1
  refine (hc F (K.later h1 hb)).mono ?_
  rintro e w2 ⟨hr, F', k1, k2, k3⟩
  have hs := hb.size
  refine ⟨hr, ⟨⟨F', k1, fun k hk => ?_, fun e => h4 (k3 B (by omega) e)⟩, (h3.trans (hb.mono h3.size)).trans (k2.to_below (Nat.le_trans h3.size hs) h2)⟩, hbx.only k2 (fun e => by have := nF _ e; omega), k2.block B (by omega) h4, k2.size⟩
  by_cases e : k < wx.heap.size
  · exact h2 k (k3 k e hk)
  · have := h3.size; omega
end
theorem OnB.grown {α : Type} {O : Kind α} (K : IsKind O) {w wr w2 : World} {p B : Nat} {m : α} (h : OnB O w wr p m B) (hg : wr.grownBy w2 (some B)) (hB : w.heap.size ≤ B) : OnB O w w2 p m B := by
  obtain ⟨⟨F, h1, h2, h4⟩, h3⟩ := h
  have hO : Only (fun k => k = B) wr w2 := Only.of_grown hg (fun k _ hk => (Option.some.inj hk).symm)
  exact ⟨⟨F, K.keep _ _ _ _ _ _ h1 hO (fun k hf e => h4 (by rw [← e]; exact hf)), h2, h4⟩, h3.trans (hO.to_below h3.size (fun k e => by rw [e]; exact hB))⟩
theorem ownsMap_heap {P : Program} {k : TypeId} {R : Value → Option (DataW Unit × List MemPlace)} {w w2 : World} {b n : Nat} {D : DataW Unit} (h : w.ownsMap P k R b n D) (hb : w2.heap[b]? = w.heap[b]?) : w2.ownsMap P k R b n D := by
  obtain ⟨es, clock, h1, r⟩ := h
  exact ⟨es, clock, hb.trans h1, r⟩
theorem ranges_heap {P : Program} {k : TypeId} {R : Value → Option (DataW Unit × List MemPlace)} {w w2 : World} {b r n cnt : Nat} {D : DataW Unit} {left : Lit → Bool} (h : w.ranges P k R b r n D left cnt) (hb : w2.heap[b]? = w.heap[b]?) (hr : w2.heap[r]? = w.heap[r]?) : w2.ranges P k R b r n D left cnt := by
  obtain ⟨es, clock, since, seen, c0, h1, h2, h3, h4, h5, rest⟩ := h
  exact ⟨es, clock, since, seen, c0, hb.trans h1, h2, h3, h4, hr.trans h5, rest⟩
/-- An object of the call's own, and two blocks that are none of its. -/
structure OnC {α : Type} (O : Kind α) (w wr : World) (p : Nat) (m : α) (B r : Nat) : Prop where
  ex : ∃ F, O F wr p m ∧ (∀ k, F k → w.heap.size ≤ k) ∧ ¬ F B ∧ ¬ F r
  below : Below w.heap.size w wr
section
variable {α : Type} {O : Kind α} {w wr wx w2 : World} {p B r : Nat} {m m2 : α} {P : Program}
theorem OnC.later (K : IsKind O) (h : OnC O w wr p m B r) (hb : Below wr.heap.size wr w2) : OnC O w w2 p m B r := by
  obtain ⟨⟨F, h1, h2, h4⟩, h3⟩ := h
  exact ⟨⟨F, K.later h1 hb, h2, h4⟩, h3.trans (hb.mono h3.size)⟩
theorem OnC.step (K : IsKind O) (h : OnC O w wr p m B r) (hg : wr.grownBy w2 (some r)) (hr : w.heap.size ≤ r) : OnC O w w2 p m B r := by
  obtain ⟨⟨F, h1, h2, h4, h5⟩, h3⟩ := h
  have hO : Only (fun k => k = r) wr w2 := Only.of_grown hg (fun k _ hk => (Option.some.inj hk).symm)
  exact ⟨⟨F, K.keep _ _ _ _ _ _ h1 hO (fun k hf e => h5 (by rw [← e]; exact hf)), h2, h4, h5⟩, h3.trans (hO.to_below h3.size (fun k e => by rw [e]; exact hr))⟩
theorem OnC.op (K : IsKind O) (h : OnC O w wr p m B r) (hB : B < wr.heap.size) (hr : r < wr.heap.size) (hb : Below wr.heap.size wr wx) {f : FuncId} {args : Array Value} {S : Ending → Prop}
    (hc : ∀ F, O F wx p m → Calls P f args wx fun e W' => S e ∧ PostO O F p m2 wx W') :
    Calls P f args wx fun e w2 => S e ∧ OnC O w w2 p m2 B r ∧ w2.heap[B]? = wx.heap[B]? ∧ w2.heap[r]? = wx.heap[r]? := by
  obtain ⟨⟨F, h1, h2, h4, h5⟩, h3⟩ := h
  refine (hc F (K.later h1 hb)).mono ?_
  rintro e w2 ⟨hs, F', k1, k2, k3⟩
  have hsz := hb.size
  refine ⟨hs, ⟨⟨F', k1, fun k hk => ?_, fun e => h4 (k3 B (by omega) e), fun e => h5 (k3 r (by omega) e)⟩, (h3.trans (hb.mono h3.size)).trans (k2.to_below (Nat.le_trans h3.size hsz) h2)⟩, k2.block B (by omega) h4, k2.block r (by omega) h5⟩
  by_cases e : k < wx.heap.size
  · exact h2 k (k3 k e hk)
  · have := h3.size; omega
end
theorem zeroInt (w : World) : (zeroValue 3).run Try.prog w = .ok (.int .i64 0) w := by kernel_rfl
theorem below_grown {w w2 : World} (h : Below w.heap.size w w2) : w.grownBy w2 none := ⟨h.os, h.tape, h.output, h.size, fun i hi _ => h.block i hi⟩
section
variable {Tb : Kind Tbl}
set_option maxRecDepth 100000 in
set_option maxHeartbeats 4000000 in
theorem probeFills_any (K : LandedTb Tb) (ao : Option Addr) (cap : Nat) (l : List Numb) (hl : ∀ x ∈ l, x.Wf) (hlen : l.length ≤ 140737488351232) (other : Nat) (ho : other < big) (w : World) (hA : NumbsAt w ao l) :
    Calls Try.prog 5 #[.slice ao l.length cap, numV other] w fun e w' => e = .returned (.bool true) ∧ Below w.heap.size w w' := by
  have hal := Lib.hid (probeAlive_any K)
  have hw0 : Below w.heap.size w (w.alloc (.cells #[.int .u64 ((hiN other : Nat) : Int), .int .u64 ((loN other : Nat) : Int)] 33)) := (Below.refl _ _).alloc (Nat.le_refl _) _
  have hbx := BoxAt.new w [.int .u64 ((hiN other : Nat) : Int), .int .u64 ((loN other : Nat) : Int)] 33
  by_cases hbig : 400 < l.length
  · have hb : decide (400 < ((l.length : Nat) : Int)) = true := decide_eq_true (by omega)
    go_enter Try.func5, Try.ntmps5
    go_wp2_with fail
    refine (hal.out _).mono ?_
    rintro e w1 ⟨rfl, hb1⟩
    have hb2 := hw0.trans (hb1.mono hw0.size)
    go_wp2
    go_ret
    exact ⟨rfl, hb2⟩
  · have hb : decide (400 < ((l.length : Nat) : Int)) = false := decide_eq_false (by omega)
    have hbig' := Lib.hid hbig
    have hmm := @run_makeMap Try.prog
    clear hbig
    go_enter Try.func5, Try.ntmps5
    generalize hw0e : w.alloc (.cells #[.int .u64 ((hiN other : Nat) : Int), .int .u64 ((loN other : Nat) : Int)] 33) = w0 at *
    go_wp2_with fail
    refine (hal.out _).mono ?_
    rintro e w1 ⟨rfl, hb1⟩
    go_wp2_with fail
    refine (K.new _).mono ?_
    rintro e w2 hm
    obtain ⟨p, _, rfl, -⟩ := id hm
    have hT0 := OnB.start K.toIsKind (On.made hb1 hm) (w2 := w2.alloc (.map #[] 0)) ((Below.refl _ _).alloc (Nat.le_refl _) _)
    have hown0 : (w2.alloc (.map #[] 0)).ownsMap Try.prog 33 (plainElem (H := Unit) Try.prog 3) w2.heap.size 0 (.map []) := World.ownsMap_made _ _ _ _
    have hm9 : w1.heap.size ≤ w2.heap.size := by obtain ⟨_, _, _, _, _, hb9⟩ := hm; exact hb9.size
    clear hm
    go_wp2_with fail
    go_loopw [29] (fun iv wr => ∃ k : Nat, k ≤ l.length ∧ iv = .int .i64 k ∧ OnB Tb w0 wr p (fillT l k) w2.heap.size ∧ ∃ D, wr.ownsMap Try.prog 33 (plainElem (H := Unit) Try.prog 3) w2.heap.size k D ∧ Tied D (fillT l k)) (fun iv _ => (l.length - RowKit.intOf iv).toNat)
    case atStart => exact ⟨0, by omega, rfl, hT0, .map [], hown0, Tied.start⟩
    case round =>
      clear hT0 hown0
      obtain ⟨k, hk, rfl, hT, D, hown, htd⟩ := hrel
      by_cases hlt : k < l.length
      · have hbw := hw0.trans (hT.below.mono hw0.size)
        obtain ⟨b, off, rfl, hbl, hc⟩ := (hA.below hbw (Nat.le_refl _)).spot k hlt
        have hx := hl _ (List.getElem_mem hlt)
        have hnb := nmB_lt hx
        have hnx : fillT l (k + 1) = putT (fillT l k) (nmB l[k]) (k : Int) := by
          show putT (fillT l k) (nmB (l.getD k default)) (k : Int) = _
          rw [List.getD_eq_getElem?_getD, List.getElem?_eq_getElem hlt]; rfl
        have hlm := fillT_length l k
        have hfin := Lib.hid (fun (w9 : World) (D9 : DataW Unit) (hT : OnB Tb w0 w9 p (fillT l (k + 1)) w2.heap.size) (h1 : w9.ownsMap Try.prog 33 (plainElem (H := Unit) Try.prog 3) w2.heap.size (k + 1) D9) (h2 : Tied D9 (fillT l (k + 1))) =>
          show (∃ k1 : Nat, k1 ≤ l.length ∧ (Value.int .i64 ((k : Int) + 1)) = .int .i64 k1 ∧ OnB Tb w0 w9 p (fillT l k1) w2.heap.size ∧ ∃ D, w9.ownsMap Try.prog 33 (plainElem (H := Unit) Try.prog 3) w2.heap.size k1 D ∧ Tied D (fillT l k1)) ∧ (l.length - RowKit.intOf (.int .i64 ((k : Int) + 1))).toNat < (l.length - RowKit.intOf (.int .i64 (k : Int))).toNat from
          ⟨⟨k + 1, by omega, by go_num, hT, D9, h1, h2⟩, by simp [RowKit.intOf]; omega⟩)
        rw [hnx] at hfin
        clear hnx
        have e1 : ((l[k].Hi : Nat) : Int) = ((hiN (nmB l[k]) : Nat) : Int) := by unfold nmB; rw [hiN_num (by have := hx.Lo; omega)]
        have e2 : ((l[k].Lo : Nat) : Int) = ((loN (nmB l[k]) : Nat) : Int) := by unfold nmB; rw [loN_num (by have := hx.Lo; omega)]
        have c0 := hc 0 _ rfl
        have c1 := hc 1 _ rfl
        rw [e1] at c0
        rw [e2] at c1
        dsimp only [Nat.add_zero] at c0 c1
        generalize nmB l[k] = n at *
        generalize fillT l k = m at *
        clear e1 e2 hc hx
        have hl4 : l.length ≤ 400 := by have := hbig'.out; omega
        have hB : w2.heap.size < wr.heap.size := hown.lt
        have hBw : w0.heap.size ≤ w2.heap.size := by have := hb1.size; have := hm9; omega
        have hal2 : Below wr.heap.size wr (wr.alloc (.cells #[.int .u64 ((hiN n : Nat) : Int), .int .u64 ((loN n : Nat) : Int)] 33)) := (Below.refl _ _).alloc (Nat.le_refl _) _
        have hbn := BoxAt.new wr [.int .u64 ((hiN n : Nat) : Int), .int .u64 ((loN n : Nat) : Int)] 33
        have hownA := hown.alloc (.cells #[.int .u64 ((hiN n : Nat) : Int), .int .u64 ((loN n : Nat) : Int)] 33)
        have kput := Lib.hid (hT.opX K.toIsKind hB hal2 (Nat.le_refl _) hbn (fun F h => K.put F _ p m n (k : Int) h hnb (by omega) (by omega) (by omega)))
        have hkey := keyOf_num hnb
        have hhas := htd.has_ n hnb
        have hput := Lib.hid (htd.put (hown.tidy numLaw) hnb (k : Int))
        have hgr := Lib.hid (fun w5 w6 (hT : OnB Tb w0 w5 p (putT m n k) w2.heap.size) (hg : w5.grownBy w6 (some w2.heap.size)) => hT.grown K.toIsKind hg hBw)
        unfold numV at hkey kput
        generalize (getT m n).isSome = bb at *
        have hne : ((!bb) == bb) = false := by cases bb <;> rfl
        clear hT htd hown hbw hl hA hbig' hal hal2 hbn hlm hnb hw0 hbx
        go_wp2_with (at_lookup; refine wpList_lookup_own_ok_int _ rfl _ _ 44 rfl 33 3 .i64 numLaw Try.underlying44 Try.underlying3 (zeroInt _) w2.heap.size k D rfl hownA _ _ rfl hkey ?_; intro c hat hwc)
        refine kput.out.mono ?_
        rintro e w5 ⟨rfl, hT5, hb5, hh5, hs5⟩
        have y0 := hb5.spot 0 _ rfl
        have y1 := hb5.spot 1 _ rfl
        have yl := hb5.lt
        have hown5 := ownsMap_heap hownA hh5
        clear hb5 hh5 kput hownA
        go_wp2_with (at_mapUpdate; refine wpList_mapUpdate_own _ rfl _ _ _ 44 rfl 33 3 numLaw Try.underlying44 _ w2.heap.size k _ rfl hown5 (by unfold maxLen; omega) _ _ _ rfl rfl hkey _ [] (plainElem_int Try.underlying3 (WalkArith.wf_i64 (by omega))) ?_; intro w6 hown6 hgrow6)
        exact hfin.out _ _ (hgr.out _ _ hT5 hgrow6) hown6 hput.out
      · obtain rfl : k = l.length := by omega
        have hone := fillT_once l l.length
        have hbg := fillT_big hl l.length (Nat.le_refl _)
        have hlm := fillT_length l l.length
        have hl4 : l.length ≤ 400 := by have := hbig'.out; omega
        have hbw := hw0.trans (hT.below.mono hw0.size)
        obtain ⟨wq, hwq⟩ : ∃ wq, wq = wr := ⟨wr, rfl⟩
        subst hwq
        generalize fillT l l.length = m at *
        have bxo := hbx.later hT.below
        have z0 := bxo.spot 0 _ rfl
        have z1 := bxo.spot 1 _ rfl
        have zl := bxo.lt
        obtain ⟨⟨F, hF, hFw, hFB⟩, -⟩ := hT
        have nF := K.near _ _ _ _ hF
        clear hl hA hbig' hal hw0 hbx
        go_wp2_with (at_range; refine wpList_range_own _ rfl _ 44 rfl 33 3 numLaw Try.underlying44 _ w2.heap.size l.length D rfl hown ?_; intro w3 hrg0 hg0 hs0)
        go_frame
        go_loopw [52] (fun _ wr => ∃ left cnt, wr.ranges Try.prog 33 (plainElem (H := Unit) Try.prog 3) w2.heap.size wq.heap.size l.length D left cnt ∧ Only (fun k => k = wq.heap.size) w3 wr) (fun _ wr => wr.rangeLeft w2.heap.size wq.heap.size)
        case atStart => exact ⟨_, _, hrg0, Only.refl _ _⟩
        case round =>
          obtain ⟨left, cnt, hrg, hO⟩ := hrel
          go_wp2_with (at_next; refine wpList_next_ranges _ rfl _ rfl 33 numLaw _ (fun x : {n : Nat // n < big} => numV x.1) (fun c : Int => .int .i64 c) (fun key kl h => keyOf_inv h) (fun v y h => by obtain ⟨c, rfl, _⟩ := plainElem_int_inv Try.underlying3 h; exact ⟨c, rfl⟩) w2.heap.size wq.heap.size l.length D left cnt rfl hrg ?_ ?_)
          · intro hc0 hl0
            -- behind the first range: the other name
            have hO3 : Only (fun _ => False) wq w3 := Only.of_grown hg0 (fun k _ hk => by cases hk)
            have hOr : Only (fun k => k = wq.heap.size) wq wr := (hO3.mono (G := fun k => k = wq.heap.size) (fun _ _ e => e.elim)).trans hO (fun _ _ e => e)
            have hFr := K.keep _ _ _ _ _ _ hF hOr (fun k hf e => by have := nF k hf; omega)
            have bxr := bxo.only hOr (fun e => by have := bxo.lt; omega)
            have hownr := hrg.owns
            have hkey := keyOf_num ho
            have hhas := htd.has_ other ho
            have kg := Lib.hid (K.get F _ p m other hFr ho)
            have y0 := bxr.spot 0 _ rfl
            have y1 := bxr.spot 1 _ rfl
            have yl := bxr.lt
            unfold numV at hkey kg
            generalize hbo : (getT m other).isSome = bo at *
            have hbb : (bo != bo) = false := by cases bo <;> rfl
            have hsz := htd.size
            have hla := Lib.hid (fun w5 w6 (hb5 : Below wr.heap.size wr w5) (hb6 : Below w5.heap.size w5 w6) => (K.toIsKind.later (K.toIsKind.later hFr hb5) hb6))
            clear z0 z1 zl hO3 hg0 hrg0 hF hc0 hl0 hown
            go_wp2_with (at_lookup; refine wpList_lookup_own_ok_int _ rfl _ _ 44 rfl 33 3 .i64 numLaw Try.underlying44 Try.underlying3 (zeroInt _) w2.heap.size l.length D rfl hownr _ _ rfl hkey ?_; intro c hat hwc)
            refine kg.out.mono ?_
            rintro e w5 ⟨rfl, hb5⟩
            have klen := Lib.hid (K.len F w5 p m (K.toIsKind.later hFr hb5))
            have hown5 := hownr.kept (below_grown hb5) (by simp)
            clear y0 y1 yl kg
            go_wp2_with fail
            refine klen.out.mono ?_
            rintro e w6 ⟨rfl, hb6⟩
            have hown6 := hown5.kept (below_grown hb6) (by simp)
            have hF6 := hla.out _ _ hb5 hb6
            have hbw6 : Below w.heap.size w w6 := by
              have q1 : Below w.heap.size w wr := hbw.trans (hOr.to_below hbw.size (fun k e => by rw [e]; exact hbw.size))
              exact (q1.trans (hb5.mono q1.size)).trans (hb6.mono (Nat.le_trans q1.size hb5.size))
            have hle := fun ty => hown6.len (t := 44) (e := 3) Try.underlying44 ty
            rw [hsz] at hle
            have hBlt := hown6.lt
            have nF6 := K.near _ _ _ _ hF6
            clear hown5 klen hownr hla hb5 hb6 hFr bxr hOr hrg hO hkey hwc hat
            go_wp2_with (at_range; refine wpList_range_own _ rfl _ 44 rfl 33 3 numLaw Try.underlying44 _ w2.heap.size l.length D rfl hown6 ?_; intro w7 hrg7 hg7 hs7)
            go_frame
            have hC0 : OnC Tb w w7 p m w2.heap.size w6.heap.size := by
              have hO7 : Only (fun _ => False) w6 w7 := Only.of_grown hg7 (fun k _ hk => by cases hk)
              refine ⟨⟨F, K.keep _ _ _ _ _ _ hF6 hO7 (fun _ _ e => e), fun k hk => ?_, hFB, fun e => Nat.lt_irrefl _ (nF6 _ e)⟩, hbw6.trans (hO7.to_below hbw6.size (fun _ e => e.elim))⟩
              have h1 := hFw k hk
              rw [← hw0e, World.size_alloc] at h1
              omega
            have hl7 : ∀ k, k < big → (getT m k).isSome = Maps.has D (keyN k) := fun k hk => (htd.has_ k hk).symm
            clear hown6 hF6 hg7 nF6 hFw hFB hle hsz hhas nF
            go_loopw [94] (fun _ wr => ∃ left cnt m', wr.ranges Try.prog 33 (plainElem (H := Unit) Try.prog 3) w2.heap.size w6.heap.size l.length D left cnt ∧ OnC Tb w wr p m' w2.heap.size w6.heap.size ∧ (∀ k, k < big → (getT m' k).isSome = left (keyN k)) ∧ OnceT m' ∧ ∀ x ∈ m'.map Prod.fst, x < big) (fun _ wr => wr.rangeLeft w2.heap.size w6.heap.size)
            case atStart => exact ⟨_, _, m, hrg7, hC0, hl7, hone, hbg⟩
            case round =>
              clear hrg7 hC0 hl7
              obtain ⟨left, cnt, m', hrg, hC, hlf, hon', hbg'⟩ := hrel
              go_wp2_with (at_next; refine wpList_next_ranges _ rfl _ rfl 33 numLaw _ (fun x : {n : Nat // n < big} => numV x.1) (fun c : Int => .int .i64 c) (fun key kl h => keyOf_inv h) (fun v y h => by obtain ⟨c, rfl, _⟩ := plainElem_int_inv Try.underlying3 h; exact ⟨c, rfl⟩) w2.heap.size w6.heap.size l.length D left cnt rfl hrg ?_ ?_)
              · intro hc0 hl0
                have hm0 : m' = [] := by
                  cases m' with
                  | nil => rfl
                  | cons a r =>
                    have h1 := hlf a.1 (hbg' _ (List.mem_cons_self ..))
                    rw [hl0] at h1
                    have h2 : getT (a :: r) a.1 = some a.2 := by
                      show getT ((a.1, a.2) :: r) a.1 = some a.2
                      unfold getT
                      rw [if_pos rfl]
                    rw [h2] at h1
                    cases h1
                subst hm0
                obtain ⟨⟨F', hF', -⟩, hbl⟩ := hC
                have kl0 := Lib.hid (K.len F' wr p [] hF')
                clear hrg hlf hF' hl0
                go_wp2_with fail
                refine kl0.out.mono ?_
                rintro e w9 ⟨rfl, hb9⟩
                have hbe := hbl.trans (hb9.mono hbl.size)
                go_wp2
                go_ret
                exact ⟨rfl, hbe⟩
              · intro x hxb c kl yd yp w8 cnt8 hkey hlk hv hat hrg1 hlt1 hg1 hs1 hen
                have hkl : kl = keyN x := Option.some.inj (hkey.symm.trans (keyOf_num hxb))
                subst hkl
                have hC8 := hC.step K.toIsKind hg1 hbw6.size
                have hal8 : Below w8.heap.size w8 (w8.alloc (.cells #[.int .u64 ((hiN x : Nat) : Int), .int .u64 ((loN x : Nat) : Int)] 33)) := (Below.refl _ _).alloc (Nat.le_refl _) _
                have hBr := hrg1.owns.lt
                have hrr := hrg1.lt
                have kd := Lib.hid (hC8.op K.toIsKind hBr hrr hal8 (fun F h => K.drop F _ p m' x h hxb))
                have hsome := hlf x hxb
                rw [hlk] at hsome
                rw [hsome] at kd
                unfold numV at kd hen
                have hrgA := hrg1.alloc (.cells #[.int .u64 ((hiN x : Nat) : Int), .int .u64 ((loN x : Nat) : Int)] 33)
                have hfin := Lib.hid (fun w9 (hC9 : OnC Tb w w9 p (dropT m' x) w2.heap.size w6.heap.size) (hB9 : w9.heap[w2.heap.size]? = (w8.alloc (.cells #[.int .u64 ((hiN x : Nat) : Int), .int .u64 ((loN x : Nat) : Int)] 33)).heap[w2.heap.size]?) (hr9 : w9.heap[w6.heap.size]? = (w8.alloc (.cells #[.int .u64 ((hiN x : Nat) : Int), .int .u64 ((loN x : Nat) : Int)] 33)).heap[w6.heap.size]?) =>
                  show (∃ left cnt m', w9.ranges Try.prog 33 (plainElem (H := Unit) Try.prog 3) w2.heap.size w6.heap.size l.length D left cnt ∧ OnC Tb w w9 p m' w2.heap.size w6.heap.size ∧ (∀ k, k < big → (getT m' k).isSome = left (keyN k)) ∧ OnceT m' ∧ ∀ x ∈ m'.map Prod.fst, x < big) ∧ w9.rangeLeft w2.heap.size w6.heap.size < wr.rangeLeft w2.heap.size w6.heap.size from by
                    have hr10 := ranges_heap hrgA hB9 hr9
                    refine ⟨⟨_, _, dropT m' x, hr10, hC9, fun k hk => ?_, hon'.drop x, fun y hy => hbg' y ((dropT_sub m' x).subset hy)⟩, ?_⟩
                    · rw [getT_drop m' hon', keyN_same hk hxb]
                      by_cases e : x = k
                      · subst e
                        rw [if_pos rfl, decide_eq_true rfl, Bool.not_true, Bool.and_false]; rfl
                      · rw [if_neg e, decide_eq_false (fun e2 => e e2.symm), Bool.not_false, Bool.and_true]
                        exact hlf k hk
                    · rw [hr10.left_eq, hrg.left_eq]
                      exact hlt1)
                clear hkey hlk hv hat hrg hrg1 hC hC8 hal8 hg1 hrgA hsome hlf hon' hbg' htd hone hbg
                go_wp2_with fail
                refine kd.out.mono ?_
                rintro e w9 ⟨rfl, hC9, hB9, hr9⟩
                go_wp2_with fail
                exact hfin.out _ hC9 hB9 hr9
          · intro x hxb c kl yd yp w4 cnt4 hkey hlk hv hat hrg1 hlt1 hg1 hs1 hen
            try dsimp only at hkey hen
            have hkl : kl = keyN x := Option.some.inj (hkey.symm.trans (keyOf_num hxb))
            subst hkl
            have hh : Maps.has D (keyN x) = true := has_true_of_atKey hat
            rw [htd.has_ x hxb] at hh
            obtain ⟨v, hv2⟩ := Option.isSome_iff_exists.1 hh
            obtain ⟨a, ea, hye, hwf⟩ := plainElem_int_inv Try.underlying3 hv
            injection hye with hye _
            subst hye
            have hvc : v = c := by
              have e3 := (hat (.lit (.int .i64 0))).symm.trans (htd.at_ x hxb v hv2 _)
              injection ea with _ ea
              subst ea
              injection e3 with e3
              injection e3 with _ e3
              exact e3.symm
            subst hvc
            have hO4 : Only (fun k => k = wq.heap.size) w3 w4 := hO.trans (Only.of_grown (F := fun k => k = wq.heap.size) hg1 (fun k _ hk => (Option.some.inj hk).symm)) (fun _ _ e => e)
            have hO3 : Only (fun _ => False) wq w3 := Only.of_grown hg0 (fun k _ hk => by cases hk)
            have hF4 := K.keep _ _ _ _ _ _ (K.keep _ _ _ _ _ _ hF hO3 (fun _ _ e => e)) hO4 (fun k hf e => by have := nF k hf; omega)
            have hal4 : Below w4.heap.size w4 (w4.alloc (.cells #[.int .u64 ((hiN x : Nat) : Int), .int .u64 ((loN x : Nat) : Int)] 33)) := (Below.refl _ _).alloc (Nat.le_refl _) _
            have kg := Lib.hid (K.get F _ p m x (K.toIsKind.later hF4 hal4) hxb)
            rw [hv2] at kg
            unfold numV at kg hen
            have hfin := Lib.hid (fun w6 (hb6 : Below (w4.alloc (.cells #[.int .u64 ((hiN x : Nat) : Int), .int .u64 ((loN x : Nat) : Int)] 33)).heap.size (w4.alloc (.cells #[.int .u64 ((hiN x : Nat) : Int), .int .u64 ((loN x : Nat) : Int)] 33)) w6) =>
              show (∃ left cnt, w6.ranges Try.prog 33 (plainElem (H := Unit) Try.prog 3) w2.heap.size wq.heap.size l.length D left cnt ∧ Only (fun k => k = wq.heap.size) w3 w6) ∧ w6.rangeLeft w2.heap.size wq.heap.size < wr.rangeLeft w2.heap.size wq.heap.size from by
                have hb7 := hal4.trans (hb6.mono hal4.size)
                have hr6 := hrg1.kept (below_grown hb7) (by simp) (by simp)
                refine ⟨⟨_, _, hr6, hO4.trans (Only.of_below (F := fun k => k = wq.heap.size) hb7) (fun _ _ e => e)⟩, ?_⟩
                rw [hr6.left_eq, hrg.left_eq]
                exact hlt1)
            clear hkey hlk hv hat hh hrg hrg1 hO hO4 hO3 hF4 hF hal4 hwf ea hv2 hg0 hg1 hrg0 htd hone hbg hown
            go_wp2_with fail
            refine kg.out.mono ?_
            rintro e w6 ⟨rfl, hb6⟩
            go_wp2_with fail
            exact hfin.out _ hb6
end
end Go.Proofs.Ytpopbdladlahjaa
