/- Stage 13: QueueTimes' walk. No condition but the landed package's. -/
import Derived.Test.YtgdlcfkgdaaooaaPqy
namespace Go.Proofs.Ytgdlcfkgdaaooaa
open Go.RowKit Wm

theorem sub_length : ∀ (m n : List Qit), OnceQ m → OnceQ n → (∀ x ∈ m, x ∈ n) → m.length ≤ n.length
  | [], n, _, _, _ => Nat.zero_le _
  | a :: r, n, hm, hn, h => by
    have ha := h a (by simp)
    have h1 := dropQ_length hn ha
    unfold OnceQ at hm
    rw [List.map_cons, List.nodup_cons] at hm
    have h2 := sub_length r (dropQ n a.Stamp) hm.2 (hn.drop _) (fun x hx => mem_dropQ.2 ⟨h x (by simp [hx]), fun e => hm.1 (List.mem_map.2 ⟨x, hx, e⟩)⟩)
    rw [List.length_cons]
    omega
theorem SameQ.length {m n : List Qit} (h : SameQ m n) (hm : OnceQ m) (hn : OnceQ n) : m.length = n.length :=
  Nat.le_antisymm (sub_length m n hm hn (fun x hx => (h x).1 hx)) (sub_length n m hn hm (fun x hx => (h x).2 hx))
/-- Those that end behind a time. -/
def lateQ (d : Nat → Int) (n : Nat) (t : Int) : List Qit := (numQ d (List.range n)).filter fun x => decide (t < x.Due)
theorem lateQ_once (d : Nat → Int) (n : Nat) (t : Int) : OnceQ (lateQ d n t) := List.Nodup.sublist (List.filter_sublist.map _) (once_numQ List.nodup_range)
theorem lateQ_succ (d : Nat → Int) (n : Nat) (t : Int) : (lateQ d (n + 1) t).length = (lateQ d n t).length + if t < d n then 1 else 0 := by
  unfold lateQ
  rw [List.range_succ, ← numQ_snoc, List.filter_append, List.length_append]
  congr 1
  by_cases h : t < d n
  · rw [if_pos h, List.filter_cons, if_pos (by simpa using h)]; rfl
  · rw [if_neg h, List.filter_cons, if_neg (by simpa using h)]; rfl
/-- What is left at a time. -/
structure TimesQ (d : Nat → Int) (n : Nat) (t : Nat) (m : List Qit) : Prop where
  sub : ∀ x ∈ m, x ∈ numQ d (List.range n) ∧ (0 < t → (t : Int) ≤ x.Due)
  sup : ∀ x ∈ numQ d (List.range n), (t : Int) < x.Due → x ∈ m
theorem TimesQ.pop {d : Nat → Int} {n t : Nat} {m : List Qit} (h : TimesQ d n t m) {x : Qit} (hx : popR m t = some x) : TimesQ d n t (dropQ m x.Stamp) where
  sub := fun y hy => h.sub y (mem_dropQ.1 hy).1
  sup := fun y hy hd => mem_dropQ.2 ⟨h.sup y hy hd, fun e => by
    obtain ⟨h1, -, h3⟩ := popR_some hx
    have := once_mem (once_numQ (d := d) (List.nodup_range (n := n))) hy (h.sub x h1).1 e
    subst this
    omega⟩
theorem TimesQ.done {d : Nat → Int} {n t : Nat} {m : List Qit} (h : TimesQ d n t m) (ho : OnceQ m) (hx : popR m t = none) : m.length = (lateQ d n t).length ∧ TimesQ d n (t + 1) m := by
  have hl := popR_none hx
  constructor
  · refine SameQ.length (fun x => ?_) ho (lateQ_once d n t)
    unfold lateQ
    rw [List.mem_filter, decide_eq_true_iff]
    exact ⟨fun hm => ⟨(h.sub x hm).1, hl x hm⟩, fun hm => h.sup x hm.1 hm.2⟩
  · exact ⟨fun x hm => ⟨(h.sub x hm).1, fun _ => by have := hl x hm; omega⟩, fun x hm hd => h.sup x hm (by omega)⟩
theorem TimesQ.start (d : Nat → Int) (n : Nat) : TimesQ d n 0 (numQ d (List.range n)) := ⟨fun _x hx => ⟨hx, fun h => absurd h (Nat.lt_irrefl 0)⟩, fun _ h _ => h⟩
section
variable {O : Kind (List Qit)}
set_option maxRecDepth 100000 in
set_option maxHeartbeats 4000000 in
theorem queueTimes_any (K : LandedQu O) (ao : Option Addr) (cap : Nat) (l : List Inte) (hl : ∀ c ∈ l, c.Wf) (hlen : l.length ≤ 140737488351232) (times : Int) (ht1 : -9223372036854775808 ≤ times) (ht2 : times ≤ 9223372036854775807) (w : World) (hA : IntesAt w ao l) :
    Calls Try.prog 5 #[.slice ao l.length cap, .int .i64 times] w fun e w' => e = .returned (.bool true) ∧ Below w.heap.size w w' := by
  have hal := Lib.hid (queueAlive_any K)
  by_cases hskip : 100 < l.length ∨ times < 0 ∨ 60 < times
  · go_enter Try.func5, Try.ntmps5
    go_wp2_with fail
    refine (hal.out _).mono ?_
    rintro e w1 ⟨rfl, hb1⟩
    by_cases c1 : 100 < l.length
    · have h1 : decide (100 < ((l.length : Nat) : Int)) = true := decide_eq_true (by omega)
      clear hskip
      go_wp2
      go_ret
      exact ⟨rfl, hb1⟩
    have h1 : decide (100 < ((l.length : Nat) : Int)) = false := decide_eq_false (by omega)
    by_cases c2 : times < 0
    · have h2 : decide (times < 0) = true := decide_eq_true c2
      clear hskip
      go_wp2
      go_ret
      exact ⟨rfl, hb1⟩
    have h2 : decide (times < 0) = false := decide_eq_false c2
    have h3 : decide (60 < times) = true := decide_eq_true (by omega)
    clear hskip
    go_wp2
    go_ret
    exact ⟨rfl, hb1⟩
  have h1 : decide (100 < ((l.length : Nat) : Int)) = false := decide_eq_false (by omega)
  have h2 : decide (times < 0) = false := decide_eq_false (by omega)
  have h3 : decide (60 < times) = false := decide_eq_false (by omega)
  have hN : l.length ≤ 100 := by omega
  obtain ⟨T, rfl⟩ : ∃ T : Nat, times = T := ⟨times.toNat, by omega⟩
  have hT60 : T ≤ 60 := by omega
  clear hskip ht1 ht2
  go_enter Try.func5, Try.ntmps5
  go_wp2_with fail
  refine (hal.out _).mono ?_
  rintro e wa ⟨rfl, hb1⟩
  have hT0 := ((Held.start w).later isAsr_nil hb1).obj (cs := [.slice none 0 0]) isAsr_nil (K.new wa)
  clear hal hb1
  go_wp2_with fail
  go_loopw [31] (fun iv wr => ∃ i : Nat, i ≤ l.length ∧ iv = .int .i64 i ∧ Held w wr (star (objA O wa.heap.size (numQ (dueQ l) (List.range i))) nilA)) (fun iv _ => (l.length - RowKit.intOf iv).toNat)
  case atStart => exact ⟨0, by omega, rfl, hT0⟩
  case round =>
    clear hT0
    obtain ⟨i, hi, rfl, hT⟩ := hrel
    by_cases hlt : i < l.length
    · obtain ⟨bb, off, rfl, hbl, -⟩ := (hA.below hT.below (Nat.le_refl _)).spot i hlt
      obtain ⟨x0, -⟩ := ints_cell (hA.below hT.below (Nat.le_refl _)) hlt
      have hdw := dueQ_wf hl hlt
      have hsn1 := numQ_snoc (dueQ l) (List.range i) i
      rw [← List.range_succ] at hsn1
      have hput := quPut_h K isAsr_nil ⟨dueQ l i, i, 0⟩ (by rw [numQ_length, List.length_range]; omega) (lit_wf hdw.1 hdw.2 (by omega) (by omega)) (numQ_new (by simp)) hT
      rw [itemV_lit, hsn1] at hput
      replace hput := Lib.hid hput
      have hltI : ((i : Nat) : Int) < ((l.length : Nat) : Int) := by omega
      clear hsn1 hT hdw
      go_wp2_with fail
      refine hput.out.mono ?_
      rintro e w2 ⟨rfl, hT2⟩
      replace hT2 := Lib.hid hT2
      clear hput x0
      go_wp2_with fail
      go_roundw
      case measure => simp [RowKit.intOf]; omega
      case rel => exact ⟨i + 1, by omega, rfl, hT2.out⟩
    · have hil : i = l.length := by omega
      subst hil
      have hS0 := TimesQ.start (dueQ l) l.length
      generalize numQ (dueQ l) (List.range l.length) = M at *
      go_wp2_with fail
      go_loopw [8] (fun tv wx => ∃ (t : Nat) (m : List Qit), t ≤ T ∧ tv = .int .i64 t ∧ TimesQ (dueQ l) l.length t m ∧ Held w wx (star (objA O wa.heap.size m) nilA)) (fun tv _ => (T - RowKit.intOf tv).toNat)
      case atStart => exact ⟨0, M, by omega, rfl, hS0, hT⟩
      case round =>
        clear hS0 hT
        obtain ⟨t, m, ht, rfl, hS, hT⟩ := hrel
        by_cases htl : t < T
        · have htI : ((t : Nat) : Int) < ((T : Nat) : Int) := by omega
          go_wp2_with fail
          go_loopg [9, 10] m.length (fun k _ _ wx => ∃ m' : List Qit, m'.length = k ∧ TimesQ (dueQ l) l.length t m' ∧ Held w wx (star (objA O wa.heap.size m') nilA))
          case atStart => exact ⟨m, rfl, hS, hT⟩
          case round =>
            clear hS hT
            obtain ⟨m', hmk, hS, hT⟩ := hrel
            have ho := hT.once K
            have k1 := quPop_h K isAsr_nil (t : Int) (by omega) (by omega) hT
            cases hp : popR m' (t : Int) with
            | some x =>
              obtain ⟨hx1, hx2, hx3⟩ := popR_some hp
              obtain ⟨s, hs, rfl⟩ := mem_numQ.1 (hS.sub x hx1).1
              rw [List.mem_range] at hs
              have hq : popQ m' (t : Int) = dropQ m' (s : Int) := popQ_some hp
              have hlo := (hS.sub _ hx1).2
              have hSn := Lib.hid (hS.pop hp)
              change Hid (TimesQ _ _ _ (dropQ m' (s : Int))) at hSn
              have hln : (dropQ m' (s : Int)).length + 1 = m'.length := dropQ_length ho hx1
              dsimp only at hlo hx3
              have epop : popV (some ⟨dueQ l s, s, 0⟩) = .tuple #[.agg #[.int .i64 (dueQ l s), .int .i64 (s : Int), .int .u64 0, .int .u64 0], .bool true] := by
                unfold popV
                rw [Option.getD_some, itemV_lit]; rfl
              rw [hp, hq, epop] at k1
              replace k1 := Lib.hid k1
              clear hT hS hp hq epop hx1 hx2 ho
              go_wp2_with fail
              refine k1.out.mono ?_
              rintro e w2 ⟨rfl, hT2⟩
              have hT3 := (hT2.box ((isAsr_obj K.toIsKind _ _).star isAsr_nil) [.int .i64 (dueQ l s), .int .i64 (s : Int), .int .u64 0, .int .u64 0] 34)
              have d0 := hT3.boxAt.1.spot 0 _ rfl
              have lb := hT3.boxAt.1.lt
              have hT4 := Lib.hid hT3.rest
              clear hT2 hT3 k1
              generalize dueQ l s = ds at *
              have t1 : decide ((t : Int) < ds) = false := decide_eq_false (by omega)
              by_cases t0 : t = 0
              · subst t0
                go_upto_region 15 with (fail)
                generalize (w2.alloc (.cells #[.int .i64 ds, .int .i64 (s : Int), .int .u64 0, .int .u64 0] 34)) = w5 at *
                go_wp2_with fail
                go_roundg (dropQ m' (s : Int)).length
                case measure => omega
                case rel => exact ⟨_, rfl, hSn.out, hT4.out⟩
              · have t2 : decide ((0 : Int) < (t : Int)) = true := decide_eq_true (by omega)
                have t3 : decide (ds < (t : Int)) = false := decide_eq_false (by have := hlo (by omega); omega)
                go_upto_region 15 with (fail)
                generalize (w2.alloc (.cells #[.int .i64 ds, .int .i64 (s : Int), .int .u64 0, .int .u64 0] 34)) = w5 at *
                go_wp2_with fail
                go_roundg (dropQ m' (s : Int)).length
                case measure => omega
                case rel => exact ⟨_, rfl, hSn.out, hT4.out⟩
            | none =>
              have hq : popQ m' (t : Int) = m' := popQ_none hp
              obtain ⟨hcnt, hSn⟩ := hS.done ho hp
              have epop : popV none = .tuple #[.agg #[.int .i64 0, .int .i64 0, .int .u64 0, .int .u64 0], .bool false] := by
                unfold popV
                rw [Option.getD_none, show zeroQ = ⟨0, 0, 0⟩ from rfl, itemV_lit]; rfl
              rw [hp, hq, epop] at k1
              replace k1 := Lib.hid k1
              replace hSn := Lib.hid hSn
              clear hT hS hp hq epop ho
              go_wp2_with fail
              refine k1.out.mono ?_
              rintro e w2 ⟨rfl, hT2⟩
              have hT3 := (hT2.box ((isAsr_obj K.toIsKind _ _).star isAsr_nil) [.int .i64 0, .int .i64 0, .int .u64 0, .int .u64 0] 34).rest
              clear hT2 k1
              go_upto_region 15 with (fail)
              generalize (w2.alloc (.cells #[.int .i64 0, .int .i64 0, .int .u64 0, .int .u64 0] 34)) = w5 at *
              go_wp2_with fail
              go_loopw [11, 71] (fun cv iv wx => ∃ j : Nat, j ≤ l.length ∧ iv = .int .i64 j ∧ cv = .int .i64 (((lateQ (dueQ l) j t).length : Nat) : Int) ∧ w5 = wx) (fun _ iv _ => (l.length - RowKit.intOf iv).toNat)
              case atStart => exact ⟨0, by omega, rfl, rfl, rfl⟩
              case round =>
                obtain ⟨j, hj, rfl, rfl, rfl⟩ := hrel
                by_cases hjl : j < l.length
                · obtain ⟨bb, off, rfl, hbl, -⟩ := (hA.below hT3.below (Nat.le_refl _)).spot j hjl
                  obtain ⟨x0, -⟩ := ints_cell (hA.below hT3.below (Nat.le_refl _)) hjl
                  have hsc := lateQ_succ (dueQ l) j t
                  have hjI : ((j : Nat) : Int) < ((l.length : Nat) : Int) := by omega
                  have hcb : (lateQ (dueQ l) j t).length ≤ j := by
                    unfold lateQ
                    exact Nat.le_trans (List.length_filter_le _ _) (Nat.le_of_eq (by rw [numQ_length, List.length_range]))
                  generalize (lateQ (dueQ l) j t).length = cn at *
                  generalize dueQ l j = dj at *
                  by_cases hlt2 : (t : Int) < dj
                  · rw [if_pos hlt2] at hsc
                    have t1 : decide ((t : Int) < dj) = true := decide_eq_true hlt2
                    replace hsc := Lib.hid hsc
                    clear hlt2 hT3
                    go_wp2_with fail
                    go_roundw
                    case measure => simp [RowKit.intOf]; omega
                    case rel => exact ⟨j + 1, by omega, rfl, by rw [hsc.out]; first | rfl | go_num | (congr 1), trivial⟩
                  · rw [if_neg hlt2] at hsc
                    have t1 : decide ((t : Int) < dj) = false := decide_eq_false hlt2
                    replace hsc := Lib.hid hsc
                    clear hlt2 hT3
                    go_wp2_with fail
                    go_roundw
                    case measure => simp [RowKit.intOf]; omega
                    case rel => exact ⟨j + 1, by omega, rfl, by rw [hsc.out]; rfl, trivial⟩
                · have hjn : j = l.length := by omega
                  subst hjn
                  have k2 := quLen_h K isAsr_nil hT3
                  rw [hcnt] at k2
                  replace k2 := Lib.hid k2
                  clear hT3 hcnt
                  generalize (lateQ (dueQ l) l.length t).length = cn at *
                  go_wp2_with fail
                  refine k2.out.mono ?_
                  rintro e w6 ⟨rfl, hT6⟩
                  replace hT6 := Lib.hid hT6
                  clear k2
                  go_wp2_with fail
                  go_roundw
                  case measure => simp [RowKit.intOf]; omega
                  case rel => exact ⟨t + 1, m', by omega, rfl, hSn.out, hT6.out⟩
        · go_wp2
          go_ret
          exact ⟨rfl, hT.below⟩
end
end Go.Proofs.Ytgdlcfkgdaaooaa
