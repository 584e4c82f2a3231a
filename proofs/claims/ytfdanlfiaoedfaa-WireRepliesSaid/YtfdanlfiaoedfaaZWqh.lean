/- Stage 22, landed: what puts lists. No condition but sizes. -/
import Derived.Test.YtfdanlfiaoedfaaZTw
import Derived.Test.YtfdanlfiaoedfaaZWqe
import Derived.Test.YtfdanlfiaoedfaaZYld
namespace Go.Proofs.Ytfdanlfiaoedfaa
open Go.RowKit Go.Sort Wm Cr

theorem isAsr_wr (p : Nat) (bs : ByteArray) : IsAsr (objA WrIs p bs) := ⟨fun F W h => wrIs_near F W p bs h, fun F G W W' h => wrIs_keep F G W W' p bs h⟩
section
variable {w W : World} {R : Asr} {p : Nat} {bs : ByteArray}
theorem wInt_h (L : IsAsr R) (h : Held w W (star (objA WrIs p bs) R)) (size n : Int) (hs : bs.size ≤ 16384) (hn : -9223372036854775808 ≤ n ∧ n ≤ 9223372036854775807) :
    Calls Try.prog 51 #[.pointer (some ⟨p, 0, none⟩), .int .i64 size, .int .i64 n] W fun e w2 => e = .returned (.tuple #[]) ∧ Held w w2 (star (objA WrIs p (bs ++ intB size n)) R) :=
  h.turn (isAsr_wr _ _) L (fun F hF => landedWr.int F W p bs size n hF hs hn.1 hn.2)
theorem wNum_h (L : IsAsr R) (h : Held w W (star (objA WrIs p bs) R)) (n : Nat) (hs : bs.size ≤ 16384) (hn : n < big) :
    Calls Try.prog 57 #[.pointer (some ⟨p, 0, none⟩), numV n] W fun e w2 => e = .returned (.tuple #[]) ∧ Held w w2 (star (objA WrIs p (bs ++ numB n)) R) :=
  h.turn (isAsr_wr _ _) L (fun F hF => landedWr.num F W p bs n hF hs hn)
theorem wFlag_h (L : IsAsr R) (h : Held w W (star (objA WrIs p bs) R)) (b : Bool) (hs : bs.size ≤ 16384) :
    Calls Try.prog 78 #[.pointer (some ⟨p, 0, none⟩), .bool b] W fun e w2 => e = .returned (.tuple #[]) ∧ Held w w2 (star (objA WrIs p (bs ++ yesB b)) R) :=
  h.turn (isAsr_wr _ _) L (fun F hF => landedWr.flag F W p bs b hF hs)
theorem wAcct_h (L : IsAsr R) (h : Held w W (star (objA WrIs p bs) R)) (a : Acct) (hs : bs.size ≤ 15000) (ha : a.Wf) (hg : goodA a = true) :
    Calls Try.prog 53 #[.pointer (some ⟨p, 0, none⟩), acctV a] W fun e w2 => e = .returned (.tuple #[]) ∧ Held w w2 (star (objA WrIs p (bs ++ accB a)) R) :=
  h.turn (isAsr_wr _ _) L (fun F hF => by
    have := acPut_any landedWr F W p bs a ha hF hs
    rw [show wantA a = a by unfold wantA; rw [hg]; rfl] at this
    exact this)
theorem wTran_h (L : IsAsr R) (h : Held w W (star (objA WrIs p bs) R)) (a : Tran) (hs : bs.size ≤ 15000) (ha : a.Wf) (hg : goodT a = true) :
    Calls Try.prog 55 #[.pointer (some ⟨p, 0, none⟩), tranV a] W fun e w2 => e = .returned (.tuple #[]) ∧ Held w w2 (star (objA WrIs p (bs ++ traB a)) R) :=
  h.turn (isAsr_wr _ _) L (fun F hF => by
    have := xfPut_any landedWr F W p bs a ha hF hs
    rw [show wantT a = a by unfold wantT; rw [hg]; rfl] at this
    exact this)
theorem wId_h (L : IsAsr R) (h : Held w W (star (objA WrIs p bs) R)) (x : Idn) (hs : bs.size ≤ 15000) (hx : x.Wf) (_ : True) :
    Calls Try.prog 57 #[.pointer (some ⟨p, 0, none⟩), .agg x.cells.toArray] W fun e w2 => e = .returned (.tuple #[]) ∧ Held w w2 (star (objA WrIs p (bs ++ idB x)) R) :=
  wNum_h L h x.N (by omega) hx.N
theorem idB_size (x : Idn) : (idB x).size = 16 := numB_size x.N
set_option maxRecDepth 100000 in
set_option maxHeartbeats 4000000 in
theorem putAllAcct_h (L : IsAsr R) (h : Held w W (star (objA WrIs p bs) R)) {ao : Option Addr} {cap : Nat} {l : List Acct} (hat : RowAt Acct.cells 14 w ao l) (hw : ∀ x ∈ l, x.Wf) (hg : ∀ x ∈ l, goodA x = true) (hn : l.length ≤ 100) (hs : bs.size ≤ 3000) :
    Calls Try.prog 52 #[.pointer (some ⟨p, 0, none⟩), .slice ao l.length cap, .func (.func 53) #[] #[]] W fun e w2 => e = .returned (.tuple #[]) ∧ Held w w2 (star (objA WrIs p (bs ++ listB accB l)) R) := by
  have k0 := Lib.hid (wInt_h L h 1 ((l.length : Nat) : Int) (by omega) (by omega))
  have eg : ∀ args w, (callFunc 53 args).run Try.prog w = .ok (.enter 53 args) w := enters_of Try.func53 (by kernel_rfl) rfl
  have hz : ∀ i, (bs ++ intB 1 ((l.length : Nat) : Int) ++ catB accB (l.take i)).size ≤ 15000 := fun i => by
    rw [ByteArray.size_append, ByteArray.size_append, intB_size, catB_size accB_size, List.length_take, show sizeK 1 = 1 from rfl]
    have : min i l.length ≤ 100 := by omega
    omega
  have hnext := Lib.hid (fun (i : Nat) (hlt : i < l.length) => (show (bs ++ intB 1 ((l.length : Nat) : Int) ++ catB accB (l.take i)) ++ accB l[i] = (bs ++ intB 1 ((l.length : Nat) : Int) ++ catB accB (l.take (i + 1))) by rw [catB_take l i hlt, ByteArray.append_assoc]))
  have hfirst : bs ++ intB 1 ((l.length : Nat) : Int) = (bs ++ intB 1 ((l.length : Nat) : Int) ++ catB accB (l.take 0)) := by rw [List.take_zero, catB_nil, ByteArray.append_empty]
  have hlast := Lib.hid (show (bs ++ intB 1 ((l.length : Nat) : Int) ++ catB accB (l.take l.length)) = bs ++ listB accB l by unfold listB; rw [List.take_length, ByteArray.append_assoc])
  rw [hfirst] at k0
  clear hfirst
  obtain ⟨D, hD⟩ : ∃ D : Nat → ByteArray, ∀ i, (bs ++ intB 1 ((l.length : Nat) : Int) ++ catB accB (l.take i)) = D i := ⟨_, fun _ => rfl⟩
  simp only [hD] at k0 hz hnext hlast
  clear hD
  replace hz := Lib.hid hz
  go_enter Try.func52, Try.ntmps52
  go_wp2_with fail
  refine (k0.out).mono ?_
  rintro e w2 ⟨rfl, h2⟩
  replace h2 := Lib.hid h2
  clear k0
  go_wp2_with fail
  go_loopw [16] (fun iv wr => ∃ i : Nat, i ≤ l.length ∧ iv = .int .i64 i ∧ Held w wr (star (objA WrIs p (D i)) R)) (fun iv _ => (l.length - RowKit.intOf iv).toNat)
  case atStart => exact ⟨0, by omega, rfl, h2.out⟩
  case round =>
    clear h2
    obtain ⟨i, hi, rfl, hT⟩ := hrel
    by_cases hlt : i < l.length
    · obtain ⟨g, off, rfl, hg2, hrg⟩ := (hat.later hT.below).at hlt
      have hix := Lib.hid (fun w => run_idx_acctW g off l.length cap i hlt w)
      have hltI : ((i : Nat) : Int) < ((l.length : Nat) : Int) := by omega
      have hi4 := Lib.hid (show (Try.prog.info? 58).map (·.size) = some (Acct.cells l[i]).length by kernel_rfl)
      have hi5 := Lib.hid (show (Try.prog.info? 58).map (·.size) = some (Acct.cells l[i]).toArray.size by kernel_rfl)
      have hone := Lib.hid (all_oneCell_toArray (acctW.one l[i]))
      have hcz : ∀ z : Array Value, z.size = 14 → z.size = (Acct.cells l[i]).toArray.size := fun z h => h
      replace hcz := Lib.hid hcz
      obtain ⟨W2, hW2⟩ : ∃ W2, W2 = wr.alloc (.cells (Acct.cells l[i]).toArray 58) := ⟨_, rfl⟩
      have hb2 : Below wr.heap.size wr W2 := by rw [hW2]; exact (Below.refl _ _).alloc (Nat.le_refl _) _
      have hx := Lib.hid (show W2.rangeAt wr.heap.size 0 (Acct.cells l[i]) by rw [hW2]; exact (BoxAt.new wr (Acct.cells l[i]) _).range)
      have hT2 := hT.later ((isAsr_wr _ _).star L) hb2
      have hT3 := hT2.later ((isAsr_wr _ _).star L) (Below.refl _ _).drew
      have hc := wAcct_h L hT3 l[i] (hz.out i) (hw _ (List.getElem_mem hlt)) (hg _ (List.getElem_mem hlt))
      rw [hnext.out i hlt] at hc
      replace hrg := Lib.hid hrg
      unfold acctV at hc
      replace hc := Lib.hid hc
      replace hW2 := Lib.hid hW2
      have hS : W2.drew.rangeAt wr.heap.size 0 (Acct.cells l[i]) := hx.out
      generalize Acct.cells l[i] = X at *
      clear hb2 hT hT2 hT3
      go_wp2_with (first
        | (refine wpList_index_run rfl 22 (.tmp 14) (.tmp 16) rfl (.slice (some ⟨g, off, none⟩) l.length cap) (.int .i64 (i : Int)) _ rfl rfl (hix.out _) ?_)
        | (refine wpList_load_midg rfl 58 (.tmp 18) rfl g (off + i * 14) rfl X _ hrg.out Try.underlying58 rfl hi4.out ?_)
        | (refine wpList_store_new rfl 58 (.tmp 7) (.tmp 19) rfl wr _ X.toArray rfl rfl rfl hi5.out (hcz.out _ rfl) hone.out ?_; rw [← hW2.out]))
      try simp only [Act.put]
      generalize hw5 : W2.drew = w5 at *
      refine wp_region_need (fun _ => True) [0, 1, 2, 3] (by kernel_rfl) ?_
      rw [hw5]
      clear hw5
      refine need_takeL (i := 0) (v := ?cv102) rfl rfl (by kernel_rfl) (by kernel_rfl) (by kernel_rfl) (fun _ _ _ h => h) (Or.inl ⟨by rfl, ?ch102⟩) trivial ?cr102
      case ch102 => (intro w' hSw; (try dsimp only at hSw); go_simp; first | done | with_reducible rfl)
      try simp only [Act.put, List.setIfInBounds_toArray, List.set_cons_zero, List.set_cons_succ]
      refine need_takeL (i := 1) (v := ?cv105) rfl rfl (by kernel_rfl) (by kernel_rfl) (by kernel_rfl) (fun _ _ _ h => h) (Or.inl ⟨by rfl, ?ch105⟩) trivial ?cr105
      case ch105 => (intro w' hSw; (try dsimp only at hSw); go_simp; first | done | with_reducible rfl)
      try simp only [Act.put, List.setIfInBounds_toArray, List.set_cons_zero, List.set_cons_succ]
      refine need_takeL (i := 2) (v := ?cv108) rfl rfl (by kernel_rfl) (by kernel_rfl) (by kernel_rfl) (fun _ _ _ h => h) (Or.inl ⟨by rfl, ?ch108⟩) trivial ?cr108
      case ch108 => (intro w' hSw; (try dsimp only at hSw); go_simp; first | done | with_reducible rfl)
      try simp only [Act.put, List.setIfInBounds_toArray, List.set_cons_zero, List.set_cons_succ]
      refine need_takeL (i := 3) (v := ?cv111) rfl rfl (by kernel_rfl) (by kernel_rfl) (by kernel_rfl) (fun _ _ _ h => h) (Or.inl ⟨by rfl, ?ch111⟩) trivial ?cr111
      case ch111 => (intro w' hSw; (try dsimp only at hSw); go_simp; first | done | with_reducible rfl)
      try simp only [Act.put, List.setIfInBounds_toArray, List.set_cons_zero, List.set_cons_succ]
      refine need_from (S2 := fun w' => w'.rangeAt wr.heap.size 0 X) (need2 := [4]) (fun _ => trivial) _ _ _ _ ?_
      refine need_takeL (i := 4) rfl rfl (by kernel_rfl) (by kernel_rfl) (by kernel_rfl) (fun _ _ _ h => h) (yields_loads rfl (wr.heap.size) (0) rfl (X) _ (fun w' hSw => hSw) Try.underlying58 rfl hi4.out) hS ?_
      try simp only [Act.put, List.setIfInBounds_toArray, List.set_cons_zero, List.set_cons_succ]
      refine need_turnL (i := 5) rfl (by kernel_rfl) (by rfl) (fun K' hK' => ?_)
      go_simp
      refine hc.out.mono ?_
      rintro e w3 ⟨rfl, hT3⟩
      replace hT3 := Lib.hid hT3
      refine hK' _ _ (spared (by kernel_rfl)) ?_
      clear hK' K' hS
      try simp only [Act.put, List.setIfInBounds_toArray, List.set_cons_zero, List.set_cons_succ]
      refine need_done (by kernel_rfl) ?_ _
      clear hc hx hrg
      go_wp2_with fail
      exact ⟨⟨i + 1, by omega, by go_num, hT3.out⟩, by simp [RowKit.intOf]; omega⟩
    · obtain rfl : i = l.length := by omega
      rw [hlast.out] at hT
      replace hT := Lib.hid hT
      go_wp2
      go_end0
      exact ⟨rfl, hT.out⟩
set_option maxRecDepth 100000 in
set_option maxHeartbeats 4000000 in
theorem putAllTran_h (L : IsAsr R) (h : Held w W (star (objA WrIs p bs) R)) {ao : Option Addr} {cap : Nat} {l : List Tran} (hat : RowAt Tran.cells 16 w ao l) (hw : ∀ x ∈ l, x.Wf) (hg : ∀ x ∈ l, goodT x = true) (hn : l.length ≤ 100) (hs : bs.size ≤ 3000) :
    Calls Try.prog 54 #[.pointer (some ⟨p, 0, none⟩), .slice ao l.length cap, .func (.func 55) #[] #[]] W fun e w2 => e = .returned (.tuple #[]) ∧ Held w w2 (star (objA WrIs p (bs ++ listB traB l)) R) := by
  have k0 := Lib.hid (wInt_h L h 1 ((l.length : Nat) : Int) (by omega) (by omega))
  have eg : ∀ args w, (callFunc 55 args).run Try.prog w = .ok (.enter 55 args) w := enters_of Try.func55 (by kernel_rfl) rfl
  have hz : ∀ i, (bs ++ intB 1 ((l.length : Nat) : Int) ++ catB traB (l.take i)).size ≤ 15000 := fun i => by
    rw [ByteArray.size_append, ByteArray.size_append, intB_size, catB_size traB_size, List.length_take, show sizeK 1 = 1 from rfl]
    have : min i l.length ≤ 100 := by omega
    omega
  have hnext := Lib.hid (fun (i : Nat) (hlt : i < l.length) => (show (bs ++ intB 1 ((l.length : Nat) : Int) ++ catB traB (l.take i)) ++ traB l[i] = (bs ++ intB 1 ((l.length : Nat) : Int) ++ catB traB (l.take (i + 1))) by rw [catB_take l i hlt, ByteArray.append_assoc]))
  have hfirst : bs ++ intB 1 ((l.length : Nat) : Int) = (bs ++ intB 1 ((l.length : Nat) : Int) ++ catB traB (l.take 0)) := by rw [List.take_zero, catB_nil, ByteArray.append_empty]
  have hlast := Lib.hid (show (bs ++ intB 1 ((l.length : Nat) : Int) ++ catB traB (l.take l.length)) = bs ++ listB traB l by unfold listB; rw [List.take_length, ByteArray.append_assoc])
  rw [hfirst] at k0
  clear hfirst
  obtain ⟨D, hD⟩ : ∃ D : Nat → ByteArray, ∀ i, (bs ++ intB 1 ((l.length : Nat) : Int) ++ catB traB (l.take i)) = D i := ⟨_, fun _ => rfl⟩
  simp only [hD] at k0 hz hnext hlast
  clear hD
  replace hz := Lib.hid hz
  go_enter Try.func54, Try.ntmps54
  go_wp2_with fail
  refine (k0.out).mono ?_
  rintro e w2 ⟨rfl, h2⟩
  replace h2 := Lib.hid h2
  clear k0
  go_wp2_with fail
  go_loopw [16] (fun iv wr => ∃ i : Nat, i ≤ l.length ∧ iv = .int .i64 i ∧ Held w wr (star (objA WrIs p (D i)) R)) (fun iv _ => (l.length - RowKit.intOf iv).toNat)
  case atStart => exact ⟨0, by omega, rfl, h2.out⟩
  case round =>
    clear h2
    obtain ⟨i, hi, rfl, hT⟩ := hrel
    by_cases hlt : i < l.length
    · obtain ⟨g, off, rfl, hg2, hrg⟩ := (hat.later hT.below).at hlt
      have hix := Lib.hid (fun w => run_idx_tranW g off l.length cap i hlt w)
      have hltI : ((i : Nat) : Int) < ((l.length : Nat) : Int) := by omega
      have hi4 := Lib.hid (show (Try.prog.info? 61).map (·.size) = some (Tran.cells l[i]).length by kernel_rfl)
      have hi5 := Lib.hid (show (Try.prog.info? 61).map (·.size) = some (Tran.cells l[i]).toArray.size by kernel_rfl)
      have hone := Lib.hid (all_oneCell_toArray (tranW.one l[i]))
      have hcz : ∀ z : Array Value, z.size = 16 → z.size = (Tran.cells l[i]).toArray.size := fun z h => h
      replace hcz := Lib.hid hcz
      obtain ⟨W2, hW2⟩ : ∃ W2, W2 = wr.alloc (.cells (Tran.cells l[i]).toArray 61) := ⟨_, rfl⟩
      have hb2 : Below wr.heap.size wr W2 := by rw [hW2]; exact (Below.refl _ _).alloc (Nat.le_refl _) _
      have hx := Lib.hid (show W2.rangeAt wr.heap.size 0 (Tran.cells l[i]) by rw [hW2]; exact (BoxAt.new wr (Tran.cells l[i]) _).range)
      have hT2 := hT.later ((isAsr_wr _ _).star L) hb2
      have hT3 := hT2.later ((isAsr_wr _ _).star L) (Below.refl _ _).drew
      have hc := wTran_h L hT3 l[i] (hz.out i) (hw _ (List.getElem_mem hlt)) (hg _ (List.getElem_mem hlt))
      rw [hnext.out i hlt] at hc
      replace hrg := Lib.hid hrg
      unfold tranV at hc
      replace hc := Lib.hid hc
      replace hW2 := Lib.hid hW2
      have hS : W2.drew.rangeAt wr.heap.size 0 (Tran.cells l[i]) := hx.out
      generalize Tran.cells l[i] = X at *
      clear hb2 hT hT2 hT3
      go_wp2_with (first
        | (refine wpList_index_run rfl 23 (.tmp 14) (.tmp 16) rfl (.slice (some ⟨g, off, none⟩) l.length cap) (.int .i64 (i : Int)) _ rfl rfl (hix.out _) ?_)
        | (refine wpList_load_midg rfl 61 (.tmp 18) rfl g (off + i * 16) rfl X _ hrg.out Try.underlying61 rfl hi4.out ?_)
        | (refine wpList_store_new rfl 61 (.tmp 7) (.tmp 19) rfl wr _ X.toArray rfl rfl rfl hi5.out (hcz.out _ rfl) hone.out ?_; rw [← hW2.out]))
      try simp only [Act.put]
      generalize hw5 : W2.drew = w5 at *
      refine wp_region_need (fun _ => True) [0, 1, 2, 3] (by kernel_rfl) ?_
      rw [hw5]
      clear hw5
      refine need_takeL (i := 0) (v := ?cv198) rfl rfl (by kernel_rfl) (by kernel_rfl) (by kernel_rfl) (fun _ _ _ h => h) (Or.inl ⟨by rfl, ?ch198⟩) trivial ?cr198
      case ch198 => (intro w' hSw; (try dsimp only at hSw); go_simp; first | done | with_reducible rfl)
      try simp only [Act.put, List.setIfInBounds_toArray, List.set_cons_zero, List.set_cons_succ]
      refine need_takeL (i := 1) (v := ?cv201) rfl rfl (by kernel_rfl) (by kernel_rfl) (by kernel_rfl) (fun _ _ _ h => h) (Or.inl ⟨by rfl, ?ch201⟩) trivial ?cr201
      case ch201 => (intro w' hSw; (try dsimp only at hSw); go_simp; first | done | with_reducible rfl)
      try simp only [Act.put, List.setIfInBounds_toArray, List.set_cons_zero, List.set_cons_succ]
      refine need_takeL (i := 2) (v := ?cv204) rfl rfl (by kernel_rfl) (by kernel_rfl) (by kernel_rfl) (fun _ _ _ h => h) (Or.inl ⟨by rfl, ?ch204⟩) trivial ?cr204
      case ch204 => (intro w' hSw; (try dsimp only at hSw); go_simp; first | done | with_reducible rfl)
      try simp only [Act.put, List.setIfInBounds_toArray, List.set_cons_zero, List.set_cons_succ]
      refine need_takeL (i := 3) (v := ?cv207) rfl rfl (by kernel_rfl) (by kernel_rfl) (by kernel_rfl) (fun _ _ _ h => h) (Or.inl ⟨by rfl, ?ch207⟩) trivial ?cr207
      case ch207 => (intro w' hSw; (try dsimp only at hSw); go_simp; first | done | with_reducible rfl)
      try simp only [Act.put, List.setIfInBounds_toArray, List.set_cons_zero, List.set_cons_succ]
      refine need_from (S2 := fun w' => w'.rangeAt wr.heap.size 0 X) (need2 := [4]) (fun _ => trivial) _ _ _ _ ?_
      refine need_takeL (i := 4) rfl rfl (by kernel_rfl) (by kernel_rfl) (by kernel_rfl) (fun _ _ _ h => h) (yields_loads rfl (wr.heap.size) (0) rfl (X) _ (fun w' hSw => hSw) Try.underlying61 rfl hi4.out) hS ?_
      try simp only [Act.put, List.setIfInBounds_toArray, List.set_cons_zero, List.set_cons_succ]
      refine need_turnL (i := 5) rfl (by kernel_rfl) (by rfl) (fun K' hK' => ?_)
      go_simp
      refine hc.out.mono ?_
      rintro e w3 ⟨rfl, hT3⟩
      replace hT3 := Lib.hid hT3
      refine hK' _ _ (spared (by kernel_rfl)) ?_
      clear hK' K' hS
      try simp only [Act.put, List.setIfInBounds_toArray, List.set_cons_zero, List.set_cons_succ]
      refine need_done (by kernel_rfl) ?_ _
      clear hc hx hrg
      go_wp2_with fail
      exact ⟨⟨i + 1, by omega, by go_num, hT3.out⟩, by simp [RowKit.intOf]; omega⟩
    · obtain rfl : i = l.length := by omega
      rw [hlast.out] at hT
      replace hT := Lib.hid hT
      go_wp2
      go_end0
      exact ⟨rfl, hT.out⟩
set_option maxRecDepth 100000 in
set_option maxHeartbeats 4000000 in
theorem putAllIdn_h (L : IsAsr R) (h : Held w W (star (objA WrIs p bs) R)) {ao : Option Addr} {cap : Nat} {l : List Idn} (hat : RowAt Idn.cells 2 w ao l) (hw : ∀ x ∈ l, x.Wf) (hn : l.length ≤ 100) (hs : bs.size ≤ 3000) :
    Calls Try.prog 56 #[.pointer (some ⟨p, 0, none⟩), .slice ao l.length cap, .func (.func 57) #[] #[]] W fun e w2 => e = .returned (.tuple #[]) ∧ Held w w2 (star (objA WrIs p (bs ++ listB idB l)) R) := by
  have k0 := Lib.hid (wInt_h L h 1 ((l.length : Nat) : Int) (by omega) (by omega))
  have eg : ∀ args w, (callFunc 57 args).run Try.prog w = .ok (.enter 57 args) w := enters_of Try.func57 (by kernel_rfl) rfl
  have hz : ∀ i, (bs ++ intB 1 ((l.length : Nat) : Int) ++ catB idB (l.take i)).size ≤ 15000 := fun i => by
    rw [ByteArray.size_append, ByteArray.size_append, intB_size, catB_size idB_size, List.length_take, show sizeK 1 = 1 from rfl]
    have : min i l.length ≤ 100 := by omega
    omega
  have hnext := Lib.hid (fun (i : Nat) (hlt : i < l.length) => (show (bs ++ intB 1 ((l.length : Nat) : Int) ++ catB idB (l.take i)) ++ idB l[i] = (bs ++ intB 1 ((l.length : Nat) : Int) ++ catB idB (l.take (i + 1))) by rw [catB_take l i hlt, ByteArray.append_assoc]))
  have hfirst : bs ++ intB 1 ((l.length : Nat) : Int) = (bs ++ intB 1 ((l.length : Nat) : Int) ++ catB idB (l.take 0)) := by rw [List.take_zero, catB_nil, ByteArray.append_empty]
  have hlast := Lib.hid (show (bs ++ intB 1 ((l.length : Nat) : Int) ++ catB idB (l.take l.length)) = bs ++ listB idB l by unfold listB; rw [List.take_length, ByteArray.append_assoc])
  rw [hfirst] at k0
  clear hfirst
  obtain ⟨D, hD⟩ : ∃ D : Nat → ByteArray, ∀ i, (bs ++ intB 1 ((l.length : Nat) : Int) ++ catB idB (l.take i)) = D i := ⟨_, fun _ => rfl⟩
  simp only [hD] at k0 hz hnext hlast
  clear hD
  replace hz := Lib.hid hz
  go_enter Try.func56, Try.ntmps56
  go_wp2_with fail
  refine (k0.out).mono ?_
  rintro e w2 ⟨rfl, h2⟩
  replace h2 := Lib.hid h2
  clear k0
  go_wp2_with fail
  go_loopw [16] (fun iv wr => ∃ i : Nat, i ≤ l.length ∧ iv = .int .i64 i ∧ Held w wr (star (objA WrIs p (D i)) R)) (fun iv _ => (l.length - RowKit.intOf iv).toNat)
  case atStart => exact ⟨0, by omega, rfl, h2.out⟩
  case round =>
    clear h2
    obtain ⟨i, hi, rfl, hT⟩ := hrel
    by_cases hlt : i < l.length
    · obtain ⟨g, off, rfl, hg2, hrg⟩ := (hat.later hT.below).at hlt
      have hix := Lib.hid (fun w => run_idx_idnW g off l.length cap i hlt w)
      have hltI : ((i : Nat) : Int) < ((l.length : Nat) : Int) := by omega
      have hi4 := Lib.hid (show (Try.prog.info? 27).map (·.size) = some (Idn.cells l[i]).length by kernel_rfl)
      have hi5 := Lib.hid (show (Try.prog.info? 27).map (·.size) = some (Idn.cells l[i]).toArray.size by kernel_rfl)
      have hone := Lib.hid (all_oneCell_toArray (idnW.one l[i]))
      have hcz : ∀ z : Array Value, z.size = 2 → z.size = (Idn.cells l[i]).toArray.size := fun z h => h
      replace hcz := Lib.hid hcz
      obtain ⟨W2, hW2⟩ : ∃ W2, W2 = wr.alloc (.cells (Idn.cells l[i]).toArray 27) := ⟨_, rfl⟩
      have hb2 : Below wr.heap.size wr W2 := by rw [hW2]; exact (Below.refl _ _).alloc (Nat.le_refl _) _
      have hx := Lib.hid (show W2.rangeAt wr.heap.size 0 (Idn.cells l[i]) by rw [hW2]; exact (BoxAt.new wr (Idn.cells l[i]) _).range)
      have hT2 := hT.later ((isAsr_wr _ _).star L) hb2
      have hT3 := hT2.later ((isAsr_wr _ _).star L) (Below.refl _ _).drew
      have hc := wId_h L hT3 l[i] (hz.out i) (hw _ (List.getElem_mem hlt)) trivial
      rw [hnext.out i hlt] at hc
      replace hrg := Lib.hid hrg
      skip
      replace hc := Lib.hid hc
      replace hW2 := Lib.hid hW2
      have hS : W2.drew.rangeAt wr.heap.size 0 (Idn.cells l[i]) := hx.out
      generalize Idn.cells l[i] = X at *
      clear hb2 hT hT2 hT3
      go_wp2_with (first
        | (refine wpList_index_run rfl 24 (.tmp 14) (.tmp 16) rfl (.slice (some ⟨g, off, none⟩) l.length cap) (.int .i64 (i : Int)) _ rfl rfl (hix.out _) ?_)
        | (refine wpList_load_midg rfl 27 (.tmp 18) rfl g (off + i * 2) rfl X _ hrg.out Try.underlying27 rfl hi4.out ?_)
        | (refine wpList_store_new rfl 27 (.tmp 7) (.tmp 19) rfl wr _ X.toArray rfl rfl rfl hi5.out (hcz.out _ rfl) hone.out ?_; rw [← hW2.out]))
      try simp only [Act.put]
      generalize hw5 : W2.drew = w5 at *
      refine wp_region_need (fun _ => True) [0, 1, 2, 3] (by kernel_rfl) ?_
      rw [hw5]
      clear hw5
      refine need_takeL (i := 0) (v := ?cv294) rfl rfl (by kernel_rfl) (by kernel_rfl) (by kernel_rfl) (fun _ _ _ h => h) (Or.inl ⟨by rfl, ?ch294⟩) trivial ?cr294
      case ch294 => (intro w' hSw; (try dsimp only at hSw); go_simp; first | done | with_reducible rfl)
      try simp only [Act.put, List.setIfInBounds_toArray, List.set_cons_zero, List.set_cons_succ]
      refine need_takeL (i := 1) (v := ?cv297) rfl rfl (by kernel_rfl) (by kernel_rfl) (by kernel_rfl) (fun _ _ _ h => h) (Or.inl ⟨by rfl, ?ch297⟩) trivial ?cr297
      case ch297 => (intro w' hSw; (try dsimp only at hSw); go_simp; first | done | with_reducible rfl)
      try simp only [Act.put, List.setIfInBounds_toArray, List.set_cons_zero, List.set_cons_succ]
      refine need_takeL (i := 2) (v := ?cv300) rfl rfl (by kernel_rfl) (by kernel_rfl) (by kernel_rfl) (fun _ _ _ h => h) (Or.inl ⟨by rfl, ?ch300⟩) trivial ?cr300
      case ch300 => (intro w' hSw; (try dsimp only at hSw); go_simp; first | done | with_reducible rfl)
      try simp only [Act.put, List.setIfInBounds_toArray, List.set_cons_zero, List.set_cons_succ]
      refine need_takeL (i := 3) (v := ?cv303) rfl rfl (by kernel_rfl) (by kernel_rfl) (by kernel_rfl) (fun _ _ _ h => h) (Or.inl ⟨by rfl, ?ch303⟩) trivial ?cr303
      case ch303 => (intro w' hSw; (try dsimp only at hSw); go_simp; first | done | with_reducible rfl)
      try simp only [Act.put, List.setIfInBounds_toArray, List.set_cons_zero, List.set_cons_succ]
      refine need_from (S2 := fun w' => w'.rangeAt wr.heap.size 0 X) (need2 := [4]) (fun _ => trivial) _ _ _ _ ?_
      refine need_takeL (i := 4) rfl rfl (by kernel_rfl) (by kernel_rfl) (by kernel_rfl) (fun _ _ _ h => h) (yields_loads rfl (wr.heap.size) (0) rfl (X) _ (fun w' hSw => hSw) Try.underlying27 rfl hi4.out) hS ?_
      try simp only [Act.put, List.setIfInBounds_toArray, List.set_cons_zero, List.set_cons_succ]
      refine need_turnL (i := 5) rfl (by kernel_rfl) (by rfl) (fun K' hK' => ?_)
      go_simp
      refine hc.out.mono ?_
      rintro e w3 ⟨rfl, hT3⟩
      replace hT3 := Lib.hid hT3
      refine hK' _ _ (spared (by kernel_rfl)) ?_
      clear hK' K' hS
      try simp only [Act.put, List.setIfInBounds_toArray, List.set_cons_zero, List.set_cons_succ]
      refine need_done (by kernel_rfl) ?_ _
      clear hc hx hrg
      go_wp2_with fail
      exact ⟨⟨i + 1, by omega, by go_num, hT3.out⟩, by simp [RowKit.intOf]; omega⟩
    · obtain rfl : i = l.length := by omega
      rw [hlast.out] at hT
      replace hT := Lib.hid hT
      go_wp2
      go_end0
      exact ⟨rfl, hT.out⟩
end
end Go.Proofs.Ytfdanlfiaoedfaa
