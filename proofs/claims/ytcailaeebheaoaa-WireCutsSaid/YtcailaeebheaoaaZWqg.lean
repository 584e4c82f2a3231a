/- Stage 22: the document's Good of requests. No condition. -/
import Derived.Test.YtcailaeebheaoaaZWqe
namespace Go.Proofs.Ytcailaeebheaoaa
open Go.RowKit Go.Sort Wm Cr

/-- Of accounts, of transfers: good ones, where the Op is theirs. -/
def onlyA (op : Int) (a : Acct) : Bool := !decide (op = 1) || goodA a
def onlyT (op : Int) (t : Tran) : Bool := !decide (op = 2) || goodT t
theorem onlyA_not {op : Int} (h : ¬ op = 1) (a : Acct) : onlyA op a = true := by unfold onlyA; rw [decide_eq_false h]; rfl
theorem onlyT_not {op : Int} (h : ¬ op = 2) (a : Tran) : onlyT op a = true := by unfold onlyT; rw [decide_eq_false h]; rfl
theorem onlyA_is {op : Int} (h : op = 1) (a : Acct) : onlyA op a = goodA a := by unfold onlyA; rw [decide_eq_true h]; rfl
theorem onlyT_is {op : Int} (h : op = 2) (a : Tran) : onlyT op a = goodT a := by unfold onlyT; rw [decide_eq_true h]; rfl
theorem all_same {α : Type} {f g : α → Bool} (l : List α) (h : ∀ x, f x = g x) : l.all f = l.all g := by rw [show f = g from funext h]
theorem all_yes {α : Type} {f : α → Bool} (l : List α) (h : ∀ x, f x = true) : l.all f = true := List.all_eq_true.2 (fun x _ => h x)
theorem goodQ_doc (q : Req) : goodQ q = ((good19 q || good20 q) && (q.Accounts.all (onlyA q.Op) && q.Transfers.all (onlyT q.Op))) := by
  rw [goodQ_split]
  by_cases h1 : q.Op = 1
  · have h20 : good20 q = false := by unfold good20; simp [h1]
    rw [if_pos h1, h20, all_yes q.Transfers (onlyT_not (op := q.Op) (by omega)), all_same q.Accounts (onlyA_is h1), Bool.or_false, Bool.and_true]
  by_cases h2 : q.Op = 2
  · have h20 : good20 q = false := by unfold good20; simp [h2]
    rw [if_neg h1, if_pos h2, h20, all_yes q.Accounts (onlyA_not h1), all_same q.Transfers (onlyT_is h2), Bool.or_false, Bool.true_and]
  · rw [if_neg h1, if_neg h2, all_yes q.Accounts (onlyA_not h1), all_yes q.Transfers (onlyT_not h2), Bool.and_true, Bool.and_true]
set_option maxRecDepth 100000 in
set_option maxHeartbeats 8000000 in
theorem refGood22_any (q : Req) (s : Reqs) (w : World) (h : ReqAt w q s) : Calls Try.prog 11 #[reqV q s] w fun e w' => e = .returned (.bool (goodQ q)) ∧ Below w.heap.size w w' := by
  have hz := Lib.hid (fun (cs : Array Value) (t : TypeId) => (Below.refl w.heap.size w).alloc (Nat.le_refl _) (.cells cs t))
  have hbx := BoxAt.new w (q.cells s) 31
  have hsp := goodQ_doc q
  have k19 := fun W => refgood19_any q s W
  have k20 := fun W => refgood20_any q s W
  have hrowacct := Lib.hid (fun (W' : World) (hb : Below w.heap.size w W') => h.Accounts.later hb)
  have hrowtran := Lib.hid (fun (W' : World) (hb : Below w.heap.size w W') => h.Transfers.later hb)
  have hla := h.Accountsl
  have hlt := h.Transfersl
  generalize goodQ q = r at *
  generalize good19 q = g19 at *
  generalize good20 q = g20 at *
  have hCS := Lib.hid (fun (W : World) (b : Nat) (h : BoxAt W b (q.cells s)) => h.spot 0 _ rfl)
  have hCT := Lib.hid (fun (W : World) (b : Nat) (h : BoxAt W b (q.cells s)) => h.spot 2 _ rfl)
  clear h
  obtain ⟨op, acs, ts, now, ids, ⟨ac, fr, tt, db, cr, la, li⟩⟩ := q
  obtain ⟨sA, sAc, sT, sTc, sI, sIc⟩ := s
  unfold reqV at *
  dsimp only at *
  replace k19 := Lib.hid k19
  replace k20 := Lib.hid k20
  replace hbx := Lib.hid hbx
  by_cases n1 : op = 1
  · subst n1
    go_enter Try.func11, Try.ntmps11
    go_wp2_with fail
    refine (k19.out _).mono ?_
    rintro e w2 ⟨rfl, hb2⟩
    have hb0 := hbx.out.later hb2
    have hbe := (hz.out _ _).trans (hb2.mono (hz.out _ _).size)
    obtain ⟨z0, z1, z2, z3, z4, z5, z6, z7, z8, z9, z10, z11, z12, zl⟩ := hb0.req
    dsimp only at z0 z1 z2 z3 z4 z5 z6 z7 z8 z9 z10 z11 z12 zl
    generalize hCSd : (Req.cells ⟨1, acs, ts, now, ids, ⟨ac, fr, tt, db, cr, la, li⟩⟩ ⟨sA, sAc, sT, sTc, sI, sIc⟩) = CS at *
    replace hCSd := Lib.hid hCSd
    have hS0 := Lib.hid (And.intro hbe hb0)
    clear hb2 k19 hb0 hbx hbe
    cases g19 with
    | true =>
      go_wp2_with fail
      clear z0 z1 z2 z3 z4 z5 z6 z7 z8 z9 z10 z11 z12 zl k20
      go_loopw [18] (fun iv wr => ∃ i : Nat, i ≤ acs.length ∧ iv = .int .i64 i ∧ (∀ j (hj : j < acs.length), j < i → onlyA 1 acs[j] = true) ∧ Below w.heap.size w wr ∧ BoxAt wr w.heap.size CS) (fun iv _ => (acs.length - RowKit.intOf iv).toNat)
      case atStart => exact ⟨0, by omega, rfl, fun j hj h => by omega, hS0.out.1, hS0.out.2⟩
      case round =>
        clear hS0
        obtain ⟨i, hi, rfl, hne, hb, hbB⟩ := hrel
        by_cases hlt : i < acs.length
        · obtain ⟨g, off, hao, hg, hrg⟩ := (hrowacct.out wr hb).at hlt
          try dsimp only at hao
          subst hao
          have hix := Lib.hid (fun w => run_idx_acctW g off acs.length sAc i hlt w)
          have hltI : ((i : Nat) : Int) < ((acs.length : Nat) : Int) := by omega
          have hi4 := Lib.hid (show (Try.prog.info? 58).map (·.size) = some (Acct.cells acs[i]).length by kernel_rfl)
          have hi5 := Lib.hid (show (Try.prog.info? 58).map (·.size) = some (Acct.cells acs[i]).toArray.size by kernel_rfl)
          have hone := Lib.hid (all_oneCell_toArray (acctW.one acs[i]))
          have hcz : ∀ z : Array Value, z.size = 14 → z.size = (Acct.cells acs[i]).toArray.size := fun z h => h
          replace hcz := Lib.hid hcz
          have hnx := Lib.hid (fun (hq : onlyA 1 acs[i] = true) (j : Nat) (hj : j < acs.length) (hji : j < i + 1) => (show onlyA 1 acs[j] = true from by
            by_cases e : j = i
            · subst e; exact hq
            · exact hne j hj (by omega)))
          have hbad := Lib.hid (fun (hq : onlyA 1 acs[i] = false) => all_bad (f := onlyA 1) hlt hq)
          clear hne
          obtain ⟨W2, hW2⟩ : ∃ W2, W2 = wr.alloc (.cells (Acct.cells acs[i]).toArray 58) := ⟨_, rfl⟩
          have hb2 : Below wr.heap.size wr W2 := by rw [hW2]; exact (Below.refl _ _).alloc (Nat.le_refl _) _
          have hx := Lib.hid (show W2.rangeAt wr.heap.size 0 (Acct.cells acs[i]) by rw [hW2]; exact (BoxAt.new wr (Acct.cells acs[i]) _).range)
          have hc := refgood_acct acs[i] W2
          have hbe := hb.trans (hb2.mono hb.size)
          have hB2 := hbB.later hb2
          have d0 := hCS.out _ _ hB2
          have dl := hB2.lt
          have hS := Lib.hid (And.intro hbe hB2)
          replace hrg := Lib.hid hrg
          unfold acctV at hc
          replace hc := Lib.hid hc
          replace hW2 := Lib.hid hW2
          have hov := Lib.hid (fun h => onlyA_is (op := 1) h acs[i])
          have hon := Lib.hid (fun h => onlyA_not (op := 1) h acs[i])
          generalize Acct.cells acs[i] = X at *
          clear hb hb2 hbe hB2 hbB
          replace hov := hov.out rfl
          cases hq : goodA acs[i] with
          | false =>
            have hrr := Lib.hid (hbad.out (hov.trans hq))
            clear hnx hov hon hbad
            rw [hq] at hc
            clear hq
            go_wp2_with (first
                    | (refine wpList_index_run rfl 22 (.tmp 16) (.tmp 18) rfl (.slice (some ⟨g, off, none⟩) acs.length sAc) (.int .i64 (i : Int)) _ rfl rfl (hix.out _) ?_)
                    | (refine wpList_load_midg rfl 58 (.tmp 20) rfl g (off + i * 14) rfl X _ hrg.out Try.underlying58 rfl hi4.out ?_)
                    | (refine wpList_store_new rfl 58 (.tmp 4) (.tmp 21) rfl wr _ X.toArray rfl rfl rfl hi5.out (hcz.out _ rfl) hone.out ?_; rw [← hW2.out])
                    | (refine wpList_load_midg rfl 58 (.tmp 4) rfl wr.heap.size 0 rfl X _ hx.out Try.underlying58 rfl hi4.out ?_))
            refine (hc.out).mono ?_
            rintro e w3 ⟨rfl, hb3⟩
            have hfin := Lib.hid (hS.out.1.trans (hb3.mono hS.out.1.size))
            clear hb3 hc hx hrg d0 dl hS
            go_wp2
            go_ret
            exact ⟨by rw [hsp, hrr.out]; simp, hfin.out⟩
          | true =>
            have hnx1 := Lib.hid (hnx.out (hov.trans hq))
            clear hnx hov hon hbad
            rw [hq] at hc
            clear hq
            go_wp2_with (first
                    | (refine wpList_index_run rfl 22 (.tmp 16) (.tmp 18) rfl (.slice (some ⟨g, off, none⟩) acs.length sAc) (.int .i64 (i : Int)) _ rfl rfl (hix.out _) ?_)
                    | (refine wpList_load_midg rfl 58 (.tmp 20) rfl g (off + i * 14) rfl X _ hrg.out Try.underlying58 rfl hi4.out ?_)
                    | (refine wpList_store_new rfl 58 (.tmp 4) (.tmp 21) rfl wr _ X.toArray rfl rfl rfl hi5.out (hcz.out _ rfl) hone.out ?_; rw [← hW2.out])
                    | (refine wpList_load_midg rfl 58 (.tmp 4) rfl wr.heap.size 0 rfl X _ hx.out Try.underlying58 rfl hi4.out ?_))
            refine (hc.out).mono ?_
            rintro e w3 ⟨rfl, hb3⟩
            have hfin := Lib.hid (And.intro (hS.out.1.trans (hb3.mono hS.out.1.size)) (hS.out.2.later hb3))
            clear hb3 hc hx hrg d0 dl hS
            go_wp2_with fail
            go_roundw
            case measure => simp [RowKit.intOf]; omega
            case rel => exact ⟨i + 1, by omega, by go_num, hnx1.out, hfin.out.1, hfin.out.2⟩
        · obtain rfl : i = acs.length := by omega
          have hracct := Lib.hid (all_good (f := onlyA 1) (l := acs) (fun j hj => hne j hj hj))
          clear hne hrowacct
          have dl := hbB.lt
          have d2 := hCT.out _ _ hbB
          have hS1 := Lib.hid (And.intro hb hbB)
          clear hb hbB
          go_wp2_with fail
          clear d2 dl
          go_loopw [34] (fun iv wr => ∃ i : Nat, i ≤ ts.length ∧ iv = .int .i64 i ∧ (∀ j (hj : j < ts.length), j < i → onlyT 1 ts[j] = true) ∧ Below w.heap.size w wr ∧ BoxAt wr w.heap.size CS) (fun iv _ => (ts.length - RowKit.intOf iv).toNat)
          case atStart => exact ⟨0, by omega, rfl, fun j hj h => by omega, hS1.out.1, hS1.out.2⟩
          case round =>
            clear hS1
            obtain ⟨i, hi, rfl, hne, hb, hbB⟩ := hrel
            by_cases hlt : i < ts.length
            · obtain ⟨g, off, hao, hg, hrg⟩ := (hrowtran.out wr hb).at hlt
              try dsimp only at hao
              subst hao
              have hix := Lib.hid (fun w => run_idx_tranW g off ts.length sTc i hlt w)
              have hltI : ((i : Nat) : Int) < ((ts.length : Nat) : Int) := by omega
              have hi4 := Lib.hid (show (Try.prog.info? 61).map (·.size) = some (Tran.cells ts[i]).length by kernel_rfl)
              have hi5 := Lib.hid (show (Try.prog.info? 61).map (·.size) = some (Tran.cells ts[i]).toArray.size by kernel_rfl)
              have hone := Lib.hid (all_oneCell_toArray (tranW.one ts[i]))
              have hcz : ∀ z : Array Value, z.size = 16 → z.size = (Tran.cells ts[i]).toArray.size := fun z h => h
              replace hcz := Lib.hid hcz
              have hnx := Lib.hid (fun (hq : onlyT 1 ts[i] = true) (j : Nat) (hj : j < ts.length) (hji : j < i + 1) => (show onlyT 1 ts[j] = true from by
                by_cases e : j = i
                · subst e; exact hq
                · exact hne j hj (by omega)))
              have hbad := Lib.hid (fun (hq : onlyT 1 ts[i] = false) => all_bad (f := onlyT 1) hlt hq)
              clear hne
              obtain ⟨W2, hW2⟩ : ∃ W2, W2 = wr.alloc (.cells (Tran.cells ts[i]).toArray 61) := ⟨_, rfl⟩
              have hb2 : Below wr.heap.size wr W2 := by rw [hW2]; exact (Below.refl _ _).alloc (Nat.le_refl _) _
              have hx := Lib.hid (show W2.rangeAt wr.heap.size 0 (Tran.cells ts[i]) by rw [hW2]; exact (BoxAt.new wr (Tran.cells ts[i]) _).range)
              have hc := refgood_tran ts[i] W2
              have hbe := hb.trans (hb2.mono hb.size)
              have hB2 := hbB.later hb2
              have d0 := hCS.out _ _ hB2
              have dl := hB2.lt
              have hS := Lib.hid (And.intro hbe hB2)
              replace hrg := Lib.hid hrg
              unfold tranV at hc
              replace hc := Lib.hid hc
              replace hW2 := Lib.hid hW2
              have hov := Lib.hid (fun h => onlyT_is (op := 1) h ts[i])
              have hon := Lib.hid (fun h => onlyT_not (op := 1) h ts[i])
              generalize Tran.cells ts[i] = X at *
              clear hb hb2 hbe hB2 hbB
              have hop : ¬ (1 : Int) = 2 := by decide
              have hnx1 := Lib.hid (hnx.out (hon.out hop))
              clear hnx hov hon hbad hc
              go_wp2_with (first
                        | (refine wpList_index_run rfl 23 (.tmp 32) (.tmp 34) rfl (.slice (some ⟨g, off, none⟩) ts.length sTc) (.int .i64 (i : Int)) _ rfl rfl (hix.out _) ?_)
                        | (refine wpList_load_midg rfl 61 (.tmp 36) rfl g (off + i * 16) rfl X _ hrg.out Try.underlying61 rfl hi4.out ?_)
                        | (refine wpList_store_new rfl 61 (.tmp 6) (.tmp 37) rfl wr _ X.toArray rfl rfl rfl hi5.out (hcz.out _ rfl) hone.out ?_; rw [← hW2.out])
                        | (refine wpList_load_midg rfl 61 (.tmp 6) rfl wr.heap.size 0 rfl X _ hx.out Try.underlying61 rfl hi4.out ?_))
              go_roundw
              case measure => simp [RowKit.intOf]; omega
              case rel => exact ⟨i + 1, by omega, by go_num, hnx1.out, hS.out.1, hS.out.2⟩
            · obtain rfl : i = ts.length := by omega
              have hrtran := Lib.hid (all_good (f := onlyT 1) (l := ts) (fun j hj => hne j hj hj))
              clear hne hrowtran
              have dl := hbB.lt
              go_wp2
              go_ret
              exact ⟨by rw [hsp, hracct.out, hrtran.out]; rfl, hb⟩
    | false =>
      go_wp2_with fail
      refine (k20.out _).mono ?_
      rintro e w3 ⟨rfl, hb3⟩
      replace hS0 := Lib.hid (And.intro (hS0.out.1.trans (hb3.mono hS0.out.1.size)) (hS0.out.2.later hb3))
      have d1 := hS0.out.2
      rw [← hCSd.out] at d1
      obtain ⟨y0, y1, y2, y3, y4, y5, y6, y7, y8, y9, y10, y11, y12, yl⟩ := d1.req
      dsimp only at y0 y1 y2 y3 y4 y5 y6 y7 y8 y9 y10 y11 y12 yl
      clear z0 z1 z2 z3 z4 z5 z6 z7 z8 z9 z10 z11 z12 zl k20 hb3 d1
      cases g20 with
      | false =>
        have hfin := Lib.hid hS0.out.1
        go_wp2
        go_ret
        exact ⟨by rw [hsp]; rfl, hfin.out⟩
      | true =>
        go_wp2_with fail
        clear y0 y1 y2 y3 y4 y5 y6 y7 y8 y9 y10 y11 y12 yl
        go_loopw [18] (fun iv wr => ∃ i : Nat, i ≤ acs.length ∧ iv = .int .i64 i ∧ (∀ j (hj : j < acs.length), j < i → onlyA 1 acs[j] = true) ∧ Below w.heap.size w wr ∧ BoxAt wr w.heap.size CS) (fun iv _ => (acs.length - RowKit.intOf iv).toNat)
        case atStart => exact ⟨0, by omega, rfl, fun j hj h => by omega, hS0.out.1, hS0.out.2⟩
        case round =>
          clear hS0
          obtain ⟨i, hi, rfl, hne, hb, hbB⟩ := hrel
          by_cases hlt : i < acs.length
          · obtain ⟨g, off, hao, hg, hrg⟩ := (hrowacct.out wr hb).at hlt
            try dsimp only at hao
            subst hao
            have hix := Lib.hid (fun w => run_idx_acctW g off acs.length sAc i hlt w)
            have hltI : ((i : Nat) : Int) < ((acs.length : Nat) : Int) := by omega
            have hi4 := Lib.hid (show (Try.prog.info? 58).map (·.size) = some (Acct.cells acs[i]).length by kernel_rfl)
            have hi5 := Lib.hid (show (Try.prog.info? 58).map (·.size) = some (Acct.cells acs[i]).toArray.size by kernel_rfl)
            have hone := Lib.hid (all_oneCell_toArray (acctW.one acs[i]))
            have hcz : ∀ z : Array Value, z.size = 14 → z.size = (Acct.cells acs[i]).toArray.size := fun z h => h
            replace hcz := Lib.hid hcz
            have hnx := Lib.hid (fun (hq : onlyA 1 acs[i] = true) (j : Nat) (hj : j < acs.length) (hji : j < i + 1) => (show onlyA 1 acs[j] = true from by
              by_cases e : j = i
              · subst e; exact hq
              · exact hne j hj (by omega)))
            have hbad := Lib.hid (fun (hq : onlyA 1 acs[i] = false) => all_bad (f := onlyA 1) hlt hq)
            clear hne
            obtain ⟨W2, hW2⟩ : ∃ W2, W2 = wr.alloc (.cells (Acct.cells acs[i]).toArray 58) := ⟨_, rfl⟩
            have hb2 : Below wr.heap.size wr W2 := by rw [hW2]; exact (Below.refl _ _).alloc (Nat.le_refl _) _
            have hx := Lib.hid (show W2.rangeAt wr.heap.size 0 (Acct.cells acs[i]) by rw [hW2]; exact (BoxAt.new wr (Acct.cells acs[i]) _).range)
            have hc := refgood_acct acs[i] W2
            have hbe := hb.trans (hb2.mono hb.size)
            have hB2 := hbB.later hb2
            have d0 := hCS.out _ _ hB2
            have dl := hB2.lt
            have hS := Lib.hid (And.intro hbe hB2)
            replace hrg := Lib.hid hrg
            unfold acctV at hc
            replace hc := Lib.hid hc
            replace hW2 := Lib.hid hW2
            have hov := Lib.hid (fun h => onlyA_is (op := 1) h acs[i])
            have hon := Lib.hid (fun h => onlyA_not (op := 1) h acs[i])
            generalize Acct.cells acs[i] = X at *
            clear hb hb2 hbe hB2 hbB
            replace hov := hov.out rfl
            cases hq : goodA acs[i] with
            | false =>
              have hrr := Lib.hid (hbad.out (hov.trans hq))
              clear hnx hov hon hbad
              rw [hq] at hc
              clear hq
              go_wp2_with (first
                      | (refine wpList_index_run rfl 22 (.tmp 16) (.tmp 18) rfl (.slice (some ⟨g, off, none⟩) acs.length sAc) (.int .i64 (i : Int)) _ rfl rfl (hix.out _) ?_)
                      | (refine wpList_load_midg rfl 58 (.tmp 20) rfl g (off + i * 14) rfl X _ hrg.out Try.underlying58 rfl hi4.out ?_)
                      | (refine wpList_store_new rfl 58 (.tmp 4) (.tmp 21) rfl wr _ X.toArray rfl rfl rfl hi5.out (hcz.out _ rfl) hone.out ?_; rw [← hW2.out])
                      | (refine wpList_load_midg rfl 58 (.tmp 4) rfl wr.heap.size 0 rfl X _ hx.out Try.underlying58 rfl hi4.out ?_))
              refine (hc.out).mono ?_
              rintro e w3 ⟨rfl, hb3⟩
              have hfin := Lib.hid (hS.out.1.trans (hb3.mono hS.out.1.size))
              clear hb3 hc hx hrg d0 dl hS
              go_wp2
              go_ret
              exact ⟨by rw [hsp, hrr.out]; simp, hfin.out⟩
            | true =>
              have hnx1 := Lib.hid (hnx.out (hov.trans hq))
              clear hnx hov hon hbad
              rw [hq] at hc
              clear hq
              go_wp2_with (first
                      | (refine wpList_index_run rfl 22 (.tmp 16) (.tmp 18) rfl (.slice (some ⟨g, off, none⟩) acs.length sAc) (.int .i64 (i : Int)) _ rfl rfl (hix.out _) ?_)
                      | (refine wpList_load_midg rfl 58 (.tmp 20) rfl g (off + i * 14) rfl X _ hrg.out Try.underlying58 rfl hi4.out ?_)
                      | (refine wpList_store_new rfl 58 (.tmp 4) (.tmp 21) rfl wr _ X.toArray rfl rfl rfl hi5.out (hcz.out _ rfl) hone.out ?_; rw [← hW2.out])
                      | (refine wpList_load_midg rfl 58 (.tmp 4) rfl wr.heap.size 0 rfl X _ hx.out Try.underlying58 rfl hi4.out ?_))
              refine (hc.out).mono ?_
              rintro e w3 ⟨rfl, hb3⟩
              have hfin := Lib.hid (And.intro (hS.out.1.trans (hb3.mono hS.out.1.size)) (hS.out.2.later hb3))
              clear hb3 hc hx hrg d0 dl hS
              go_wp2_with fail
              go_roundw
              case measure => simp [RowKit.intOf]; omega
              case rel => exact ⟨i + 1, by omega, by go_num, hnx1.out, hfin.out.1, hfin.out.2⟩
          · obtain rfl : i = acs.length := by omega
            have hracct := Lib.hid (all_good (f := onlyA 1) (l := acs) (fun j hj => hne j hj hj))
            clear hne hrowacct
            have dl := hbB.lt
            have d2 := hCT.out _ _ hbB
            have hS1 := Lib.hid (And.intro hb hbB)
            clear hb hbB
            go_wp2_with fail
            clear d2 dl
            go_loopw [34] (fun iv wr => ∃ i : Nat, i ≤ ts.length ∧ iv = .int .i64 i ∧ (∀ j (hj : j < ts.length), j < i → onlyT 1 ts[j] = true) ∧ Below w.heap.size w wr ∧ BoxAt wr w.heap.size CS) (fun iv _ => (ts.length - RowKit.intOf iv).toNat)
            case atStart => exact ⟨0, by omega, rfl, fun j hj h => by omega, hS1.out.1, hS1.out.2⟩
            case round =>
              clear hS1
              obtain ⟨i, hi, rfl, hne, hb, hbB⟩ := hrel
              by_cases hlt : i < ts.length
              · obtain ⟨g, off, hao, hg, hrg⟩ := (hrowtran.out wr hb).at hlt
                try dsimp only at hao
                subst hao
                have hix := Lib.hid (fun w => run_idx_tranW g off ts.length sTc i hlt w)
                have hltI : ((i : Nat) : Int) < ((ts.length : Nat) : Int) := by omega
                have hi4 := Lib.hid (show (Try.prog.info? 61).map (·.size) = some (Tran.cells ts[i]).length by kernel_rfl)
                have hi5 := Lib.hid (show (Try.prog.info? 61).map (·.size) = some (Tran.cells ts[i]).toArray.size by kernel_rfl)
                have hone := Lib.hid (all_oneCell_toArray (tranW.one ts[i]))
                have hcz : ∀ z : Array Value, z.size = 16 → z.size = (Tran.cells ts[i]).toArray.size := fun z h => h
                replace hcz := Lib.hid hcz
                have hnx := Lib.hid (fun (hq : onlyT 1 ts[i] = true) (j : Nat) (hj : j < ts.length) (hji : j < i + 1) => (show onlyT 1 ts[j] = true from by
                  by_cases e : j = i
                  · subst e; exact hq
                  · exact hne j hj (by omega)))
                have hbad := Lib.hid (fun (hq : onlyT 1 ts[i] = false) => all_bad (f := onlyT 1) hlt hq)
                clear hne
                obtain ⟨W2, hW2⟩ : ∃ W2, W2 = wr.alloc (.cells (Tran.cells ts[i]).toArray 61) := ⟨_, rfl⟩
                have hb2 : Below wr.heap.size wr W2 := by rw [hW2]; exact (Below.refl _ _).alloc (Nat.le_refl _) _
                have hx := Lib.hid (show W2.rangeAt wr.heap.size 0 (Tran.cells ts[i]) by rw [hW2]; exact (BoxAt.new wr (Tran.cells ts[i]) _).range)
                have hc := refgood_tran ts[i] W2
                have hbe := hb.trans (hb2.mono hb.size)
                have hB2 := hbB.later hb2
                have d0 := hCS.out _ _ hB2
                have dl := hB2.lt
                have hS := Lib.hid (And.intro hbe hB2)
                replace hrg := Lib.hid hrg
                unfold tranV at hc
                replace hc := Lib.hid hc
                replace hW2 := Lib.hid hW2
                have hov := Lib.hid (fun h => onlyT_is (op := 1) h ts[i])
                have hon := Lib.hid (fun h => onlyT_not (op := 1) h ts[i])
                generalize Tran.cells ts[i] = X at *
                clear hb hb2 hbe hB2 hbB
                have hop : ¬ (1 : Int) = 2 := by decide
                have hnx1 := Lib.hid (hnx.out (hon.out hop))
                clear hnx hov hon hbad hc
                go_wp2_with (first
                          | (refine wpList_index_run rfl 23 (.tmp 32) (.tmp 34) rfl (.slice (some ⟨g, off, none⟩) ts.length sTc) (.int .i64 (i : Int)) _ rfl rfl (hix.out _) ?_)
                          | (refine wpList_load_midg rfl 61 (.tmp 36) rfl g (off + i * 16) rfl X _ hrg.out Try.underlying61 rfl hi4.out ?_)
                          | (refine wpList_store_new rfl 61 (.tmp 6) (.tmp 37) rfl wr _ X.toArray rfl rfl rfl hi5.out (hcz.out _ rfl) hone.out ?_; rw [← hW2.out])
                          | (refine wpList_load_midg rfl 61 (.tmp 6) rfl wr.heap.size 0 rfl X _ hx.out Try.underlying61 rfl hi4.out ?_))
                go_roundw
                case measure => simp [RowKit.intOf]; omega
                case rel => exact ⟨i + 1, by omega, by go_num, hnx1.out, hS.out.1, hS.out.2⟩
              · obtain rfl : i = ts.length := by omega
                have hrtran := Lib.hid (all_good (f := onlyT 1) (l := ts) (fun j hj => hne j hj hj))
                clear hne hrowtran
                have dl := hbB.lt
                go_wp2
                go_ret
                exact ⟨by rw [hsp, hracct.out, hrtran.out]; rfl, hb⟩
  by_cases n2 : op = 2
  · subst n2
    clear n1
    go_enter Try.func11, Try.ntmps11
    go_wp2_with fail
    refine (k19.out _).mono ?_
    rintro e w2 ⟨rfl, hb2⟩
    have hb0 := hbx.out.later hb2
    have hbe := (hz.out _ _).trans (hb2.mono (hz.out _ _).size)
    obtain ⟨z0, z1, z2, z3, z4, z5, z6, z7, z8, z9, z10, z11, z12, zl⟩ := hb0.req
    dsimp only at z0 z1 z2 z3 z4 z5 z6 z7 z8 z9 z10 z11 z12 zl
    generalize hCSd : (Req.cells ⟨2, acs, ts, now, ids, ⟨ac, fr, tt, db, cr, la, li⟩⟩ ⟨sA, sAc, sT, sTc, sI, sIc⟩) = CS at *
    replace hCSd := Lib.hid hCSd
    have hS0 := Lib.hid (And.intro hbe hb0)
    clear hb2 k19 hb0 hbx hbe
    cases g19 with
    | true =>
      go_wp2_with fail
      clear z0 z1 z2 z3 z4 z5 z6 z7 z8 z9 z10 z11 z12 zl k20
      go_loopw [18] (fun iv wr => ∃ i : Nat, i ≤ acs.length ∧ iv = .int .i64 i ∧ (∀ j (hj : j < acs.length), j < i → onlyA 2 acs[j] = true) ∧ Below w.heap.size w wr ∧ BoxAt wr w.heap.size CS) (fun iv _ => (acs.length - RowKit.intOf iv).toNat)
      case atStart => exact ⟨0, by omega, rfl, fun j hj h => by omega, hS0.out.1, hS0.out.2⟩
      case round =>
        clear hS0
        obtain ⟨i, hi, rfl, hne, hb, hbB⟩ := hrel
        by_cases hlt : i < acs.length
        · obtain ⟨g, off, hao, hg, hrg⟩ := (hrowacct.out wr hb).at hlt
          try dsimp only at hao
          subst hao
          have hix := Lib.hid (fun w => run_idx_acctW g off acs.length sAc i hlt w)
          have hltI : ((i : Nat) : Int) < ((acs.length : Nat) : Int) := by omega
          have hi4 := Lib.hid (show (Try.prog.info? 58).map (·.size) = some (Acct.cells acs[i]).length by kernel_rfl)
          have hi5 := Lib.hid (show (Try.prog.info? 58).map (·.size) = some (Acct.cells acs[i]).toArray.size by kernel_rfl)
          have hone := Lib.hid (all_oneCell_toArray (acctW.one acs[i]))
          have hcz : ∀ z : Array Value, z.size = 14 → z.size = (Acct.cells acs[i]).toArray.size := fun z h => h
          replace hcz := Lib.hid hcz
          have hnx := Lib.hid (fun (hq : onlyA 2 acs[i] = true) (j : Nat) (hj : j < acs.length) (hji : j < i + 1) => (show onlyA 2 acs[j] = true from by
            by_cases e : j = i
            · subst e; exact hq
            · exact hne j hj (by omega)))
          have hbad := Lib.hid (fun (hq : onlyA 2 acs[i] = false) => all_bad (f := onlyA 2) hlt hq)
          clear hne
          obtain ⟨W2, hW2⟩ : ∃ W2, W2 = wr.alloc (.cells (Acct.cells acs[i]).toArray 58) := ⟨_, rfl⟩
          have hb2 : Below wr.heap.size wr W2 := by rw [hW2]; exact (Below.refl _ _).alloc (Nat.le_refl _) _
          have hx := Lib.hid (show W2.rangeAt wr.heap.size 0 (Acct.cells acs[i]) by rw [hW2]; exact (BoxAt.new wr (Acct.cells acs[i]) _).range)
          have hc := refgood_acct acs[i] W2
          have hbe := hb.trans (hb2.mono hb.size)
          have hB2 := hbB.later hb2
          have d0 := hCS.out _ _ hB2
          have dl := hB2.lt
          have hS := Lib.hid (And.intro hbe hB2)
          replace hrg := Lib.hid hrg
          unfold acctV at hc
          replace hc := Lib.hid hc
          replace hW2 := Lib.hid hW2
          have hov := Lib.hid (fun h => onlyA_is (op := 2) h acs[i])
          have hon := Lib.hid (fun h => onlyA_not (op := 2) h acs[i])
          generalize Acct.cells acs[i] = X at *
          clear hb hb2 hbe hB2 hbB
          have hop : ¬ (2 : Int) = 1 := by decide
          have hnx1 := Lib.hid (hnx.out (hon.out hop))
          clear hnx hov hon hbad hc
          go_wp2_with (first
                    | (refine wpList_index_run rfl 22 (.tmp 16) (.tmp 18) rfl (.slice (some ⟨g, off, none⟩) acs.length sAc) (.int .i64 (i : Int)) _ rfl rfl (hix.out _) ?_)
                    | (refine wpList_load_midg rfl 58 (.tmp 20) rfl g (off + i * 14) rfl X _ hrg.out Try.underlying58 rfl hi4.out ?_)
                    | (refine wpList_store_new rfl 58 (.tmp 4) (.tmp 21) rfl wr _ X.toArray rfl rfl rfl hi5.out (hcz.out _ rfl) hone.out ?_; rw [← hW2.out])
                    | (refine wpList_load_midg rfl 58 (.tmp 4) rfl wr.heap.size 0 rfl X _ hx.out Try.underlying58 rfl hi4.out ?_))
          go_roundw
          case measure => simp [RowKit.intOf]; omega
          case rel => exact ⟨i + 1, by omega, by go_num, hnx1.out, hS.out.1, hS.out.2⟩
        · obtain rfl : i = acs.length := by omega
          have hracct := Lib.hid (all_good (f := onlyA 2) (l := acs) (fun j hj => hne j hj hj))
          clear hne hrowacct
          have dl := hbB.lt
          have d2 := hCT.out _ _ hbB
          have hS1 := Lib.hid (And.intro hb hbB)
          clear hb hbB
          go_wp2_with fail
          clear d2 dl
          go_loopw [34] (fun iv wr => ∃ i : Nat, i ≤ ts.length ∧ iv = .int .i64 i ∧ (∀ j (hj : j < ts.length), j < i → onlyT 2 ts[j] = true) ∧ Below w.heap.size w wr ∧ BoxAt wr w.heap.size CS) (fun iv _ => (ts.length - RowKit.intOf iv).toNat)
          case atStart => exact ⟨0, by omega, rfl, fun j hj h => by omega, hS1.out.1, hS1.out.2⟩
          case round =>
            clear hS1
            obtain ⟨i, hi, rfl, hne, hb, hbB⟩ := hrel
            by_cases hlt : i < ts.length
            · obtain ⟨g, off, hao, hg, hrg⟩ := (hrowtran.out wr hb).at hlt
              try dsimp only at hao
              subst hao
              have hix := Lib.hid (fun w => run_idx_tranW g off ts.length sTc i hlt w)
              have hltI : ((i : Nat) : Int) < ((ts.length : Nat) : Int) := by omega
              have hi4 := Lib.hid (show (Try.prog.info? 61).map (·.size) = some (Tran.cells ts[i]).length by kernel_rfl)
              have hi5 := Lib.hid (show (Try.prog.info? 61).map (·.size) = some (Tran.cells ts[i]).toArray.size by kernel_rfl)
              have hone := Lib.hid (all_oneCell_toArray (tranW.one ts[i]))
              have hcz : ∀ z : Array Value, z.size = 16 → z.size = (Tran.cells ts[i]).toArray.size := fun z h => h
              replace hcz := Lib.hid hcz
              have hnx := Lib.hid (fun (hq : onlyT 2 ts[i] = true) (j : Nat) (hj : j < ts.length) (hji : j < i + 1) => (show onlyT 2 ts[j] = true from by
                by_cases e : j = i
                · subst e; exact hq
                · exact hne j hj (by omega)))
              have hbad := Lib.hid (fun (hq : onlyT 2 ts[i] = false) => all_bad (f := onlyT 2) hlt hq)
              clear hne
              obtain ⟨W2, hW2⟩ : ∃ W2, W2 = wr.alloc (.cells (Tran.cells ts[i]).toArray 61) := ⟨_, rfl⟩
              have hb2 : Below wr.heap.size wr W2 := by rw [hW2]; exact (Below.refl _ _).alloc (Nat.le_refl _) _
              have hx := Lib.hid (show W2.rangeAt wr.heap.size 0 (Tran.cells ts[i]) by rw [hW2]; exact (BoxAt.new wr (Tran.cells ts[i]) _).range)
              have hc := refgood_tran ts[i] W2
              have hbe := hb.trans (hb2.mono hb.size)
              have hB2 := hbB.later hb2
              have d0 := hCS.out _ _ hB2
              have dl := hB2.lt
              have hS := Lib.hid (And.intro hbe hB2)
              replace hrg := Lib.hid hrg
              unfold tranV at hc
              replace hc := Lib.hid hc
              replace hW2 := Lib.hid hW2
              have hov := Lib.hid (fun h => onlyT_is (op := 2) h ts[i])
              have hon := Lib.hid (fun h => onlyT_not (op := 2) h ts[i])
              generalize Tran.cells ts[i] = X at *
              clear hb hb2 hbe hB2 hbB
              replace hov := hov.out rfl
              cases hq : goodT ts[i] with
              | false =>
                have hrr := Lib.hid (hbad.out (hov.trans hq))
                clear hnx hov hon hbad
                rw [hq] at hc
                clear hq
                go_wp2_with (first
                        | (refine wpList_index_run rfl 23 (.tmp 32) (.tmp 34) rfl (.slice (some ⟨g, off, none⟩) ts.length sTc) (.int .i64 (i : Int)) _ rfl rfl (hix.out _) ?_)
                        | (refine wpList_load_midg rfl 61 (.tmp 36) rfl g (off + i * 16) rfl X _ hrg.out Try.underlying61 rfl hi4.out ?_)
                        | (refine wpList_store_new rfl 61 (.tmp 6) (.tmp 37) rfl wr _ X.toArray rfl rfl rfl hi5.out (hcz.out _ rfl) hone.out ?_; rw [← hW2.out])
                        | (refine wpList_load_midg rfl 61 (.tmp 6) rfl wr.heap.size 0 rfl X _ hx.out Try.underlying61 rfl hi4.out ?_))
                refine (hc.out).mono ?_
                rintro e w3 ⟨rfl, hb3⟩
                have hfin := Lib.hid (hS.out.1.trans (hb3.mono hS.out.1.size))
                clear hb3 hc hx hrg d0 dl hS
                go_wp2
                go_ret
                exact ⟨by rw [hsp, hrr.out]; simp, hfin.out⟩
              | true =>
                have hnx1 := Lib.hid (hnx.out (hov.trans hq))
                clear hnx hov hon hbad
                rw [hq] at hc
                clear hq
                go_wp2_with (first
                        | (refine wpList_index_run rfl 23 (.tmp 32) (.tmp 34) rfl (.slice (some ⟨g, off, none⟩) ts.length sTc) (.int .i64 (i : Int)) _ rfl rfl (hix.out _) ?_)
                        | (refine wpList_load_midg rfl 61 (.tmp 36) rfl g (off + i * 16) rfl X _ hrg.out Try.underlying61 rfl hi4.out ?_)
                        | (refine wpList_store_new rfl 61 (.tmp 6) (.tmp 37) rfl wr _ X.toArray rfl rfl rfl hi5.out (hcz.out _ rfl) hone.out ?_; rw [← hW2.out])
                        | (refine wpList_load_midg rfl 61 (.tmp 6) rfl wr.heap.size 0 rfl X _ hx.out Try.underlying61 rfl hi4.out ?_))
                refine (hc.out).mono ?_
                rintro e w3 ⟨rfl, hb3⟩
                have hfin := Lib.hid (And.intro (hS.out.1.trans (hb3.mono hS.out.1.size)) (hS.out.2.later hb3))
                clear hb3 hc hx hrg d0 dl hS
                go_wp2_with fail
                go_roundw
                case measure => simp [RowKit.intOf]; omega
                case rel => exact ⟨i + 1, by omega, by go_num, hnx1.out, hfin.out.1, hfin.out.2⟩
            · obtain rfl : i = ts.length := by omega
              have hrtran := Lib.hid (all_good (f := onlyT 2) (l := ts) (fun j hj => hne j hj hj))
              clear hne hrowtran
              have dl := hbB.lt
              go_wp2
              go_ret
              exact ⟨by rw [hsp, hracct.out, hrtran.out]; rfl, hb⟩
    | false =>
      go_wp2_with fail
      refine (k20.out _).mono ?_
      rintro e w3 ⟨rfl, hb3⟩
      replace hS0 := Lib.hid (And.intro (hS0.out.1.trans (hb3.mono hS0.out.1.size)) (hS0.out.2.later hb3))
      have d1 := hS0.out.2
      rw [← hCSd.out] at d1
      obtain ⟨y0, y1, y2, y3, y4, y5, y6, y7, y8, y9, y10, y11, y12, yl⟩ := d1.req
      dsimp only at y0 y1 y2 y3 y4 y5 y6 y7 y8 y9 y10 y11 y12 yl
      clear z0 z1 z2 z3 z4 z5 z6 z7 z8 z9 z10 z11 z12 zl k20 hb3 d1
      cases g20 with
      | false =>
        have hfin := Lib.hid hS0.out.1
        go_wp2
        go_ret
        exact ⟨by rw [hsp]; rfl, hfin.out⟩
      | true =>
        go_wp2_with fail
        clear y0 y1 y2 y3 y4 y5 y6 y7 y8 y9 y10 y11 y12 yl
        go_loopw [18] (fun iv wr => ∃ i : Nat, i ≤ acs.length ∧ iv = .int .i64 i ∧ (∀ j (hj : j < acs.length), j < i → onlyA 2 acs[j] = true) ∧ Below w.heap.size w wr ∧ BoxAt wr w.heap.size CS) (fun iv _ => (acs.length - RowKit.intOf iv).toNat)
        case atStart => exact ⟨0, by omega, rfl, fun j hj h => by omega, hS0.out.1, hS0.out.2⟩
        case round =>
          clear hS0
          obtain ⟨i, hi, rfl, hne, hb, hbB⟩ := hrel
          by_cases hlt : i < acs.length
          · obtain ⟨g, off, hao, hg, hrg⟩ := (hrowacct.out wr hb).at hlt
            try dsimp only at hao
            subst hao
            have hix := Lib.hid (fun w => run_idx_acctW g off acs.length sAc i hlt w)
            have hltI : ((i : Nat) : Int) < ((acs.length : Nat) : Int) := by omega
            have hi4 := Lib.hid (show (Try.prog.info? 58).map (·.size) = some (Acct.cells acs[i]).length by kernel_rfl)
            have hi5 := Lib.hid (show (Try.prog.info? 58).map (·.size) = some (Acct.cells acs[i]).toArray.size by kernel_rfl)
            have hone := Lib.hid (all_oneCell_toArray (acctW.one acs[i]))
            have hcz : ∀ z : Array Value, z.size = 14 → z.size = (Acct.cells acs[i]).toArray.size := fun z h => h
            replace hcz := Lib.hid hcz
            have hnx := Lib.hid (fun (hq : onlyA 2 acs[i] = true) (j : Nat) (hj : j < acs.length) (hji : j < i + 1) => (show onlyA 2 acs[j] = true from by
              by_cases e : j = i
              · subst e; exact hq
              · exact hne j hj (by omega)))
            have hbad := Lib.hid (fun (hq : onlyA 2 acs[i] = false) => all_bad (f := onlyA 2) hlt hq)
            clear hne
            obtain ⟨W2, hW2⟩ : ∃ W2, W2 = wr.alloc (.cells (Acct.cells acs[i]).toArray 58) := ⟨_, rfl⟩
            have hb2 : Below wr.heap.size wr W2 := by rw [hW2]; exact (Below.refl _ _).alloc (Nat.le_refl _) _
            have hx := Lib.hid (show W2.rangeAt wr.heap.size 0 (Acct.cells acs[i]) by rw [hW2]; exact (BoxAt.new wr (Acct.cells acs[i]) _).range)
            have hc := refgood_acct acs[i] W2
            have hbe := hb.trans (hb2.mono hb.size)
            have hB2 := hbB.later hb2
            have d0 := hCS.out _ _ hB2
            have dl := hB2.lt
            have hS := Lib.hid (And.intro hbe hB2)
            replace hrg := Lib.hid hrg
            unfold acctV at hc
            replace hc := Lib.hid hc
            replace hW2 := Lib.hid hW2
            have hov := Lib.hid (fun h => onlyA_is (op := 2) h acs[i])
            have hon := Lib.hid (fun h => onlyA_not (op := 2) h acs[i])
            generalize Acct.cells acs[i] = X at *
            clear hb hb2 hbe hB2 hbB
            have hop : ¬ (2 : Int) = 1 := by decide
            have hnx1 := Lib.hid (hnx.out (hon.out hop))
            clear hnx hov hon hbad hc
            go_wp2_with (first
                      | (refine wpList_index_run rfl 22 (.tmp 16) (.tmp 18) rfl (.slice (some ⟨g, off, none⟩) acs.length sAc) (.int .i64 (i : Int)) _ rfl rfl (hix.out _) ?_)
                      | (refine wpList_load_midg rfl 58 (.tmp 20) rfl g (off + i * 14) rfl X _ hrg.out Try.underlying58 rfl hi4.out ?_)
                      | (refine wpList_store_new rfl 58 (.tmp 4) (.tmp 21) rfl wr _ X.toArray rfl rfl rfl hi5.out (hcz.out _ rfl) hone.out ?_; rw [← hW2.out])
                      | (refine wpList_load_midg rfl 58 (.tmp 4) rfl wr.heap.size 0 rfl X _ hx.out Try.underlying58 rfl hi4.out ?_))
            go_roundw
            case measure => simp [RowKit.intOf]; omega
            case rel => exact ⟨i + 1, by omega, by go_num, hnx1.out, hS.out.1, hS.out.2⟩
          · obtain rfl : i = acs.length := by omega
            have hracct := Lib.hid (all_good (f := onlyA 2) (l := acs) (fun j hj => hne j hj hj))
            clear hne hrowacct
            have dl := hbB.lt
            have d2 := hCT.out _ _ hbB
            have hS1 := Lib.hid (And.intro hb hbB)
            clear hb hbB
            go_wp2_with fail
            clear d2 dl
            go_loopw [34] (fun iv wr => ∃ i : Nat, i ≤ ts.length ∧ iv = .int .i64 i ∧ (∀ j (hj : j < ts.length), j < i → onlyT 2 ts[j] = true) ∧ Below w.heap.size w wr ∧ BoxAt wr w.heap.size CS) (fun iv _ => (ts.length - RowKit.intOf iv).toNat)
            case atStart => exact ⟨0, by omega, rfl, fun j hj h => by omega, hS1.out.1, hS1.out.2⟩
            case round =>
              clear hS1
              obtain ⟨i, hi, rfl, hne, hb, hbB⟩ := hrel
              by_cases hlt : i < ts.length
              · obtain ⟨g, off, hao, hg, hrg⟩ := (hrowtran.out wr hb).at hlt
                try dsimp only at hao
                subst hao
                have hix := Lib.hid (fun w => run_idx_tranW g off ts.length sTc i hlt w)
                have hltI : ((i : Nat) : Int) < ((ts.length : Nat) : Int) := by omega
                have hi4 := Lib.hid (show (Try.prog.info? 61).map (·.size) = some (Tran.cells ts[i]).length by kernel_rfl)
                have hi5 := Lib.hid (show (Try.prog.info? 61).map (·.size) = some (Tran.cells ts[i]).toArray.size by kernel_rfl)
                have hone := Lib.hid (all_oneCell_toArray (tranW.one ts[i]))
                have hcz : ∀ z : Array Value, z.size = 16 → z.size = (Tran.cells ts[i]).toArray.size := fun z h => h
                replace hcz := Lib.hid hcz
                have hnx := Lib.hid (fun (hq : onlyT 2 ts[i] = true) (j : Nat) (hj : j < ts.length) (hji : j < i + 1) => (show onlyT 2 ts[j] = true from by
                  by_cases e : j = i
                  · subst e; exact hq
                  · exact hne j hj (by omega)))
                have hbad := Lib.hid (fun (hq : onlyT 2 ts[i] = false) => all_bad (f := onlyT 2) hlt hq)
                clear hne
                obtain ⟨W2, hW2⟩ : ∃ W2, W2 = wr.alloc (.cells (Tran.cells ts[i]).toArray 61) := ⟨_, rfl⟩
                have hb2 : Below wr.heap.size wr W2 := by rw [hW2]; exact (Below.refl _ _).alloc (Nat.le_refl _) _
                have hx := Lib.hid (show W2.rangeAt wr.heap.size 0 (Tran.cells ts[i]) by rw [hW2]; exact (BoxAt.new wr (Tran.cells ts[i]) _).range)
                have hc := refgood_tran ts[i] W2
                have hbe := hb.trans (hb2.mono hb.size)
                have hB2 := hbB.later hb2
                have d0 := hCS.out _ _ hB2
                have dl := hB2.lt
                have hS := Lib.hid (And.intro hbe hB2)
                replace hrg := Lib.hid hrg
                unfold tranV at hc
                replace hc := Lib.hid hc
                replace hW2 := Lib.hid hW2
                have hov := Lib.hid (fun h => onlyT_is (op := 2) h ts[i])
                have hon := Lib.hid (fun h => onlyT_not (op := 2) h ts[i])
                generalize Tran.cells ts[i] = X at *
                clear hb hb2 hbe hB2 hbB
                replace hov := hov.out rfl
                cases hq : goodT ts[i] with
                | false =>
                  have hrr := Lib.hid (hbad.out (hov.trans hq))
                  clear hnx hov hon hbad
                  rw [hq] at hc
                  clear hq
                  go_wp2_with (first
                          | (refine wpList_index_run rfl 23 (.tmp 32) (.tmp 34) rfl (.slice (some ⟨g, off, none⟩) ts.length sTc) (.int .i64 (i : Int)) _ rfl rfl (hix.out _) ?_)
                          | (refine wpList_load_midg rfl 61 (.tmp 36) rfl g (off + i * 16) rfl X _ hrg.out Try.underlying61 rfl hi4.out ?_)
                          | (refine wpList_store_new rfl 61 (.tmp 6) (.tmp 37) rfl wr _ X.toArray rfl rfl rfl hi5.out (hcz.out _ rfl) hone.out ?_; rw [← hW2.out])
                          | (refine wpList_load_midg rfl 61 (.tmp 6) rfl wr.heap.size 0 rfl X _ hx.out Try.underlying61 rfl hi4.out ?_))
                  refine (hc.out).mono ?_
                  rintro e w3 ⟨rfl, hb3⟩
                  have hfin := Lib.hid (hS.out.1.trans (hb3.mono hS.out.1.size))
                  clear hb3 hc hx hrg d0 dl hS
                  go_wp2
                  go_ret
                  exact ⟨by rw [hsp, hrr.out]; simp, hfin.out⟩
                | true =>
                  have hnx1 := Lib.hid (hnx.out (hov.trans hq))
                  clear hnx hov hon hbad
                  rw [hq] at hc
                  clear hq
                  go_wp2_with (first
                          | (refine wpList_index_run rfl 23 (.tmp 32) (.tmp 34) rfl (.slice (some ⟨g, off, none⟩) ts.length sTc) (.int .i64 (i : Int)) _ rfl rfl (hix.out _) ?_)
                          | (refine wpList_load_midg rfl 61 (.tmp 36) rfl g (off + i * 16) rfl X _ hrg.out Try.underlying61 rfl hi4.out ?_)
                          | (refine wpList_store_new rfl 61 (.tmp 6) (.tmp 37) rfl wr _ X.toArray rfl rfl rfl hi5.out (hcz.out _ rfl) hone.out ?_; rw [← hW2.out])
                          | (refine wpList_load_midg rfl 61 (.tmp 6) rfl wr.heap.size 0 rfl X _ hx.out Try.underlying61 rfl hi4.out ?_))
                  refine (hc.out).mono ?_
                  rintro e w3 ⟨rfl, hb3⟩
                  have hfin := Lib.hid (And.intro (hS.out.1.trans (hb3.mono hS.out.1.size)) (hS.out.2.later hb3))
                  clear hb3 hc hx hrg d0 dl hS
                  go_wp2_with fail
                  go_roundw
                  case measure => simp [RowKit.intOf]; omega
                  case rel => exact ⟨i + 1, by omega, by go_num, hnx1.out, hfin.out.1, hfin.out.2⟩
              · obtain rfl : i = ts.length := by omega
                have hrtran := Lib.hid (all_good (f := onlyT 2) (l := ts) (fun j hj => hne j hj hj))
                clear hne hrowtran
                have dl := hbB.lt
                go_wp2
                go_ret
                exact ⟨by rw [hsp, hracct.out, hrtran.out]; rfl, hb⟩
  have m1 : decide (op = 1) = false := decide_eq_false n1
  have m2 : decide (op = 2) = false := decide_eq_false n2
  go_enter Try.func11, Try.ntmps11
  go_wp2_with fail
  refine (k19.out _).mono ?_
  rintro e w2 ⟨rfl, hb2⟩
  have hb0 := hbx.out.later hb2
  have hbe := (hz.out _ _).trans (hb2.mono (hz.out _ _).size)
  obtain ⟨z0, z1, z2, z3, z4, z5, z6, z7, z8, z9, z10, z11, z12, zl⟩ := hb0.req
  dsimp only at z0 z1 z2 z3 z4 z5 z6 z7 z8 z9 z10 z11 z12 zl
  generalize hCSd : (Req.cells ⟨op, acs, ts, now, ids, ⟨ac, fr, tt, db, cr, la, li⟩⟩ ⟨sA, sAc, sT, sTc, sI, sIc⟩) = CS at *
  replace hCSd := Lib.hid hCSd
  have hS0 := Lib.hid (And.intro hbe hb0)
  clear hb2 k19 hb0 hbx hbe
  cases g19 with
  | true =>
    go_wp2_with fail
    clear z0 z1 z2 z3 z4 z5 z6 z7 z8 z9 z10 z11 z12 zl k20
    go_loopw [18] (fun iv wr => ∃ i : Nat, i ≤ acs.length ∧ iv = .int .i64 i ∧ (∀ j (hj : j < acs.length), j < i → onlyA op acs[j] = true) ∧ Below w.heap.size w wr ∧ BoxAt wr w.heap.size CS) (fun iv _ => (acs.length - RowKit.intOf iv).toNat)
    case atStart => exact ⟨0, by omega, rfl, fun j hj h => by omega, hS0.out.1, hS0.out.2⟩
    case round =>
      clear hS0
      obtain ⟨i, hi, rfl, hne, hb, hbB⟩ := hrel
      by_cases hlt : i < acs.length
      · obtain ⟨g, off, hao, hg, hrg⟩ := (hrowacct.out wr hb).at hlt
        try dsimp only at hao
        subst hao
        have hix := Lib.hid (fun w => run_idx_acctW g off acs.length sAc i hlt w)
        have hltI : ((i : Nat) : Int) < ((acs.length : Nat) : Int) := by omega
        have hi4 := Lib.hid (show (Try.prog.info? 58).map (·.size) = some (Acct.cells acs[i]).length by kernel_rfl)
        have hi5 := Lib.hid (show (Try.prog.info? 58).map (·.size) = some (Acct.cells acs[i]).toArray.size by kernel_rfl)
        have hone := Lib.hid (all_oneCell_toArray (acctW.one acs[i]))
        have hcz : ∀ z : Array Value, z.size = 14 → z.size = (Acct.cells acs[i]).toArray.size := fun z h => h
        replace hcz := Lib.hid hcz
        have hnx := Lib.hid (fun (hq : onlyA op acs[i] = true) (j : Nat) (hj : j < acs.length) (hji : j < i + 1) => (show onlyA op acs[j] = true from by
          by_cases e : j = i
          · subst e; exact hq
          · exact hne j hj (by omega)))
        have hbad := Lib.hid (fun (hq : onlyA op acs[i] = false) => all_bad (f := onlyA op) hlt hq)
        clear hne
        obtain ⟨W2, hW2⟩ : ∃ W2, W2 = wr.alloc (.cells (Acct.cells acs[i]).toArray 58) := ⟨_, rfl⟩
        have hb2 : Below wr.heap.size wr W2 := by rw [hW2]; exact (Below.refl _ _).alloc (Nat.le_refl _) _
        have hx := Lib.hid (show W2.rangeAt wr.heap.size 0 (Acct.cells acs[i]) by rw [hW2]; exact (BoxAt.new wr (Acct.cells acs[i]) _).range)
        have hc := refgood_acct acs[i] W2
        have hbe := hb.trans (hb2.mono hb.size)
        have hB2 := hbB.later hb2
        have d0 := hCS.out _ _ hB2
        have dl := hB2.lt
        have hS := Lib.hid (And.intro hbe hB2)
        replace hrg := Lib.hid hrg
        unfold acctV at hc
        replace hc := Lib.hid hc
        replace hW2 := Lib.hid hW2
        have hov := Lib.hid (fun h => onlyA_is (op := op) h acs[i])
        have hon := Lib.hid (fun h => onlyA_not (op := op) h acs[i])
        generalize Acct.cells acs[i] = X at *
        clear hb hb2 hbe hB2 hbB
        have hop : ¬ (op : Int) = 1 := n1
        have hnx1 := Lib.hid (hnx.out (hon.out hop))
        clear hnx hov hon hbad hc
        go_wp2_with (first
                  | (refine wpList_index_run rfl 22 (.tmp 16) (.tmp 18) rfl (.slice (some ⟨g, off, none⟩) acs.length sAc) (.int .i64 (i : Int)) _ rfl rfl (hix.out _) ?_)
                  | (refine wpList_load_midg rfl 58 (.tmp 20) rfl g (off + i * 14) rfl X _ hrg.out Try.underlying58 rfl hi4.out ?_)
                  | (refine wpList_store_new rfl 58 (.tmp 4) (.tmp 21) rfl wr _ X.toArray rfl rfl rfl hi5.out (hcz.out _ rfl) hone.out ?_; rw [← hW2.out])
                  | (refine wpList_load_midg rfl 58 (.tmp 4) rfl wr.heap.size 0 rfl X _ hx.out Try.underlying58 rfl hi4.out ?_))
        go_roundw
        case measure => simp [RowKit.intOf]; omega
        case rel => exact ⟨i + 1, by omega, by go_num, hnx1.out, hS.out.1, hS.out.2⟩
      · obtain rfl : i = acs.length := by omega
        have hracct := Lib.hid (all_good (f := onlyA op) (l := acs) (fun j hj => hne j hj hj))
        clear hne hrowacct
        have dl := hbB.lt
        have d2 := hCT.out _ _ hbB
        have hS1 := Lib.hid (And.intro hb hbB)
        clear hb hbB
        go_wp2_with fail
        clear d2 dl
        go_loopw [34] (fun iv wr => ∃ i : Nat, i ≤ ts.length ∧ iv = .int .i64 i ∧ (∀ j (hj : j < ts.length), j < i → onlyT op ts[j] = true) ∧ Below w.heap.size w wr ∧ BoxAt wr w.heap.size CS) (fun iv _ => (ts.length - RowKit.intOf iv).toNat)
        case atStart => exact ⟨0, by omega, rfl, fun j hj h => by omega, hS1.out.1, hS1.out.2⟩
        case round =>
          clear hS1
          obtain ⟨i, hi, rfl, hne, hb, hbB⟩ := hrel
          by_cases hlt : i < ts.length
          · obtain ⟨g, off, hao, hg, hrg⟩ := (hrowtran.out wr hb).at hlt
            try dsimp only at hao
            subst hao
            have hix := Lib.hid (fun w => run_idx_tranW g off ts.length sTc i hlt w)
            have hltI : ((i : Nat) : Int) < ((ts.length : Nat) : Int) := by omega
            have hi4 := Lib.hid (show (Try.prog.info? 61).map (·.size) = some (Tran.cells ts[i]).length by kernel_rfl)
            have hi5 := Lib.hid (show (Try.prog.info? 61).map (·.size) = some (Tran.cells ts[i]).toArray.size by kernel_rfl)
            have hone := Lib.hid (all_oneCell_toArray (tranW.one ts[i]))
            have hcz : ∀ z : Array Value, z.size = 16 → z.size = (Tran.cells ts[i]).toArray.size := fun z h => h
            replace hcz := Lib.hid hcz
            have hnx := Lib.hid (fun (hq : onlyT op ts[i] = true) (j : Nat) (hj : j < ts.length) (hji : j < i + 1) => (show onlyT op ts[j] = true from by
              by_cases e : j = i
              · subst e; exact hq
              · exact hne j hj (by omega)))
            have hbad := Lib.hid (fun (hq : onlyT op ts[i] = false) => all_bad (f := onlyT op) hlt hq)
            clear hne
            obtain ⟨W2, hW2⟩ : ∃ W2, W2 = wr.alloc (.cells (Tran.cells ts[i]).toArray 61) := ⟨_, rfl⟩
            have hb2 : Below wr.heap.size wr W2 := by rw [hW2]; exact (Below.refl _ _).alloc (Nat.le_refl _) _
            have hx := Lib.hid (show W2.rangeAt wr.heap.size 0 (Tran.cells ts[i]) by rw [hW2]; exact (BoxAt.new wr (Tran.cells ts[i]) _).range)
            have hc := refgood_tran ts[i] W2
            have hbe := hb.trans (hb2.mono hb.size)
            have hB2 := hbB.later hb2
            have d0 := hCS.out _ _ hB2
            have dl := hB2.lt
            have hS := Lib.hid (And.intro hbe hB2)
            replace hrg := Lib.hid hrg
            unfold tranV at hc
            replace hc := Lib.hid hc
            replace hW2 := Lib.hid hW2
            have hov := Lib.hid (fun h => onlyT_is (op := op) h ts[i])
            have hon := Lib.hid (fun h => onlyT_not (op := op) h ts[i])
            generalize Tran.cells ts[i] = X at *
            clear hb hb2 hbe hB2 hbB
            have hop : ¬ (op : Int) = 2 := n2
            have hnx1 := Lib.hid (hnx.out (hon.out hop))
            clear hnx hov hon hbad hc
            go_wp2_with (first
                      | (refine wpList_index_run rfl 23 (.tmp 32) (.tmp 34) rfl (.slice (some ⟨g, off, none⟩) ts.length sTc) (.int .i64 (i : Int)) _ rfl rfl (hix.out _) ?_)
                      | (refine wpList_load_midg rfl 61 (.tmp 36) rfl g (off + i * 16) rfl X _ hrg.out Try.underlying61 rfl hi4.out ?_)
                      | (refine wpList_store_new rfl 61 (.tmp 6) (.tmp 37) rfl wr _ X.toArray rfl rfl rfl hi5.out (hcz.out _ rfl) hone.out ?_; rw [← hW2.out])
                      | (refine wpList_load_midg rfl 61 (.tmp 6) rfl wr.heap.size 0 rfl X _ hx.out Try.underlying61 rfl hi4.out ?_))
            go_roundw
            case measure => simp [RowKit.intOf]; omega
            case rel => exact ⟨i + 1, by omega, by go_num, hnx1.out, hS.out.1, hS.out.2⟩
          · obtain rfl : i = ts.length := by omega
            have hrtran := Lib.hid (all_good (f := onlyT op) (l := ts) (fun j hj => hne j hj hj))
            clear hne hrowtran
            have dl := hbB.lt
            go_wp2
            go_ret
            exact ⟨by rw [hsp, hracct.out, hrtran.out]; rfl, hb⟩
  | false =>
    go_wp2_with fail
    refine (k20.out _).mono ?_
    rintro e w3 ⟨rfl, hb3⟩
    replace hS0 := Lib.hid (And.intro (hS0.out.1.trans (hb3.mono hS0.out.1.size)) (hS0.out.2.later hb3))
    have d1 := hS0.out.2
    rw [← hCSd.out] at d1
    obtain ⟨y0, y1, y2, y3, y4, y5, y6, y7, y8, y9, y10, y11, y12, yl⟩ := d1.req
    dsimp only at y0 y1 y2 y3 y4 y5 y6 y7 y8 y9 y10 y11 y12 yl
    clear z0 z1 z2 z3 z4 z5 z6 z7 z8 z9 z10 z11 z12 zl k20 hb3 d1
    cases g20 with
    | false =>
      have hfin := Lib.hid hS0.out.1
      go_wp2
      go_ret
      exact ⟨by rw [hsp]; rfl, hfin.out⟩
    | true =>
      go_wp2_with fail
      clear y0 y1 y2 y3 y4 y5 y6 y7 y8 y9 y10 y11 y12 yl
      go_loopw [18] (fun iv wr => ∃ i : Nat, i ≤ acs.length ∧ iv = .int .i64 i ∧ (∀ j (hj : j < acs.length), j < i → onlyA op acs[j] = true) ∧ Below w.heap.size w wr ∧ BoxAt wr w.heap.size CS) (fun iv _ => (acs.length - RowKit.intOf iv).toNat)
      case atStart => exact ⟨0, by omega, rfl, fun j hj h => by omega, hS0.out.1, hS0.out.2⟩
      case round =>
        clear hS0
        obtain ⟨i, hi, rfl, hne, hb, hbB⟩ := hrel
        by_cases hlt : i < acs.length
        · obtain ⟨g, off, hao, hg, hrg⟩ := (hrowacct.out wr hb).at hlt
          try dsimp only at hao
          subst hao
          have hix := Lib.hid (fun w => run_idx_acctW g off acs.length sAc i hlt w)
          have hltI : ((i : Nat) : Int) < ((acs.length : Nat) : Int) := by omega
          have hi4 := Lib.hid (show (Try.prog.info? 58).map (·.size) = some (Acct.cells acs[i]).length by kernel_rfl)
          have hi5 := Lib.hid (show (Try.prog.info? 58).map (·.size) = some (Acct.cells acs[i]).toArray.size by kernel_rfl)
          have hone := Lib.hid (all_oneCell_toArray (acctW.one acs[i]))
          have hcz : ∀ z : Array Value, z.size = 14 → z.size = (Acct.cells acs[i]).toArray.size := fun z h => h
          replace hcz := Lib.hid hcz
          have hnx := Lib.hid (fun (hq : onlyA op acs[i] = true) (j : Nat) (hj : j < acs.length) (hji : j < i + 1) => (show onlyA op acs[j] = true from by
            by_cases e : j = i
            · subst e; exact hq
            · exact hne j hj (by omega)))
          have hbad := Lib.hid (fun (hq : onlyA op acs[i] = false) => all_bad (f := onlyA op) hlt hq)
          clear hne
          obtain ⟨W2, hW2⟩ : ∃ W2, W2 = wr.alloc (.cells (Acct.cells acs[i]).toArray 58) := ⟨_, rfl⟩
          have hb2 : Below wr.heap.size wr W2 := by rw [hW2]; exact (Below.refl _ _).alloc (Nat.le_refl _) _
          have hx := Lib.hid (show W2.rangeAt wr.heap.size 0 (Acct.cells acs[i]) by rw [hW2]; exact (BoxAt.new wr (Acct.cells acs[i]) _).range)
          have hc := refgood_acct acs[i] W2
          have hbe := hb.trans (hb2.mono hb.size)
          have hB2 := hbB.later hb2
          have d0 := hCS.out _ _ hB2
          have dl := hB2.lt
          have hS := Lib.hid (And.intro hbe hB2)
          replace hrg := Lib.hid hrg
          unfold acctV at hc
          replace hc := Lib.hid hc
          replace hW2 := Lib.hid hW2
          have hov := Lib.hid (fun h => onlyA_is (op := op) h acs[i])
          have hon := Lib.hid (fun h => onlyA_not (op := op) h acs[i])
          generalize Acct.cells acs[i] = X at *
          clear hb hb2 hbe hB2 hbB
          have hop : ¬ (op : Int) = 1 := n1
          have hnx1 := Lib.hid (hnx.out (hon.out hop))
          clear hnx hov hon hbad hc
          go_wp2_with (first
                    | (refine wpList_index_run rfl 22 (.tmp 16) (.tmp 18) rfl (.slice (some ⟨g, off, none⟩) acs.length sAc) (.int .i64 (i : Int)) _ rfl rfl (hix.out _) ?_)
                    | (refine wpList_load_midg rfl 58 (.tmp 20) rfl g (off + i * 14) rfl X _ hrg.out Try.underlying58 rfl hi4.out ?_)
                    | (refine wpList_store_new rfl 58 (.tmp 4) (.tmp 21) rfl wr _ X.toArray rfl rfl rfl hi5.out (hcz.out _ rfl) hone.out ?_; rw [← hW2.out])
                    | (refine wpList_load_midg rfl 58 (.tmp 4) rfl wr.heap.size 0 rfl X _ hx.out Try.underlying58 rfl hi4.out ?_))
          go_roundw
          case measure => simp [RowKit.intOf]; omega
          case rel => exact ⟨i + 1, by omega, by go_num, hnx1.out, hS.out.1, hS.out.2⟩
        · obtain rfl : i = acs.length := by omega
          have hracct := Lib.hid (all_good (f := onlyA op) (l := acs) (fun j hj => hne j hj hj))
          clear hne hrowacct
          have dl := hbB.lt
          have d2 := hCT.out _ _ hbB
          have hS1 := Lib.hid (And.intro hb hbB)
          clear hb hbB
          go_wp2_with fail
          clear d2 dl
          go_loopw [34] (fun iv wr => ∃ i : Nat, i ≤ ts.length ∧ iv = .int .i64 i ∧ (∀ j (hj : j < ts.length), j < i → onlyT op ts[j] = true) ∧ Below w.heap.size w wr ∧ BoxAt wr w.heap.size CS) (fun iv _ => (ts.length - RowKit.intOf iv).toNat)
          case atStart => exact ⟨0, by omega, rfl, fun j hj h => by omega, hS1.out.1, hS1.out.2⟩
          case round =>
            clear hS1
            obtain ⟨i, hi, rfl, hne, hb, hbB⟩ := hrel
            by_cases hlt : i < ts.length
            · obtain ⟨g, off, hao, hg, hrg⟩ := (hrowtran.out wr hb).at hlt
              try dsimp only at hao
              subst hao
              have hix := Lib.hid (fun w => run_idx_tranW g off ts.length sTc i hlt w)
              have hltI : ((i : Nat) : Int) < ((ts.length : Nat) : Int) := by omega
              have hi4 := Lib.hid (show (Try.prog.info? 61).map (·.size) = some (Tran.cells ts[i]).length by kernel_rfl)
              have hi5 := Lib.hid (show (Try.prog.info? 61).map (·.size) = some (Tran.cells ts[i]).toArray.size by kernel_rfl)
              have hone := Lib.hid (all_oneCell_toArray (tranW.one ts[i]))
              have hcz : ∀ z : Array Value, z.size = 16 → z.size = (Tran.cells ts[i]).toArray.size := fun z h => h
              replace hcz := Lib.hid hcz
              have hnx := Lib.hid (fun (hq : onlyT op ts[i] = true) (j : Nat) (hj : j < ts.length) (hji : j < i + 1) => (show onlyT op ts[j] = true from by
                by_cases e : j = i
                · subst e; exact hq
                · exact hne j hj (by omega)))
              have hbad := Lib.hid (fun (hq : onlyT op ts[i] = false) => all_bad (f := onlyT op) hlt hq)
              clear hne
              obtain ⟨W2, hW2⟩ : ∃ W2, W2 = wr.alloc (.cells (Tran.cells ts[i]).toArray 61) := ⟨_, rfl⟩
              have hb2 : Below wr.heap.size wr W2 := by rw [hW2]; exact (Below.refl _ _).alloc (Nat.le_refl _) _
              have hx := Lib.hid (show W2.rangeAt wr.heap.size 0 (Tran.cells ts[i]) by rw [hW2]; exact (BoxAt.new wr (Tran.cells ts[i]) _).range)
              have hc := refgood_tran ts[i] W2
              have hbe := hb.trans (hb2.mono hb.size)
              have hB2 := hbB.later hb2
              have d0 := hCS.out _ _ hB2
              have dl := hB2.lt
              have hS := Lib.hid (And.intro hbe hB2)
              replace hrg := Lib.hid hrg
              unfold tranV at hc
              replace hc := Lib.hid hc
              replace hW2 := Lib.hid hW2
              have hov := Lib.hid (fun h => onlyT_is (op := op) h ts[i])
              have hon := Lib.hid (fun h => onlyT_not (op := op) h ts[i])
              generalize Tran.cells ts[i] = X at *
              clear hb hb2 hbe hB2 hbB
              have hop : ¬ (op : Int) = 2 := n2
              have hnx1 := Lib.hid (hnx.out (hon.out hop))
              clear hnx hov hon hbad hc
              go_wp2_with (first
                        | (refine wpList_index_run rfl 23 (.tmp 32) (.tmp 34) rfl (.slice (some ⟨g, off, none⟩) ts.length sTc) (.int .i64 (i : Int)) _ rfl rfl (hix.out _) ?_)
                        | (refine wpList_load_midg rfl 61 (.tmp 36) rfl g (off + i * 16) rfl X _ hrg.out Try.underlying61 rfl hi4.out ?_)
                        | (refine wpList_store_new rfl 61 (.tmp 6) (.tmp 37) rfl wr _ X.toArray rfl rfl rfl hi5.out (hcz.out _ rfl) hone.out ?_; rw [← hW2.out])
                        | (refine wpList_load_midg rfl 61 (.tmp 6) rfl wr.heap.size 0 rfl X _ hx.out Try.underlying61 rfl hi4.out ?_))
              go_roundw
              case measure => simp [RowKit.intOf]; omega
              case rel => exact ⟨i + 1, by omega, by go_num, hnx1.out, hS.out.1, hS.out.2⟩
            · obtain rfl : i = ts.length := by omega
              have hrtran := Lib.hid (all_good (f := onlyT op) (l := ts) (fun j hj => hne j hj hj))
              clear hne hrowtran
              have dl := hbB.lt
              go_wp2
              go_ret
              exact ⟨by rw [hsp, hracct.out, hrtran.out]; rfl, hb⟩
end Go.Proofs.Ytcailaeebheaoaa
