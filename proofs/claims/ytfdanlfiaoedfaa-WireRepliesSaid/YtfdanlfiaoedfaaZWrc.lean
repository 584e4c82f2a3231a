/- Stage 22, landed: a filter and a request are taken. No condition but sizes. -/
/- Stage 22, landed: a reply's bytes, of whatever reply. No condition but sizes. -/
import Derived.Test.YtfdanlfiaoedfaaZWqm
import Derived.Test.YtfdanlfiaoedfaaZWrb
namespace Go.Proofs.Ytfdanlfiaoedfaa
open Go.RowKit Go.Sort Wm Cr

theorem RowAt.owns {α : Type} {cs : α → List Value} {K : Nat} {W : World} {ao : Option Addr} {l : List α} {c : Nat} {e : TypeId} (hK : CellsK cs K) (h : W.ownsRow 0 e K (.slice ao l.length c) l.length (rowK cs l)) : RowAt cs K W ao l := by
  obtain ⟨ao', c', e, h'⟩ := RowAt.own hK h
  injection e with e1 _ _
  rw [e1]
  exact h'
theorem box_there {W : World} {b : Nat} {cs : List Value} (h : BoxAt W b cs) (hf : ∀ j, W.frozen? ⟨b, j, none⟩ = false) : W.there b 0 cs.length := fun j hj => by
  rw [Nat.zero_add]
  exact ⟨by rw [h.spot j _ (List.getElem?_eq_getElem hj)]; rfl, hf j⟩
theorem Held.put1 {w W : World} {b j : Nat} {cs : List Value} {R : Asr} (L : IsAsr R) (h : Held w W (star (boxA b cs) R)) (hj : j < cs.length) (v : Value) : Held w (W.setCell ⟨b, j, none⟩ v) (star (boxA b (cs.set j v)) R) := by
  refine h.step (isAsr_box _ _) L (fun F hF => ?_)
  obtain ⟨h1, h2, -⟩ := id hF
  have hc := h1.spot j _ (List.getElem?_eq_getElem hj)
  refine postA_box hF ⟨fun i u hi => ?_, by simpa using h1.lt⟩ (fun i => by simpa using h2 i) ((Only.refl (fun k => k = b) W).setCell (p := ⟨b, j, none⟩) (fun _ => rfl) v)
  rw [cell_putR hc]
  by_cases e : i = j
  · subst e
    rw [if_pos rfl]
    rw [List.getElem?_set_self hj] at hi
    exact hi
  · rw [if_neg e]
    rw [List.getElem?_set_ne (fun x => e x.symm)] at hi
    exact h1.spot i u hi
/-- A box whose cells are all written anew. -/
theorem Held.fill {w wr : World} {B : Asr} {b : Nat} {cs vs : List Value} (L : IsAsr B) (h : Held w wr (star (boxA b cs) B)) (hl : vs.length = cs.length) : Held w (wr.setCells b 0 vs) (star (boxA b vs) B) :=
  Held.step (isAsr_box _ _) L h (fun F hF => by
    obtain ⟨a, f, o⟩ := boxAt_setCells hF.1 hF.2.1 hl
    exact postA_box hF a f o)
/-- A request's rows. -/
def rowsA (q : Req) (s : Reqs) : Asr := fun F W => ReqAt W q s ∧ ((∀ a, s.Accounts = some a → q.Accounts ≠ [] → F a.block) ∧ (∀ a, s.Transfers = some a → q.Transfers ≠ [] → F a.block) ∧ ∀ a, s.Ids = some a → q.Ids ≠ [] → F a.block) ∧ ∀ k, F k → k < W.heap.size
theorem RowAt.only {α : Type} {cs : α → List Value} {K : Nat} {F G : Nat → Prop} {w w2 : World} {ao : Option Addr} {l : List α} (h : RowAt cs K w ao l) (hF : ∀ a, ao = some a → l ≠ [] → F a.block) (hO : Only G w w2) (hG : ∀ k, F k → ¬ G k) : RowAt cs K w2 ao l :=
  ⟨fun k hk => by
    obtain ⟨b, off, e, hlt, hc⟩ := h.spot k hk
    have hb : ¬ G b := hG b (hF ⟨b, off, none⟩ e (fun z => by rw [z] at hk; cases hk))
    exact ⟨b, off, e, Nat.lt_of_lt_of_le hlt hO.size, fun j v hj => by rw [hO.cell (p := ⟨b, off + k * K + j, none⟩) hlt hb]; exact hc j v hj⟩⟩
theorem isAsr_rows (q : Req) (s : Reqs) : IsAsr (rowsA q s) where
  near := fun _ _ h => h.2.2
  keep := fun _ _ _ _ h hO hG => ⟨⟨h.1.Accounts.only h.2.1.1 hO hG, h.1.Accountsl, h.1.Transfers.only h.2.1.2.1 hO hG, h.1.Transfersl, h.1.Ids.only h.2.1.2.2 hO hG, h.1.Idsl⟩, h.2.1, fun k hk => Nat.lt_of_lt_of_le (h.2.2 k hk) hO.size⟩
theorem Held.rowsNil {w wr : World} {B : Asr} {q : Req} {s : Reqs} (L : IsAsr B) (h : Held w wr B) (h1 : q.Accounts = []) (h2 : q.Transfers = []) (h3 : q.Ids = []) : Held w wr (star (rowsA q s) B) :=
  h.more L (Below.refl _ _) ⟨fun _ => False, ⟨⟨by rw [h1]; exact RowAt.nil, by rw [h1]; exact Nat.zero_le _, by rw [h2]; exact RowAt.nil, by rw [h2]; exact Nat.zero_le _, by rw [h3]; exact RowAt.nil, by rw [h3]; exact Nat.zero_le _⟩, ⟨fun _ _ e => (e h1).elim, fun _ _ e => (e h2).elim, fun _ _ e => (e h3).elim⟩, fun _ e => e.elim⟩, fun _ e => e.elim⟩
section
variable {sao : Option Addr} {sc : Nat}
theorem own_at {ao : Option Addr} {a : Addr} {n c : Nat} (e : ao = some a) : (Value.slice ao n c).ownBlock = some a.block := by subst e; rfl
theorem rows_acct (op : Int) {l : List Acct} (hln : l.length ≤ 140737488351232) (F : Nat → Prop) (W : World) (h : rowA 58 14 (.slice sao l.length sc) l.length (rowK Acct.cells l) F W) : rowsA ⟨op, l, [], 0, [], zeroF⟩ ⟨sao, sc, none, 0, none, 0⟩ F W :=
  ⟨⟨RowAt.owns acctW h.1, hln, RowAt.nil, Nat.zero_le _, RowAt.nil, Nat.zero_le _⟩, ⟨fun a e _ => (h.2 _).2 (own_at (ao := sao) e), fun _ e => (by cases e), fun _ e => (by cases e)⟩, fun k hk => (h.1.lt k ((h.2 k).1 hk)).2⟩
theorem rows_tran (op : Int) {l : List Tran} (hln : l.length ≤ 140737488351232) (F : Nat → Prop) (W : World) (h : rowA 61 16 (.slice sao l.length sc) l.length (rowK Tran.cells l) F W) : rowsA ⟨op, [], l, 0, [], zeroF⟩ ⟨none, 0, sao, sc, none, 0⟩ F W :=
  ⟨⟨RowAt.nil, Nat.zero_le _, RowAt.owns tranW h.1, hln, RowAt.nil, Nat.zero_le _⟩, ⟨fun _ e => (by cases e), fun a e _ => (h.2 _).2 (own_at (ao := sao) e), fun _ e => (by cases e)⟩, fun k hk => (h.1.lt k ((h.2 k).1 hk)).2⟩
theorem rows_idn (op : Int) {l : List Idn} (hln : l.length ≤ 140737488351232) (F : Nat → Prop) (W : World) (h : rowA 27 2 (.slice sao l.length sc) l.length (rowK Idn.cells l) F W) : rowsA ⟨op, [], [], 0, l, zeroF⟩ ⟨none, 0, none, 0, sao, sc⟩ F W :=
  ⟨⟨RowAt.nil, Nat.zero_le _, RowAt.nil, Nat.zero_le _, RowAt.owns idnW h.1, hln⟩, ⟨fun _ e => (by cases e), fun _ e => (by cases e), fun a e _ => (h.2 _).2 (own_at (ao := sao) e)⟩, fun k hk => (h.1.lt k ((h.2 k).1 hk)).2⟩
end
theorem box_thereAt {W : World} {b o n : Nat} {cs : List Value} (h : BoxAt W b cs) (hf : ∀ j, W.frozen? ⟨b, j, none⟩ = false) (hn : o + n ≤ cs.length) : W.there b o n := fun j hj => by
  exact ⟨by rw [h.spot (o + j) _ (List.getElem?_eq_getElem (by omega))]; rfl, hf _⟩
theorem Held.fillAt {w : World} {B : Asr} {b : Nat} (L : IsAsr B) : ∀ (vs : List Value) (o : Nat) {wr : World} {cs : List Value}, Held w wr (star (boxA b cs) B) → o + vs.length ≤ cs.length → Held w (wr.setCells b o vs) (star (boxA b (setMany cs o vs)) B)
  | [], _, _, _, h, _ => h
  | v :: r, o, _, _, h, ho => by
    rw [List.length_cons] at ho
    exact Held.fillAt L r (o + 1) (Held.put1 L h (by omega) v) (by rw [List.length_set]; omega)
section
variable {w W : World} {R : Asr} {p : Nat} {st : Option ByteArray}
set_option maxRecDepth 100000 in
set_option maxHeartbeats 4000000 in
theorem getFilter_h (L : IsAsr R) (h : Held w W (star (objA RdIs p st) R)) :
    Calls Try.prog 66 #[.pointer (some ⟨p, 0, none⟩)] W fun e w2 => e = .returned (.agg (fltV st).cells.toArray) ∧ Held w w2 (star (objA RdIs p (fltR st)) R) := by
  have h1 := (h.box ((isAsr_rd _ _).star L) [.int .u64 0, .int .u64 0, .int .i64 0, .int .i64 0, .bool false, .bool false, .bool false, .int .i64 0] 29).pull
  have LB : IsAsr (star (boxA W.heap.size [.int .u64 0, .int .u64 0, .int .i64 0, .int .i64 0, .bool false, .bool false, .bool false, .int .i64 0]) R) := (isAsr_box _ _).star L
  have k0 := Lib.hid (fun wx (hX : Held w wx (star (objA RdIs p (st)) (star (boxA W.heap.size [.int .u64 0, .int .u64 0, .int .i64 0, .int .i64 0, .bool false, .bool false, .bool false, .int .i64 0]) R))) => rNum_h LB hX)
  have k1 := Lib.hid (fun wx (hX : Held w wx (star (objA RdIs p (intR 16 (st))) (star (boxA W.heap.size [.int .u64 0, .int .u64 0, .int .i64 0, .int .i64 0, .bool false, .bool false, .bool false, .int .i64 0]) R))) => rInt_h LB hX 8 8 rfl)
  have k2 := Lib.hid (fun wx (hX : Held w wx (star (objA RdIs p (intR 8 (intR 16 (st)))) (star (boxA W.heap.size [.int .u64 0, .int .u64 0, .int .i64 0, .int .i64 0, .bool false, .bool false, .bool false, .int .i64 0]) R))) => rInt_h LB hX 8 8 rfl)
  have k3 := Lib.hid (fun wx (hX : Held w wx (star (objA RdIs p (intR 8 (intR 8 (intR 16 (st))))) (star (boxA W.heap.size [.int .u64 0, .int .u64 0, .int .i64 0, .int .i64 0, .bool false, .bool false, .bool false, .int .i64 0]) R))) => rFlag_h LB hX)
  have k4 := Lib.hid (fun wx (hX : Held w wx (star (objA RdIs p (flagNext (intR 8 (intR 8 (intR 16 (st)))))) (star (boxA W.heap.size [.int .u64 0, .int .u64 0, .int .i64 0, .int .i64 0, .bool false, .bool false, .bool false, .int .i64 0]) R))) => rFlag_h LB hX)
  have k5 := Lib.hid (fun wx (hX : Held w wx (star (objA RdIs p (flagNext (flagNext (intR 8 (intR 8 (intR 16 (st))))))) (star (boxA W.heap.size [.int .u64 0, .int .u64 0, .int .i64 0, .int .i64 0, .bool false, .bool false, .bool false, .int .i64 0]) R))) => rFlag_h LB hX)
  have k6 := Lib.hid (fun wx (hX : Held w wx (star (objA RdIs p (flagNext (flagNext (flagNext (intR 8 (intR 8 (intR 16 (st)))))))) (star (boxA W.heap.size [.int .u64 0, .int .u64 0, .int .i64 0, .int .i64 0, .bool false, .bool false, .bool false, .int .i64 0]) R))) => rInt_h LB hX 1 1 rfl)
  unfold fltV fltR Flt.cells
  dsimp only
  unfold numV at k0
  generalize intR 1 (flagNext (flagNext (flagNext (intR 8 (intR 8 (intR 16 (st))))))) = s7 at *
  generalize flagNext (flagNext (flagNext (intR 8 (intR 8 (intR 16 (st)))))) = s6 at *
  generalize flagNext (flagNext (intR 8 (intR 8 (intR 16 (st))))) = s5 at *
  generalize flagNext (intR 8 (intR 8 (intR 16 (st)))) = s4 at *
  generalize intR 8 (intR 8 (intR 16 (st))) = s3 at *
  generalize intR 8 (intR 16 (st)) = s2 at *
  generalize intR 16 (st) = s1 at *
  replace h1 := Lib.hid h1
  go_enter Try.func66, Try.ntmps66
  go_wp2_with fail
  refine (k0.out _ h1.out).mono ?_
  rintro e w2 ⟨rfl, h2⟩
  replace h2 := Lib.hid h2
  clear h1 k0
  go_wp2_with fail
  refine (k1.out _ h2.out).mono ?_
  rintro e w3 ⟨rfl, h3⟩
  replace h3 := Lib.hid h3
  clear h2 k1
  go_wp2_with fail
  refine (k2.out _ h3.out).mono ?_
  rintro e w4 ⟨rfl, h4⟩
  replace h4 := Lib.hid h4
  clear h3 k2
  go_wp2_with fail
  refine (k3.out _ h4.out).mono ?_
  rintro e w5 ⟨rfl, h5⟩
  replace h5 := Lib.hid h5
  clear h4 k3
  go_wp2_with fail
  refine (k4.out _ h5.out).mono ?_
  rintro e w6 ⟨rfl, h6⟩
  replace h6 := Lib.hid h6
  clear h5 k4
  go_wp2_with fail
  refine (k5.out _ h6.out).mono ?_
  rintro e w7 ⟨rfl, h7⟩
  replace h7 := Lib.hid h7
  clear h6 k5
  go_wp2_with fail
  refine (k6.out _ h7.out).mono ?_
  rintro e w8 ⟨rfl, h8⟩
  replace h8 := Lib.hid h8
  clear h7 k6
  have h9 := (h8.out.pull.fill ((isAsr_rd _ _).star L) (vs := (#[.int .u64 ((hiN (numT st) : Nat) : Int), .int .u64 ((loN (numT st) : Nat) : Int), .int .i64 (intT 8 s1), .int .i64 (intT 8 s2), .bool (flagYes s3), .bool (flagYes s4), .bool (flagYes s5), .int .i64 (intT 1 s6)] : Array Value).toList) rfl)
  have hth := Lib.hid (box_there h8.out.pull.boxAt.1 h8.out.pull.boxAt.2.1)
  obtain ⟨w9, hw9⟩ : ∃ w9, w9 = w8.setCells W.heap.size 0 (#[.int .u64 ((hiN (numT st) : Nat) : Int), .int .u64 ((loN (numT st) : Nat) : Int), .int .i64 (intT 8 s1), .int .i64 (intT 8 s2), .bool (flagYes s3), .bool (flagYes s4), .bool (flagYes s5), .int .i64 (intT 1 s6)] : Array Value).toList := ⟨_, rfl⟩
  rw [← hw9] at h9
  replace h9 := Lib.hid h9
  replace hw9 := Lib.hid hw9
  clear h8
  go_wp2_with (refine wpList_store_mid rfl 29 _ _ rfl W.heap.size 0 _ rfl rfl hth.out (by kernel_rfl) (by kernel_rfl) ?_; rw [← hw9.out])
  have hb := h9.out.boxAt.1
  have c0 := hb.spot 0 _ rfl; have c1 := hb.spot 1 _ rfl; have c2 := hb.spot 2 _ rfl; have c3 := hb.spot 3 _ rfl; have c4 := hb.spot 4 _ rfl; have c5 := hb.spot 5 _ rfl; have c6 := hb.spot 6 _ rfl; have c7 := hb.spot 7 _ rfl
  refine bodyPost_ret (v := .agg (#[.int .u64 ((hiN (numT st) : Nat) : Int), .int .u64 ((loN (numT st) : Nat) : Int), .int .i64 (intT 8 s1), .int .i64 (intT 8 s2), .bool (flagYes s3), .bool (flagYes s4), .bool (flagYes s5), .int .i64 (intT 1 s6)] : Array Value)) ?_ rfl ⟨rfl, h9.out.rest⟩
  simp [results, Try.results66, go_sem, c0, c1, c2, c3, c4, c5, c6, c7]
theorem bodyV_1 (st : Option ByteArray) : bodyV 1 st = ⟨1, listV takeA restA st, [], 0, [], zeroF⟩ := by unfold bodyV; rw [if_pos rfl]
theorem bodyV_2 (st : Option ByteArray) : bodyV 2 st = ⟨2, [], listV takeT restT st, 0, [], zeroF⟩ := by unfold bodyV; rw [if_neg (by decide), if_pos rfl]
theorem bodyV_3 (st : Option ByteArray) : bodyV 3 st = ⟨3, [], [], intT 8 st, [], zeroF⟩ := by unfold bodyV; rw [if_neg (by decide), if_neg (by decide), if_pos rfl]
theorem bodyV_4 (st : Option ByteArray) : bodyV 4 st = ⟨4, [], [], 0, listV idT (intR 16) st, zeroF⟩ := by unfold bodyV; rw [if_neg (by decide), if_neg (by decide), if_neg (by decide), if_pos rfl]
theorem bodyV_5 (st : Option ByteArray) : bodyV 5 st = ⟨5, [], [], 0, listV idT (intR 16) st, zeroF⟩ := by unfold bodyV; rw [if_neg (by decide), if_neg (by decide), if_neg (by decide), if_neg (by decide), if_pos rfl]
theorem bodyV_6 (st : Option ByteArray) : bodyV 6 st = ⟨6, [], [], 0, [], fltV st⟩ := by unfold bodyV; rw [if_neg (by decide), if_neg (by decide), if_neg (by decide), if_neg (by decide), if_neg (by decide), if_pos rfl]
theorem bodyV_7 (op : Int) (h : ¬ (1 ≤ op ∧ op ≤ 6)) (st : Option ByteArray) : bodyV op st = bareQ op := by unfold bodyV; rw [if_neg (by omega), if_neg (by omega), if_neg (by omega), if_neg (by omega), if_neg (by omega), if_neg (by omega)]
theorem bodyR_1 (st : Option ByteArray) : bodyR 1 st = listR restA st := by unfold bodyR; rw [if_pos rfl]
theorem bodyR_2 (st : Option ByteArray) : bodyR 2 st = listR restT st := by unfold bodyR; rw [if_neg (by decide), if_pos rfl]
theorem bodyR_3 (st : Option ByteArray) : bodyR 3 st = intR 8 st := by unfold bodyR; rw [if_neg (by decide), if_neg (by decide), if_pos rfl]
theorem bodyR_4 (st : Option ByteArray) : bodyR 4 st = listR (intR 16) st := by unfold bodyR; rw [if_neg (by decide), if_neg (by decide), if_neg (by decide), if_pos rfl]
theorem bodyR_5 (st : Option ByteArray) : bodyR 5 st = listR (intR 16) st := by unfold bodyR; rw [if_neg (by decide), if_neg (by decide), if_neg (by decide), if_neg (by decide), if_pos rfl]
theorem bodyR_6 (st : Option ByteArray) : bodyR 6 st = fltR st := by unfold bodyR; rw [if_neg (by decide), if_neg (by decide), if_neg (by decide), if_neg (by decide), if_neg (by decide), if_pos rfl]
theorem bodyR_7 (op : Int) (h : ¬ (1 ≤ op ∧ op ≤ 6)) (st : Option ByteArray) : bodyR op st = st := by unfold bodyR; rw [if_neg (by omega), if_neg (by omega), if_neg (by omega), if_neg (by omega), if_neg (by omega), if_neg (by omega)]
end
end Go.Proofs.Ytfdanlfiaoedfaa
namespace Go.Proofs.Ytfdanlfiaoedfaa
open Go.RowKit Go.Sort Wm Cr

theorem below_set4 {w W : World} {B b : Nat} (h : Below B w W) (hb : B ≤ b) (vs : List Value) : Below B w (W.setCells b 0 vs) := below_setCells hb vs 0 _ h
set_option maxRecDepth 100000 in
set_option maxHeartbeats 4000000 in
theorem wireReply_no (q : Rep) (s : Reps) (W : World) (hat : RepAt W q s) (hbad : fitsP q = false) :
    Calls Try.prog 16 #[repV q s] W fun e w2 => e = .returned (.string (partsB longP)) ∧ Below W.heap.size W w2 := by
  have hz := Lib.hid (fun (cs : Array Value) (t : TypeId) => (Below.refl W.heap.size W).alloc (Nat.le_refl _) (.cells cs t))
  have hbx := BoxAt.new W (q.cells s) 43
  have hf0 : ∀ j, (W.alloc (.cells (q.cells s).toArray 43)).frozen? ⟨W.heap.size, j, none⟩ = false := fun j => by simp [go_sem]
  have hcs := Lib.hid (fun wx b (h : BoxAt wx b (q.cells s)) => h.rep)
  have hg := Lib.hid (fun W2 (hb : Below W.heap.size W W2) => isReply_any q s W2 (hat.later hb))
  rw [hbad] at hg
  have kr : Hid (∀ (W2 W3 : World) (bs : ByteArray) (p : Nat), bs.size ≤ 500 → Held W2 W3 (star (objA WrIs p bs) nilA) → Calls Try.prog 43 #[.pointer (some ⟨p, 0, none⟩), .agg (#[.int .i64 3, .slice none 0 0, .slice none 0 0, .slice none 0 0] : Array Value)] W3 fun e w2 => e = .returned (.tuple #[]) ∧ Held W2 w2 (star (objA WrIs p (bs ++ partsB longP)) nilA)) :=
    Lib.hid (fun W2 W3 bs p hs h => wReply_h isAsr_nil h longP noReps (longP_at _) longP_wf (by decide) hs)
  have hsz := Lib.hid (partsB_size longP (by decide))
  generalize partsB longP = B at *
  clear hat hbad
  obtain ⟨er, rs, acs, ts⟩ := q
  obtain ⟨sR, sRc, sA, sAc, sT, sTc⟩ := s
  unfold repV at *
  dsimp only at *
  replace hbx := Lib.hid hbx
  replace hf0 := Lib.hid hf0
  go_enter Try.func16, Try.ntmps16
  go_wp2_with fail
  refine (hg.out _ (hz.out _ _)).mono ?_
  rintro e w2 ⟨rfl, hb2⟩
  have hbx2 := hbx.out.later hb2
  have hf2 : ∀ j, w2.frozen? ⟨W.heap.size, j, none⟩ = false := fun j => by rw [hb2.frozen (p := ⟨W.heap.size, j, none⟩) (by simp)]; exact hf0.out j
  have hbe := (hz.out _ _).trans (hb2.mono (hz.out _ _).size)
  clear hb2 hg
  obtain ⟨hb9, -, -⟩ := boxAt_setCells (vs := (#[.int .i64 3, .slice none 0 0, .slice none 0 0, .slice none 0 0] : Array Value).toList) hbx2 hf2 (show 4 = 4 from rfl)
  have hth := Lib.hid (box_thereAt (o := 0) (n := 4) hbx2 hf2 (Nat.le_refl 4))
  have hbe9 := below_set4 hbe (Nat.le_refl _) ((#[.int .i64 3, .slice none 0 0, .slice none 0 0, .slice none 0 0] : Array Value).toList)
  obtain ⟨w9, hw9⟩ : ∃ w9, w9 = w2.setCells W.heap.size 0 ((#[.int .i64 3, .slice none 0 0, .slice none 0 0, .slice none 0 0] : Array Value).toList) := ⟨_, rfl⟩
  rw [← hw9] at hb9 hbe9
  replace hw9 := Lib.hid hw9
  have e0 := hb9.spot 0 _ rfl; have e1 := hb9.spot 1 _ rfl; have e2 := hb9.spot 2 _ rfl; have e3 := hb9.spot 3 _ rfl
  have el := hb9.lt
  have h1 := (Held.start w9).obj (O := WrIs) (m := ByteArray.empty) (cs := [.slice none 0 0]) (t := 67) isAsr_nil (wrIs_newT w9 _)
  have k1 := Lib.hid (kr.out w9 _ _ _ (by decide) h1)
  replace hbe9 := Lib.hid hbe9
  clear h1 kr hcs hbx hbx2 hf0 hf2 hbe hb9
  go_wp2_with (refine wpList_store_mid rfl 43 _ _ rfl W.heap.size 0 _ rfl rfl hth.out (by kernel_rfl) (by kernel_rfl) ?_; rw [← hw9.out])
  refine k1.out.mono ?_
  rintro e w4 ⟨rfl, h3⟩
  clear k1 e0 e1 e2 e3 el hw9 hth
  have k2 := (h3.ask (isAsr_wr _ _) isAsr_nil (S := fun e _ => e = .returned (.string (ByteArray.empty ++ B))) (fun F hF => landedWr.str F w4 w9.heap.size _ hF (by rw [ByteArray.empty_append]; have := hsz.out; omega)))
  rw [ByteArray.empty_append] at k2
  replace k2 := Lib.hid k2
  clear h3 hsz
  go_wp2_with fail
  refine k2.out.mono ?_
  rintro e w5 ⟨rfl, h4⟩
  have hfin := Lib.hid (hbe9.out.trans (h4.below.mono hbe9.out.size))
  clear h4 k2
  go_wp2
  go_ret
  exact ⟨rfl, hfin.out⟩
theorem wireReply_any (q : Rep) (s : Reps) (W : World) (hat : RepAt W q s) (hq : q.Wf) :
    Calls Try.prog 16 #[repV q s] W fun e w2 => e = .returned (.string (repB q)) ∧ Below W.heap.size W w2 := by
  unfold repB
  cases hf : fitsP q
  · rw [saidP_not hf]
    exact wireReply_no q s W hat hf
  · rw [saidP_of hf]
    exact wireReply_yes q s W hat hq hf
end Go.Proofs.Ytfdanlfiaoedfaa
