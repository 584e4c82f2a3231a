/- PlatterDoes' walk, out of the landed contracts. -/
import Derived.Test.YthmcdldmmhnleaaPa
namespace Go.Proofs.Ythmcdldmmhnleaa
open Go.RowKit Go.Sort

/-- A disk behind so many steps. -/
structure St.OkN (st : St) (k : Nat) : Prop where
  safe : ∀ s ∈ st.safe, s.size = 128
  data : ∀ w ∈ st.later, w.2.size = 128 ∧ w.1 < st.safe.length
  many : st.safe.length ≤ 4096
  few : st.later.length ≤ k
  ops : 0 ≤ st.ops ∧ st.ops ≤ k
  arm : -(k : Int) ≤ st.arm ∧ st.arm ≤ 9223372036854775807
theorem St.OkN.ok {st : St} {k : Nat} (h : st.OkN k) (hk : k ≤ 1000) : st.Ok where
  safe := h.safe
  data := h.data
  many := h.many
  few := by have := h.few; omega
  ops := by have := h.ops; omega
  arm := by have := h.arm; omega
theorem St.OkN.new (n : Int) : (St.new n).OkN 0 where
  safe := (St.Ok.new n).safe
  data := (St.Ok.new n).data
  many := (St.Ok.new n).many
  few := by simp [St.new]
  ops := by simp [St.new]
  arm := by simp [St.new]
theorem St.OkN.tried {st : St} {k : Nat} (h : st.OkN k) : st.tried.OkN (k + 1) where
  safe := h.safe
  data := h.data
  many := h.many
  few := by have := h.few; show st.later.length ≤ k + 1; omega
  ops := by have := h.ops; show 0 ≤ st.ops + 1 ∧ st.ops + 1 ≤ ((k + 1 : Nat) : Int); omega
  arm := by have := h.arm; show -((k + 1 : Nat) : Int) ≤ st.arm - 1 ∧ st.arm - 1 ≤ _; omega
theorem St.OkN.mono {st : St} {k j : Nat} (h : st.OkN k) (hj : k ≤ j) : st.OkN j where
  safe := h.safe
  data := h.data
  many := h.many
  few := by have := h.few; omega
  ops := by have := h.ops; omega
  arm := by have := h.arm; omega
theorem St.OkN.crash {st : St} {k : Nat} (h : st.OkN k) (mask : Nat) (torn cut : Int) : (st.crash mask torn cut).OkN k where
  safe := lasting_sizes mask torn _ (cutC_le cut) st.later 0 st.safe h.data h.safe
  data := fun w hw => by simp [St.crash] at hw
  many := by rw [crash_length]; exact h.many
  few := by simp [St.crash]
  ops := h.ops
  arm := h.arm
theorem St.OkN.armed {st : St} {k : Nat} (h : st.OkN k) (n : Int) (hn : n ≤ 9223372036854775807) : (st.armed n).OkN k where
  safe := h.safe
  data := h.data
  many := h.many
  few := h.few
  ops := h.ops
  arm := by show -(k : Int) ≤ max n 0 ∧ max n 0 ≤ _; omega
theorem St.OkN.write {st : St} {k : Nat} (h : st.OkN k) (i : Int) (s : ByteArray) : (st.write i s).2.OkN (k + 1) := by
  unfold St.write
  split
  · rename_i hg
    unfold St.goodW at hg
    simp at hg
    obtain ⟨⟨h1, h2⟩, h3⟩ := hg
    split
    · exact h.tried
    · have ht := h.tried
      exact ⟨ht.safe, fun w hw => by
        rcases List.mem_append.mp hw with hw | hw
        · exact h.data w hw
        · rw [List.mem_singleton] at hw
          subst hw
          exact ⟨padB_size s h3, by show i.toNat < st.safe.length; omega⟩, ht.many, by have := h.few; show (st.later ++ _).length ≤ _; rw [List.length_append]; simp; omega, ht.ops, ht.arm⟩
  · exact h.mono (by omega)
theorem St.OkN.sync {st : St} {k : Nat} (h : st.OkN k) : st.sync.2.OkN (k + 1) := by
  unfold St.sync
  split
  · exact h.tried
  · exact h.tried.crash _ _ _
theorem St.OkN.crashed {st : St} {k : Nat} (h : st.OkN k) (mask : Nat) (torn cut : Int) : (st.crashed mask torn cut).OkN k := by
  have hc := h.crash mask torn cut
  exact ⟨hc.safe, hc.data, hc.many, hc.few, hc.ops, by show -(k : Int) ≤ 0 ∧ (0 : Int) ≤ _; omega⟩
theorem St.OkN.call {st : St} {k : Nat} (h : st.OkN k) {c : Call} (hc : c.Wf) : (callSt st c).OkN (k + 1) := by
  unfold callSt
  split
  · exact h.write _ _
  · split
    · exact h.sync
    · split
      · exact (h.crashed _ _ _).mono (by omega)
      · split
        · exact (h.armed _ hc.n.2).mono (by omega)
        · exact h.mono (by omega)
/-- The landed disk where there is none. -/
structure LandedNone : Prop where
  crash : ∀ W, Calls Try.prog 15 #[.pointer none, .int .u64 1, .int .i64 1, .int .i64 1] W fun e W' => e = .returned (.tuple #[]) ∧ Below W.heap.size W W'
  arm : ∀ W, Calls Try.prog 16 #[.pointer none, .int .i64 1] W fun e W' => e = .returned (.tuple #[]) ∧ Below W.heap.size W W'
  read : ∀ W, Calls Try.prog 14 #[.pointer none, .int .i64 0] W fun e W' => e = .returned (.tuple #[.string ⟨#[]⟩, .int .i64 2]) ∧ Below W.heap.size W W'
  write : ∀ W, Calls Try.prog 17 #[.pointer none, .int .i64 0, .string ⟨#[]⟩] W fun e W' => e = .returned (.int .i64 2) ∧ Below W.heap.size W W'
  sync : ∀ W, Calls Try.prog 18 #[.pointer none] W fun e W' => e = .returned (.int .i64 2) ∧ Below W.heap.size W W'
  sectors : ∀ W, Calls Try.prog 19 #[.pointer none] W fun e W' => e = .returned (.int .i64 0) ∧ Below W.heap.size W W'
  later : ∀ W, Calls Try.prog 20 #[.pointer none] W fun e W' => e = .returned (.int .i64 0) ∧ Below W.heap.size W W'
  ops : ∀ W, Calls Try.prog 21 #[.pointer none] W fun e W' => e = .returned (.int .i64 0) ∧ Below W.heap.size W W'
/-- What is known while a script is played on both. -/
structure Playing (Dk : (Nat → Prop) → World → Nat → St → Prop) (w wr : World) (p m k : Nat) (st : St) : Prop where
  ex : ∃ F G, Pair Dk F G wr p m st ∧ (∀ j, F j → w.heap.size ≤ j) ∧ ∀ j, G j → w.heap.size ≤ j
  ok : st.OkN k
  below : Below w.heap.size w wr
theorem Playing.next {Dk : (Nat → Prop) → World → Nat → St → Prop} (K : LandedDk Dk) {w wx w2 w3 : World} {p m k : Nat} {st : St} {F G : Nat → Prop} (hF : ∀ j, F j → w.heap.size ≤ j) (hG : ∀ j, G j → w.heap.size ≤ j)
    (hb : Below w.heap.size w wx) (ho : st.OkN k) (h : PairPost Dk F G p m st wx w2) (h3 : Below w2.heap.size w2 w3) : Playing Dk w w3 p m k st := by
  obtain ⟨F', G', h1, h2, h4, h5⟩ := h
  have hs := hb.size
  refine ⟨⟨F', G', h1.later K h3, fun j hj => ?_, fun j hj => ?_⟩, ho, (hb.trans (h2.to_below hs (fun j hj => hj.elim (hF j) (hG j)))).trans (h3.mono (by have := h2.size; omega))⟩
  · by_cases e : j < wx.heap.size
    · exact hF j (h4 j e hj)
    · omega
  · by_cases e : j < wx.heap.size
    · exact hG j (h5 j e hj)
    · omega
theorem does_lit {Dk : (Nat → Prop) → World → Nat → St → Prop} (K : LandedDk Dk) (F G : Nat → Prop) (W : World) (p m : Nat) (st : St) (h : Pair Dk F G W p m st) (hok : st.Ok) (kind n : Int) (data : ByteArray) (mask : Nat) (cut : Int) (hc : (⟨kind, n, data, mask, cut⟩ : Call).Wf) :
    Calls Try.prog 12 #[.pointer (some ⟨p, 0, none⟩), .pointer (some ⟨m, 0, none⟩), .agg #[.int .i64 kind, .int .i64 n, .string data, .int .u64 ((mask : Nat) : Int), .int .i64 cut]] W fun e W' => e = .returned (.bool true) ∧ PairPost Dk F G p m (callSt st ⟨kind, n, data, mask, cut⟩) W W' :=
  does_any K F G W p m st h hok ⟨kind, n, data, mask, cut⟩ hc
theorem same_post {Dk : (Nat → Prop) → World → Nat → St → Prop} (K : LandedDk Dk) (F G : Nat → Prop) (W W2 : World) (p m : Nat) (st : St) (h : PairPost Dk F G p m st W W2) (hok : st.Ok) :
    Calls Try.prog 13 #[.pointer (some ⟨p, 0, none⟩), .pointer (some ⟨m, 0, none⟩)] W2 fun e W' => e = .returned (.bool true) ∧ Below W2.heap.size W2 W' := by
  obtain ⟨F', G', h1, _, _, _⟩ := h
  exact same_any K F' G' W2 p m st h1 hok
theorem rd_out (st : St) (i : Int) (h : ¬ (0 ≤ i ∧ i < ((st.safe.length : Nat) : Int))) : rdS st i = ⟨#[]⟩ ∧ rdE st i = 1 := by
  unfold rdS rdE; rw [if_neg h, if_neg h]; exact ⟨rfl, rfl⟩

set_option maxRecDepth 100000 in
set_option maxHeartbeats 4000000 in
theorem platterDoes_any {Dk : (Nat → Prop) → World → Nat → St → Prop} (K : LandedDk Dk) (Z : LandedNone) (sectors : Int) (hse : -9223372036854775808 ≤ sectors ∧ sectors ≤ 9223372036854775807)
    (ao : Option Addr) (cap : Nat) (l : List Call) (hw : ∀ x ∈ l, x.Wf) (hlen : l.length ≤ 140737488351232) (w : World) (hS : CallsAt w ao l) :
    Calls Try.prog 3 #[.int .i64 sectors, .slice ao l.length cap] w fun e w' => e = .returned (.bool true) ∧ Below w.heap.size w w' := by
  have hS0 := hS
  have hal := Lib.hid (platterAlive_any K)
  have hgr := Lib.hid (greatp_any ao cap l hw hlen)
  by_cases hq : greatP l = false ∧ sectors ≤ 40
  · obtain ⟨g, hs40⟩ := hq
    have hl80 : l.length ≤ 80 := by unfold greatP at g; simp at g; omega
    rw [g] at hgr
    clear g
    have n1 : ¬ (40 : Int) < sectors := by omega
    have hnew := Lib.hid (fun W => K.new sectors W hse.1 hse.2)
    have hrnew := Lib.hid (fun W => refnew_any sectors W)
    have ho0 := Lib.hid (St.OkN.new sectors)
    generalize St.new sectors = st0 at *
    go_enter Try.func3, Try.ntmps3
    go_wp2_with fail
    refine (hal.out _).mono ?_
    rintro e w1 ⟨rfl, hb1⟩
    replace hS := hS.later hb1
    go_wp2_with fail
    refine (hgr.out _ hS).mono ?_
    rintro e w2 ⟨rfl, hb2⟩
    replace hb1 := hb1.trans (hb2.mono hb1.size)
    clear hb2 hS hgr hal
    go_wp2_with fail
    refine (hnew.out _).mono ?_
    rintro e w3 ⟨p, F, rfl, hD, hF, hb2⟩
    have z1 := hb1.size
    have z2 := hb2.size
    replace hb1 := hb1.trans (hb2.mono hb1.size)
    clear hb2 hnew
    go_wp2_with fail
    refine (hrnew.out _).mono ?_
    rintro e w4 ⟨m, G, rfl, hRf, hG, hb2⟩
    have z3 := hb2.size
    have hP0 : Playing Dk w w4 p m 0 st0 := ⟨⟨F, G, ⟨K.later hD hb2, hRf, fun k hk hg => by have := K.near _ _ _ _ hD k hk; have := hG k hg; omega⟩,
      fun j hj => by have := hF j hj; omega, fun j hj => by have := hG j hj; omega⟩, ho0.out, hb1.trans (hb2.mono hb1.size)⟩
    clear hb2 hrnew hD hF hRf hG hb1 z1 z2 z3
    go_wp2_with fail
    go_loopw [30] (fun i wr => ∃ (k : Nat) (st : St), k ≤ l.length ∧ i = .int .i64 k ∧ Playing Dk w wr p m k st) (fun i _ => (l.length - intOf i).toNat)
    case atStart => exact ⟨0, st0, by omega, rfl, hP0⟩
    case round =>
      clear hP0
      obtain ⟨k, st, hk, rfl, hP⟩ := hrel
      by_cases hlt : k < l.length
      · obtain ⟨b, off, rfl, hbl, hc⟩ := (hS0.below hP.below (Nat.le_refl _)).spot k hlt
        have hx := hw _ (List.getElem_mem hlt)
        obtain ⟨⟨F, G, hPr, hF, hG⟩, hok, hb⟩ := hP
        have hok2 := hok.call hx
        generalize l[k] = x at *
        obtain ⟨kind, n, data, mask, cut⟩ := x
        have c0 := hc 0 _ rfl
        have c1 := hc 1 _ rfl
        have c2 := hc 2 _ rfl
        have c3 := hc 3 _ rfl
        have c4 := hc 4 _ rfl
        dsimp only [Nat.add_zero] at c0 c1 c2 c3 c4
        clear hc
        have hal : Below wr.heap.size wr (wr.alloc (.cells #[.int .i64 kind, .int .i64 n, .string data, .int .u64 ((mask : Nat) : Int), .int .i64 cut] 31)) := (Below.refl _ _).alloc (Nat.le_refl _) _
        have hbx := hb.trans (hal.mono hb.size)
        have hPx := hPr.later K hal
        have hdo := Lib.hid (fun W h => does_lit K F G W p m st h (hok.ok (by omega)) kind n data mask cut hx)
        have hsm := Lib.hid (fun W W2 h => same_post K F G W W2 p m (callSt st ⟨kind, n, data, mask, cut⟩) h (hok2.ok (by omega)))
        have hnext := Lib.hid (fun w2 w3 a b => Playing.next (w := w) (wx := wr.alloc (.cells #[.int .i64 kind, .int .i64 n, .string data, .int .u64 ((mask : Nat) : Int), .int .i64 cut] 31)) (w2 := w2) (w3 := w3) (p := p) (m := m) K hF hG hbx hok2 a b)
        generalize callSt st ⟨kind, n, data, mask, cut⟩ = st2 at *
        clear hPr hal hok hok2 hF hG hbx hx
        go_wp2_with fail
        refine (hdo.out _ hPx).mono ?_
        rintro e w5 ⟨rfl, hpp⟩
        go_wp2_with fail
        refine (hsm.out _ _ hpp).mono ?_
        rintro e w6 ⟨rfl, hb2⟩
        go_wp2
        exact ⟨⟨k + 1, st2, by omega, by go_num, hnext.out _ _ hpp hb2⟩, by simp [intOf]; omega⟩
      · obtain rfl : k = l.length := by omega
        obtain ⟨⟨F, G, hPr, hF, hG⟩, hok, hb⟩ := hP
        have hOk := hok.ok (by omega)
        have hmany := hOk.many
        obtain ⟨vs, va, vd, hV, hGf⟩ := hPr.b
        have c0 := hV.c0
        obtain ⟨ao0, k0, rfl, -⟩ := row_slice hV.o0
        have hltm := hV.lt
        have hDk := hPr.a
        have hr1 := Lib.hid (fun W h => K.read F W p st ((st.safe.length : Nat) : Int) h hOk)
        rw [(rd_out st _ (by omega)).1, (rd_out st _ (by omega)).2] at hr1
        have hr2 := Lib.hid (fun W h => K.read F W p st (-1) h hOk)
        rw [(rd_out st _ (by omega)).1, (rd_out st _ (by omega)).2] at hr2
        clear hV hGf hPr hok hF hG
        go_wp2_with fail
        refine (hr1.out _ hDk).mono ?_
        rintro e w5 ⟨rfl, hb2⟩
        replace hb := hb.trans (hb2.mono hb.size)
        replace hDk := K.later hDk hb2
        clear hb2
        go_wp2_with fail
        refine (hr2.out _ hDk).mono ?_
        rintro e w6 ⟨rfl, hb2⟩
        replace hb := hb.trans (hb2.mono hb.size)
        clear hb2 hDk
        go_wp2_with fail
        refine (Z.crash _).mono ?_
        rintro e w7 ⟨rfl, hb2⟩
        replace hb := hb.trans (hb2.mono hb.size)
        clear hb2
        go_wp2_with fail
        refine (Z.arm _).mono ?_
        rintro e w8 ⟨rfl, hb2⟩
        replace hb := hb.trans (hb2.mono hb.size)
        clear hb2
        go_wp2_with fail
        refine (Z.read _).mono ?_
        rintro e w9 ⟨rfl, hb2⟩
        replace hb := hb.trans (hb2.mono hb.size)
        clear hb2
        go_wp2_with fail
        refine (Z.write _).mono ?_
        rintro e w10 ⟨rfl, hb2⟩
        replace hb := hb.trans (hb2.mono hb.size)
        clear hb2
        go_wp2_with fail
        refine (Z.sync _).mono ?_
        rintro e w11 ⟨rfl, hb2⟩
        replace hb := hb.trans (hb2.mono hb.size)
        clear hb2
        go_wp2_with fail
        refine (Z.sectors _).mono ?_
        rintro e w12 ⟨rfl, hb2⟩
        replace hb := hb.trans (hb2.mono hb.size)
        clear hb2
        go_wp2_with fail
        refine (Z.later _).mono ?_
        rintro e w13 ⟨rfl, hb2⟩
        replace hb := hb.trans (hb2.mono hb.size)
        clear hb2
        go_wp2_with fail
        refine (Z.ops _).mono ?_
        rintro e w14 ⟨rfl, hb2⟩
        replace hb := hb.trans (hb2.mono hb.size)
        go_wp2
        go_ret
        exact ⟨rfl, hb⟩
  · have hq2 : greatP l = true ∨ (greatP l = false ∧ 40 < sectors) := by
      by_cases x1 : greatP l = true
      · exact .inl x1
      · have y1 := Bool.eq_false_iff.mpr x1
        exact .inr ⟨y1, by
          rcases Int.lt_or_le 40 sectors with h | h
          · exact h
          · exact absurd ⟨y1, h⟩ hq⟩
    clear hq
    rcases hq2 with g | ⟨g, hz⟩
    all_goals
      rw [g] at hgr
      clear g
      go_enter Try.func3, Try.ntmps3
      go_wp2_with fail
      refine (hal.out _).mono ?_
      rintro e w1 ⟨rfl, hb1⟩
      replace hS := hS.later hb1
      go_wp2_with fail
      refine (hgr.out _ hS).mono ?_
      rintro e w2 ⟨rfl, hb2⟩
      replace hb1 := hb1.trans (hb2.mono hb1.size)
      go_wp2
      go_ret
      exact ⟨rfl, hb1⟩
end Go.Proofs.Ythmcdldmmhnleaa
