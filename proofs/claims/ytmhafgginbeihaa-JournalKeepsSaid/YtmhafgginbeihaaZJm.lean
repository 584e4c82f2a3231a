/- JournalFlying: what is known of the disk and the journal while records are added, and behind the crash. Plain: no program, no condition. -/
import Derived.Test.YtmhafgginbeihaaZJl
namespace Go.Proofs.Ytmhafgginbeihaa
open Go Go.RowKit Cr

theorem blank_new (n j : Nat) (hj : j < n) (hn : n ≤ 4096) : (St.new (n : Int)).now j = zerosB 128 := by
  have e : (St.new (n : Int)).now j = (List.replicate (min (max (n : Int) 0) 4096).toNat (zerosB 128)).getD j ByteArray.empty := rfl
  rw [e, List.getD_eq_getElem?_getD, List.getElem?_replicate, if_pos (by omega)]; rfl
theorem blank_rec {get : Nat → ByteArray} {u a : Nat} {q : Int} (h : a < u → get a = zerosB 128) : recOf get a u q = none := recOf_none (fun N s hr => by
  have hf := hr.fit
  have hp := cntR_pos s.size
  have := hr.leaf 0 hp
  rw [Nat.add_zero, h (by omega), blank_none] at this
  cases this)
/-- So many records are added, by the numbers from 1 on; no other sector bears anything. -/
structure Full (l : List ByteArray) (k : Nat) (st : St) (js : JSt) : Prop where
  dry : st.Dry 80 (k * 400)
  jok : js.fr = 0 ∧ js.upto = 80 ∧ js.spot ≤ 80 ∧ js.sick = false
  seq : js.seq = k
  chain : Chain st.now 80 0 0 (l.take k) js.spot
  blank : ∀ j, js.spot ≤ j → j < 80 → st.now j = zerosB 128
  ends : EndsBelow st.now 80 (k + 1)
theorem Full.start (l : List ByteArray) : Full l 0 (St.new 80) ⟨0, 80, 0, 0, false⟩ where
  dry := St.Dry.new 80 (by omega)
  jok := ⟨rfl, rfl, by decide, rfl⟩
  seq := rfl
  chain := .nil _ _
  blank := fun j _ hj => blank_new 80 j hj (by omega)
  ends := fun j hj => ⟨0, 0, by rw [show (St.new 80).now j = zerosB 128 from blank_new 80 j hj (by omega)]; exact ends_blank, by omega, by omega⟩
theorem Full.ok {l : List ByteArray} {k : Nat} {st : St} {js : JSt} (h : Full l k st js) (hk : k ≤ 1000) : js.Ok st := by
  obtain ⟨a, b, c, _⟩ := h.jok
  have := h.seq
  exact ⟨by omega, by omega, by rw [h.dry.len]; omega, by omega⟩
theorem Full.next {l : List ByteArray} {k : Nat} {st : St} {js : JSt} (h : Full l k st js) (hk : k ≤ 20) (hkl : k < l.length) (hr : js.room (l[k].size : Int) = true) :
    ∃ st' js', addJ st js ((k + 1 : Nat) : Int) l[k] = (0, st', js') ∧ Full l (k + 1) st' js' := by
  obtain ⟨a, b, c, d⟩ := h.jok
  have hsq := h.seq
  have hN : 1 ≤ ((k + 1 : Nat) : Int) ∧ ((k + 1 : Nat) : Int) ≤ 1152921504606846976 := by omega
  obtain ⟨st', h1, h2, h3⟩ := add_calm h.dry (h.ok (by omega)) d hN hr
  unfold JSt.room at hr
  simp only [Bool.and_eq_true, decide_eq_true_eq, Int.toNat_natCast] at hr
  have hs : l[k].size ≤ 32768 := by omega
  have hfit : js.spot + cntR l[k].size ≤ js.upto := by omega
  have hrec := added_rec (js := js) (s := l[k]) hN hs (by omega) hfit (by omega : js.upto ≤ 80) h3
  refine ⟨st', _, h1, ⟨h2.mono (by omega), ⟨a, b, by show js.spot + cntR l[k].size ≤ 80; omega, d⟩, by show js.seq + 1 = ((k + 1 : Nat) : Int); omega, ?_, fun j hj1 hj2 => ?_, fun j hj => ?_⟩⟩
  · have e1 : l.take (k + 1) = l.take k ++ [l[k]] := by
      rw [List.take_add_one, List.getElem?_eq_getElem hkl]; rfl
    have hlen : (l.take k).length = k := by rw [List.length_take]; omega
    rw [e1]
    rw [b] at hrec
    refine Chain.snoc (N := ((k + 1 : Nat) : Int)) (e := js.spot) (h.chain.congr (fun i hi0 hi1 => ?_)) ?_
    · rw [h3 i (by omega), if_neg (by omega)]
    · rw [hlen]
      have e2 : (0 : Int) + (k : Int) + 1 = js.seq + 1 := by omega
      rw [e2]
      exact hrec
  · have hj1' : js.spot + cntR l[k].size ≤ j := hj1
    rw [h3 j hj2, if_neg (by omega)]
    exact h.blank j (by omega) hj2
  · rw [h3 j hj]
    split
    · exact ⟨k + 1, k + 1, ends_sec (by omega) _ (partS_le _ _), by omega, by omega⟩
    · obtain ⟨p, q, e, e1, e2⟩ := h.ends j hj
      exact ⟨p, q, e, by omega, by omega⟩
/-- Is a record whole there? -/
def wholeB (get : Nat → ByteArray) (a : Nat) (q N : Int) (s : ByteArray) (k : Nat) : Bool := decide (∀ i, i < k → get (min (a + i) 79) = secB N ((i : Nat) : Int) (partS (frameB q s) i))
theorem wholeB_zero (get : Nat → ByteArray) (a : Nat) (q N : Int) (s : ByteArray) : wholeB get a q N s 0 = true := decide_eq_true (fun i hi => by omega)
theorem wholeB_next (get : Nat → ByteArray) (a : Nat) (q N : Int) (s : ByteArray) (k : Nat) :
    wholeB get a q N s (k + 1) = (wholeB get a q N s k && decide (get (min (a + k) 79) = secB N ((k : Nat) : Int) (partS (frameB q s) k))) := by
  unfold wholeB
  rw [← Bool.decide_and]
  exact decide_eq_decide.mpr ⟨fun h => ⟨fun i hi => h i (by omega), h k (by omega)⟩, fun h i hi => by
    by_cases e : i = k
    · subst e; exact h.2
    · exact h.1 i (by omega)⟩
/-- What is there behind the crash. -/
structure FlownTo (l : List ByteArray) (last : ByteArray) (a : Nat) (st : St) (e : Int) : Prop where
  idle : st.Idle 80 10000
  ok : e = 0 → wholeB st.now a ((l.length : Nat) + 1) ((l.length : Nat) + 1) last (cntR last.size) = true
  recs : ∃ z, Recs st.now 80 0 0 (if wholeB st.now a ((l.length : Nat) + 1) ((l.length : Nat) + 1) last (cntR last.size) = true ∧ e ≠ 6 then l ++ [last] else l) z
theorem Full.recs {l : List ByteArray} {st : St} {js : JSt} (h : Full l l.length st js) {get : Nat → ByteArray} (hg : ∀ j, j < js.spot → get j = st.now j) (hno : recOf get js.spot 80 ((l.length : Nat) + 1) = none) : Recs get 80 0 0 l js.spot := by
  have hc := h.chain
  rw [List.take_length] at hc
  refine ⟨hc.congr (fun i _ hi => hg i hi), ?_⟩
  rw [Int.zero_add]; exact hno
theorem Full.more {l : List ByteArray} {st : St} {js : JSt} (h : Full l l.length st js) {last : ByteArray} {get : Nat → ByteArray} (hg : ∀ j, j < js.spot → get j = st.now j) (hrec : RecAt get js.spot 80 ((l.length : Nat) + 1) ((l.length : Nat) + 1) last)
    (hb : ∀ j, js.spot + cntR last.size ≤ j → j < 80 → get j = zerosB 128) : Recs get 80 0 0 (l ++ [last]) (js.spot + cntR last.size) := by
  have hc := h.chain
  rw [List.take_length] at hc
  refine ⟨Chain.snoc (N := ((l.length : Nat) + 1 : Int)) (hc.congr (fun i _ hi => hg i hi)) (by rw [Int.zero_add]; exact hrec), ?_⟩
  exact blank_rec (fun hlt => hb _ (Nat.le_refl _) hlt)
theorem Full.fly {l : List ByteArray} {st : St} {js : JSt} (h : Full l l.length st js) (hl : l.length ≤ 10) (fail : Int) (hf : fail ≤ 9223372036854775807) {last : ByteArray} (hsz : last.size ≤ 32768) (mask : Nat) (torn cut : Int) :
    ∃ e st' js', addJ (st.armed fail) js ((l.length : Nat) + 1) last = (e, st', js') ∧ st'.Ok ∧ (e = 0 ∨ e = 6 ∨ e = 8) ∧ FlownTo l last js.spot (st'.crashed mask torn cut) e := by
  obtain ⟨a, b, c, d⟩ := h.jok
  have hsq := h.seq
  have hN : 1 ≤ ((l.length : Nat) + 1 : Int) ∧ ((l.length : Nat) + 1 : Int) ≤ 1152921504606846976 := by omega
  have hid := h.dry.idle.armed fail hf
  have hnow : (st.armed fail).now = st.now := rfl
  have hcl := cntR_le hsz
  have hjo : js.Ok (st.armed fail) := by
    have := h.ok (by omega)
    exact ⟨this.fr, this.spot, this.upto, this.seq⟩
  cases hr : js.room (last.size : Int) with
  | false =>
    refine ⟨6, st.armed fail, js, add_full d hN hr, hid.ok (by omega) (by omega), .inr (.inl rfl), ?_⟩
    have hcr : ((st.armed fail).crashed mask torn cut).now = st.now := by
      obtain ⟨safe, later, ops, arm⟩ := st
      have hlt : later = [] := h.dry.later
      subst hlt
      rfl
    refine ⟨⟨?_, ?_, rfl, ?_, by show -((10000 : Nat) : Int) ≤ 0 ∧ (0 : Int) ≤ _; omega⟩, fun e => by omega, js.spot, ?_⟩
    · show (lasting mask torn (cutC cut) 0 st.later st.safe).length = 80
      rw [lasting_length]; exact h.dry.len
    · show ∀ s ∈ lasting mask torn (cutC cut) 0 st.later st.safe, s.size = 128
      rw [h.dry.later]; exact h.dry.safe
    · have := h.dry.ops
      show 0 ≤ st.ops ∧ st.ops ≤ _
      omega
    · rw [if_neg (fun e => e.2 rfl), hcr]
      exact h.recs (fun _ _ => rfl) (blank_rec (fun hlt => h.blank _ (Nat.le_refl _) hlt))
  | true =>
    have hr2 := hr
    unfold JSt.room at hr2
    simp only [Bool.and_eq_true, decide_eq_true_eq, Int.toNat_natCast] at hr2
    have hfit : js.spot + cntR last.size ≤ 80 := by omega
    have hsq1 : js.seq + 1 = ((l.length : Nat) + 1 : Int) := by omega
    have hmin : ∀ i, i < cntR last.size → min (js.spot + i) 79 = js.spot + i := fun i hi => by omega
    rcases add_flies hid hjo d hN hr with ⟨st', h1, h2, h3⟩ | ⟨st', m, h1, h2, h3, h4, h5, h6⟩
    · refine ⟨0, st', _, h1, h2.ok (by omega) (by omega), .inl rfl, ?_⟩
      have hcr : (st'.crashed mask torn cut).now = st'.now := by
        obtain ⟨safe, later, ops, arm⟩ := st'
        have hlt : later = [] := h2.later
        subst hlt
        rfl
      rw [hsq1] at h3
      have hw : wholeB st'.now js.spot ((l.length : Nat) + 1) ((l.length : Nat) + 1) last (cntR last.size) = true := decide_eq_true (fun i hi => by
        rw [hmin i hi, h3 (js.spot + i) (by omega), if_pos (by omega), show js.spot + i - js.spot = i by omega])
      have hrec : RecAt st'.now js.spot 80 ((l.length : Nat) + 1) ((l.length : Nat) + 1) last :=
        ⟨by omega, hN, hsz, hfit, fun i hi => by rw [h3 (js.spot + i) (by omega), if_pos (by omega), show js.spot + i - js.spot = i by omega]⟩
      refine ⟨⟨?_, ?_, rfl, ?_, by show -((10000 : Nat) : Int) ≤ 0 ∧ (0 : Int) ≤ _; omega⟩, fun _ => by rw [hcr]; exact hw, js.spot + cntR last.size, ?_⟩
      · show (lasting mask torn (cutC cut) 0 st'.later st'.safe).length = 80
        rw [lasting_length]; exact h2.len
      · show ∀ s ∈ lasting mask torn (cutC cut) 0 st'.later st'.safe, s.size = 128
        rw [h2.later]; exact h2.safe
      · have := h2.ops
        show 0 ≤ st'.ops ∧ st'.ops ≤ _
        omega
      · rw [hcr, if_pos ⟨hw, by decide⟩]
        refine h.more (fun j hj => by rw [h3 j (by omega), if_neg (by omega)]; rfl) hrec (fun j hj1 hj2 => ?_)
        rw [h3 j hj2, if_neg (by omega)]
        exact h.blank j (by omega) hj2
    · have hok : st'.Ok := by
        refine ⟨⟨by rw [h3]; exact h.dry.safe, fun w hw => ?_, by rw [h3]; show st.safe.length ≤ 4096; rw [h.dry.len]; omega, ?_⟩, by omega, by omega⟩
        · rw [h4] at hw
          unfold layW at hw
          obtain ⟨j, hj2, rfl⟩ := List.mem_map.mp hw
          have := List.mem_range.mp hj2
          refine ⟨secB_size (partS_le _ _), ?_⟩
          show js.spot + (0 + j) < st'.safe.length
          rw [h3]; show _ < st.safe.length; rw [h.dry.len]; omega
        · rw [h4]; unfold layW; rw [List.length_map, List.length_range]; omega
      refine ⟨8, st', _, h1, hok, .inr (.inr rfl), ?_⟩
      rw [hsq1] at h4
      have hfl := crash_flown hid h3 h4 h2 hfit mask torn cut
      have hci := crash_idle hid h3 h4 h2 hfit 10000 (by omega) mask torn cut
      generalize st'.crashed mask torn cut = st3 at *
      rw [hnow] at hfl
      have hfl2 : Flown st.now st3.now js.spot (cntR last.size) ((l.length + 1 : Nat) : Int) (frameB ((l.length : Nat) + 1) last) := hfl
      have hrest : ∀ j, j < js.spot → st3.now j = st.now j := fun j hj => hfl.rest j (.inl hj)
      refine ⟨hci, fun e => by omega, ?_⟩
      cases hw : wholeB st3.now js.spot ((l.length : Nat) + 1) ((l.length : Nat) + 1) last (cntR last.size) with
      | true =>
        rw [if_pos ⟨rfl, by decide⟩]
        have hw2 := of_decide_eq_true hw
        refine ⟨js.spot + cntR last.size, h.more hrest ⟨by omega, hN, hsz, hfit, fun i hi => by rw [← hw2 i hi, hmin i hi]⟩ (fun j hj1 hj2 => ?_)⟩
        rw [hfl.rest j (.inr hj1)]
        exact h.blank j (by omega) hj2
      | false =>
        rw [if_neg (fun e => by cases e.1)]
        refine ⟨js.spot, h.recs hrest (recOf_none (fun N' s' hr' => ?_))⟩
        have hw2 := of_decide_eq_false hw
        refine hw2 (fun i hi => ?_)
        rw [hmin i hi]
        exact flown_rec hfl2 (by omega) (by omega) hsz hfit (Nat.le_refl 80) h.ends (blank_rec (fun hlt => h.blank _ (Nat.le_refl _) hlt)) hr' i hi
end Go.Proofs.Ytmhafgginbeihaa
