/- Stage 26: the walk of ShelfTexts. No condition but the landed package's. -/
import Derived.Test.YtdphflbgecnhkaaZYc
import Derived.Test.YtdphflbgecnhkaaZYe
import Derived.Lib.MinMax
namespace Go.Proofs.Ytdphflbgecnhkaa
open Go.RowKit Go.Sort Wm Cr

/-- The first at sign of a text from byte m on, or -1. -/
def AtIs (s : ByteArray) (m : Nat) (a : Int) : Prop :=
  (a = -1 ∧ ∀ j (h : j < s.size), m ≤ j → s[j].toNat ≠ 64) ∨ (∃ k : Nat, ∃ h : k < s.size, a = (k : Int) ∧ m ≤ k ∧ s[k].toNat = 64 ∧ ∀ j (hj : j < s.size), m ≤ j → j < k → s[j].toNat ≠ 64)
theorem AtIs.start (s : ByteArray) : AtIs s s.size (-1) := .inl ⟨rfl, fun j h h2 => by omega⟩
theorem AtIs.hit {s : ByteArray} {m : Nat} (h : m < s.size) (hc : s[m].toNat = 64) : AtIs s m (m : Int) := .inr ⟨m, h, rfl, Nat.le_refl _, hc, fun j _ h1 h2 => by omega⟩
theorem AtIs.miss {s : ByteArray} {m : Nat} {a : Int} (h : AtIs s (m + 1) a) (hm : m < s.size) (hc : s[m].toNat ≠ 64) : AtIs s m a := by
  have key : ∀ j (hj : j < s.size), m ≤ j → (m + 1 ≤ j → s[j].toNat ≠ 64) → s[j].toNat ≠ 64 := fun j hj h1 h2 => by
    by_cases e : j = m
    · subst e; exact hc
    · exact h2 (by omega)
  rcases h with ⟨h1, h2⟩ | ⟨k, hk, h1, h2, h3, h4⟩
  · exact .inl ⟨h1, fun j hj hmj => key j hj hmj (h2 j hj)⟩
  · exact .inr ⟨k, hk, h1, by omega, h3, fun j hj hmj hjk => key j hj hmj (fun e => h4 j hj e hjk)⟩
theorem AtIs.some (s : ByteArray) : ∀ (n m : Nat), m + n = s.size → ∃ a, AtIs s m a
  | 0, m, h => ⟨-1, by rw [show m = s.size by omega]; exact AtIs.start s⟩
  | n + 1, m, h => by
    obtain ⟨a, ha⟩ := AtIs.some s n (m + 1) (by omega)
    by_cases hc : s[m].toNat = 64
    · exact ⟨m, AtIs.hit (by omega) hc⟩
    · exact ⟨a, ha.miss (by omega) hc⟩
theorem AtIs.uniq {s : ByteArray} {a b : Int} (h1 : AtIs s 0 a) (h2 : AtIs s 0 b) : a = b := by
  rcases h1 with ⟨rfl, h1⟩ | ⟨k, hk, rfl, -, c1, d1⟩ <;> rcases h2 with ⟨rfl, h2⟩ | ⟨l, hl, rfl, -, c2, d2⟩
  · rfl
  · exact absurd c2 (h1 l hl (Nat.zero_le _))
  · exact absurd c1 (h2 k hk (Nat.zero_le _))
  · by_cases e : k < l
    · exact absurd c1 (d2 k hk (Nat.zero_le _) e)
    · by_cases e2 : l < k
      · exact absurd c2 (d1 l hl (Nat.zero_le _) e2)
      · rw [show k = l by omega]
theorem split_key (a b : ByteArray) (ha : ∀ c ∈ a.data.toList, (c != (64 : UInt8)) = true) : (a ++ atB ++ b).data.toList.takeWhile (· != 64) = a.data.toList ∧ (a ++ atB ++ b).data.toList.dropWhile (· != 64) = 64 :: b.data.toList := by
  have e : (a ++ atB ++ b).data.toList = a.data.toList ++ (64 :: b.data.toList) := by
    rw [ByteArray.data_append, ByteArray.data_append, Array.toList_append, Array.toList_append, List.append_assoc]
    rfl
  rw [e, List.takeWhile_append_of_pos ha, List.dropWhile_append_of_pos ha]
  have t1 : (64 :: b.data.toList).takeWhile (· != (64 : UInt8)) = [] := rfl
  have t2 : (64 :: b.data.toList).dropWhile (· != (64 : UInt8)) = 64 :: b.data.toList := rfl
  rw [t1, t2, List.append_nil]
  exact ⟨rfl, rfl⟩
theorem split_uniq {a b c d : ByteArray} (ha : ∀ x ∈ a.data.toList, (x != (64 : UInt8)) = true) (hc : ∀ x ∈ c.data.toList, (x != (64 : UInt8)) = true) (h : a ++ atB ++ b = c ++ atB ++ d) : a = c ∧ b = d := by
  obtain ⟨k1, k2⟩ := split_key a b ha
  obtain ⟨m1, m2⟩ := split_key c d hc
  rw [h] at k1 k2
  refine ⟨bytes_ext (k1.symm.trans m1), bytes_ext ?_⟩
  have e := k2.symm.trans m2
  injection e
theorem get_extract (s : ByteArray) (i j k : Nat) (hj : j ≤ s.size) (h : k < (s.extract i j).size) : (s.extract i j)[k] = s[i + k]'(by rw [ByteArray.size_extract] at h; omega) := by
  rw [ByteArray.getElem_extract]
theorem mem_bytes {s : ByteArray} {c : UInt8} (h : c ∈ s.data.toList) : ∃ j, ∃ hj : j < s.size, s[j] = c := by
  obtain ⟨i, hi, rfl⟩ := List.getElem_of_mem h
  exact ⟨i, by simpa using hi, rfl⟩
theorem ne_at {c : UInt8} : (c != 64) = true ↔ c.toNat ≠ 64 := by
  rw [bne_iff_ne]
  constructor
  · intro h e
    exact h (UInt8.toNat_inj.1 e)
  · rintro h rfl
    exact h rfl
theorem at_split {s : ByteArray} {k : Nat} (h : AtIs s 0 (k : Int)) : k < s.size ∧ s = s.extract 0 k ++ atB ++ s.extract (k + 1) s.size ∧ ∀ c ∈ (s.extract 0 k).data.toList, (c != (64 : UInt8)) = true := by
  rcases h with ⟨h1, -⟩ | ⟨l, hl, h1, -, c1, d1⟩
  · omega
  · obtain rfl : k = l := by omega
    have e1 : s.extract k (k + 1) = atB := by
      apply ByteArray.ext
      apply Array.ext
      · show (s.extract k (k + 1)).size = 1
        rw [ByteArray.size_extract]; omega
      · intro i h1 h2
        have hi : i < (s.extract k (k + 1)).size := h1
        have hi0 : i = 0 := by rw [ByteArray.size_extract] at hi; omega
        subst hi0
        show (s.extract k (k + 1))[0] = 64
        rw [get_extract _ _ _ _ (by omega)]
        exact UInt8.toNat_inj.1 c1
    refine ⟨hl, ?_, fun c hc => ?_⟩
    · have e2 : s.extract 0 k ++ atB = s.extract 0 (k + 1) := by rw [← e1, cut_join _ _ _ (by omega) (by omega)]
      rw [e2, cut_join _ _ _ (by omega) (Nat.le_refl _), cut_all _ _ rfl]
    · obtain ⟨j, hj, rfl⟩ := mem_bytes hc
      have hj2 : j < k := by rw [ByteArray.size_extract] at hj; omega
      rw [ne_at, get_extract _ _ _ _ (by omega)]
      have := d1 (0 + j) (by omega) (Nat.zero_le _) (by omega)
      exact this
theorem good_noat {p : Place} (h : goodPl p = true) : ∀ c ∈ p.Good.data.toList, (c != (64 : UInt8)) = true := fun c hc => sign_noat (((nameB_iff _ _).1 ((goodPl_iff p).1 h).1).2 c hc)
theorem parse_yes {s : ByteArray} {st : Int} {k : Nat} (h : AtIs s 0 (k : Int)) (hg : goodPl ⟨s.extract 0 k, s.extract (k + 1) s.size, st⟩ = true) : parsePl s st = some ⟨s.extract 0 k, s.extract (k + 1) s.size, st⟩ :=
  parsePl_of hg (by rw [show_good hg]; exact (at_split h).2.1.symm) rfl
theorem parse_no {s : ByteArray} {st : Int} {k : Nat} (h : AtIs s 0 (k : Int)) (hg : goodPl ⟨s.extract 0 k, s.extract (k + 1) s.size, st⟩ = false) : parsePl s st = none := by
  refine parsePl_none ?_
  rintro ⟨p, hp, hs, rfl⟩
  obtain ⟨h1, h2, h3⟩ := at_split h
  rw [show_good hp] at hs
  obtain ⟨e1, e2⟩ := split_uniq (good_noat hp) h3 (hs.trans h2)
  rw [← e1, ← e2] at hg
  rw [show (⟨p.Good, p.Site, p.State⟩ : Place) = p from rfl, hp] at hg
  cases hg
theorem parse_none {s : ByteArray} {st : Int} (h : AtIs s 0 (-1)) : parsePl s st = none := by
  refine parsePl_none ?_
  rintro ⟨p, hp, hs, rfl⟩
  rw [show_good hp] at hs
  rcases h with ⟨-, h⟩ | ⟨k, _, h1, _⟩
  · have hm : (64 : UInt8) ∈ s.data.toList := by
      rw [← hs, ByteArray.data_append, ByteArray.data_append, Array.toList_append, Array.toList_append]
      exact List.mem_append_left _ (List.mem_append_right _ (List.mem_cons_self ..))
    obtain ⟨j, hj, e⟩ := mem_bytes hm
    exact h j hj (Nat.zero_le _) (by rw [e]; rfl)
  · omega
theorem noPl_bad : goodPl noPl = false := by decide +kernel
section
variable {Mo : World → Prop}
set_option maxRecDepth 100000 in
set_option maxHeartbeats 2000000 in
theorem shelfTexts_big (L : LandedSh Mo) (s : ByteArray) (hs : s.size ≤ 140737488351232) (st : Int) (w : World) (hM : Mo w) (hbig : 100 < s.size) : Calls Try.prog 3 #[.string s, .int .i64 st] w fun e w' => e = .returned (.bool true) ∧ Below w.heap.size w w' := by
  have hm0 := Hx.refl hM
  have hal := Lib.hid (fun l W (h : Hx Mo w W l) => h.ask L.later (shelfAlive_any L W h.mo))
  have hb : decide ((100 : Int) < (s.size : Int)) = true := decide_eq_true (by omega)
  clear L hM
  go_enter Try.func3, Try.ntmps3
  go_wp2_with fail
  refine (hal.out _ _ hm0).mono ?_
  rintro e w1 ⟨rfl, hm1⟩
  go_wp2
  go_ret
  exact ⟨rfl, hm1.bel⟩
set_option maxRecDepth 100000 in
set_option maxHeartbeats 4000000 in
theorem shelfTexts_none (L : LandedSh Mo) (s : ByteArray) (hs : s.size ≤ 140737488351232) (st : Int) (hst : -9223372036854775808 ≤ st ∧ st ≤ 9223372036854775807) (w : World) (hM : Mo w) (hbig : ¬ 100 < s.size) (ha0 : AtIs s 0 (-1)) : Calls Try.prog 3 #[.string s, .int .i64 st] w fun e w' => e = .returned (.bool true) ∧ Below w.heap.size w w' := by
  have hm0 := Hx.refl hM
  have hal := Lib.hid (fun l W (h : Hx Mo w W l) => h.ask L.later (shelfAlive_any L W h.mo))
  have kp := Lib.hid (fun l W (h : Hx Mo w W l) => h.ask L.later (L.parse s st W hs hst h.mo))
  have hlat := Lib.hid L.later
  have hb : decide ((100 : Int) < (s.size : Int)) = false := decide_eq_false (by omega)
  have huq := Lib.hid (fun z (h : AtIs s 0 z) => h.uniq ha0)
  rw [parse_none ha0] at kp
  have kS := Lib.hid (fun l W (h : Hx Mo w W l) => h.ask L.later (L.shows noPl W ⟨by decide, by decide, by decide⟩ h.mo))
  have hsh : showPl noPl = ⟨#[]⟩ := by unfold showPl; rw [noPl_bad]; rfl
  rw [hsh] at kS
  have hV0 : placeV ((none : Option Place).getD noPl) = .agg #[.string ⟨#[]⟩, .string ⟨#[]⟩, .int .i64 0] := rfl
  have hV1 : placeV noPl = .agg #[.string ⟨#[]⟩, .string ⟨#[]⟩, .int .i64 0] := rfl
  rw [hV0] at kp
  rw [hV1] at kS
  have hq := fun W => run_eql_noPl W
  clear hsh hV0 hV1
  clear L hM hbig hst ha0
  go_enter Try.func3, Try.ntmps3
  go_wp2_with fail
  refine (hal.out _ _ hm0).mono ?_
  rintro e w1 ⟨rfl, hm1⟩
  go_wp2_with fail
  refine (kp.out _ _ hm1).mono ?_
  rintro e w2 ⟨rfl, hm2⟩
  have hm3 := hm2.new hlat.out [.string ⟨#[]⟩, .string ⟨#[]⟩, .int .i64 0] 24
  go_wp2
  go_loopw [7, 8] (fun a i wr => ∃ m : Nat, m ≤ s.size ∧ i = .int .i64 ((m : Int) - 1) ∧ (∃ z : Int, a = .int .i64 z ∧ AtIs s m z) ∧ Hx Mo w wr [(w2.heap.size, [.string ⟨#[]⟩, .string ⟨#[]⟩, .int .i64 0])]) (fun _ i _ => (RowKit.intOf i + 1).toNat)
  case atStart => exact ⟨s.size, Nat.le_refl _, rfl, ⟨-1, rfl, AtIs.start s⟩, hm3⟩
  case round =>
    clear hm3
    obtain ⟨m, hm, rfl, ⟨z, rfl, hat⟩, hm3⟩ := hrel
    by_cases hpos : 0 < m
    · obtain ⟨j, rfl⟩ : ∃ j, m = j + 1 := ⟨m - 1, by omega⟩
      have hj : j < s.size := by omega
      have hhit := Lib.hid (fun hc => AtIs.hit (s := s) (m := j) hj hc)
      have hmiss := Lib.hid (fun hc => AtIs.miss (s := s) (m := j) hat hj hc)
      clear hat
      have ej : (((j + 1 : Nat) : Int) - 1) = (j : Int) := by omega
      rw [ej]
      clear ej
      have hj8 : s[j].toNat < 256 := UInt8.toNat_lt _
      by_cases hc : s[j].toNat = 64
      · have hcb : (((s[j].toNat : Nat) : Int) == 64) = true := by rw [beq_iff_eq]; omega
        have hh := Lib.hid (hhit.out hc)
        clear hhit hmiss hc
        go_wp2
        exact ⟨⟨j, by omega, rfl, ⟨_, rfl, hh.out⟩, hm3⟩, by simp [RowKit.intOf]⟩
      · have hcb : (((s[j].toNat : Nat) : Int) == 64) = false := by rw [beq_eq_false_iff_ne]; omega
        have hh := Lib.hid (hmiss.out hc)
        clear hhit hmiss hc
        go_wp2
        exact ⟨⟨j, by omega, rfl, ⟨_, rfl, hh.out⟩, hm3⟩, by simp [RowKit.intOf]⟩
    · obtain rfl : m = 0 := by omega
      obtain rfl := huq.out z hat
      clear hat huq
      go_wp2_with fail
      refine wp_region_calm (fun w' => Hx Mo w w' [(w2.heap.size, [.string ⟨#[]⟩, .string ⟨#[]⟩, .int .i64 0])]) (by kernel_rfl) (by kernel_rfl) (hm3.drew hlat.out) ?_
      refine calm_pure (v := ?cv189) (by rfl) (fun w' => ?ch189) ?cr189
      case ch189 => (go_simp; first | done | with_reducible rfl)
      try simp only [Act.put, List.setIfInBounds_toArray, List.set_cons_zero, List.set_cons_succ]
      refine calm_pure (v := ?cv192) (by rfl) (fun w' => ?ch192) ?cr192
      case ch192 => (go_simp; first | done | with_reducible rfl)
      try simp only [Act.put, List.setIfInBounds_toArray, List.set_cons_zero, List.set_cons_succ]
      refine calm_pure (v := ?cv195) (by rfl) (fun w' => ?ch195) ?cr195
      case ch195 => (go_simp; first | done | with_reducible rfl)
      try simp only [Act.put, List.setIfInBounds_toArray, List.set_cons_zero, List.set_cons_succ]
      refine calm_skip (by rfl) ?_
      try simp only [Act.put, List.setIfInBounds_toArray, List.set_cons_zero, List.set_cons_succ]
      refine calm_skip (by rfl) ?_
      try simp only [Act.put, List.setIfInBounds_toArray, List.set_cons_zero, List.set_cons_succ]
      refine calm_skip (by rfl) ?_
      try simp only [Act.put, List.setIfInBounds_toArray, List.set_cons_zero, List.set_cons_succ]
      refine calm_skip (by rfl) ?_
      try simp only [Act.put, List.setIfInBounds_toArray, List.set_cons_zero, List.set_cons_succ]
      refine calm_skip (by rfl) ?_
      try simp only [Act.put, List.setIfInBounds_toArray, List.set_cons_zero, List.set_cons_succ]
      refine calm_skip (by rfl) ?_
      try simp only [Act.put, List.setIfInBounds_toArray, List.set_cons_zero, List.set_cons_succ]
      refine calm_skip (by rfl) ?_
      try simp only [Act.put, List.setIfInBounds_toArray, List.set_cons_zero, List.set_cons_succ]
      refine calm_skip (by rfl) ?_
      try simp only [Act.put, List.setIfInBounds_toArray, List.set_cons_zero, List.set_cons_succ]
      refine calm_skip (by rfl) ?_
      try simp only [Act.put, List.setIfInBounds_toArray, List.set_cons_zero, List.set_cons_succ]
      refine calm_skip (by rfl) ?_
      try simp only [Act.put, List.setIfInBounds_toArray, List.set_cons_zero, List.set_cons_succ]
      refine calm_pure (v := ?cv218) (by rfl) (fun w' => ?ch218) ?cr218
      case ch218 => (go_simp; first | done | with_reducible rfl)
      try simp only [Act.put, List.setIfInBounds_toArray, List.set_cons_zero, List.set_cons_succ]
      refine calm_pure (v := ?cv221) (by rfl) (fun w' => ?ch221) ?cr221
      case ch221 => (go_simp; first | done | with_reducible rfl)
      try simp only [Act.put, List.setIfInBounds_toArray, List.set_cons_zero, List.set_cons_succ]
      intro w4 hm4
      have y0 := (hm4.box _ (List.mem_cons_self ..)).spot 0 _ rfl
      have y1 := (hm4.box _ (List.mem_cons_self ..)).spot 1 _ rfl
      have y2 := (hm4.box _ (List.mem_cons_self ..)).spot 2 _ rfl
      have yl := (hm4.box _ (List.mem_cons_self ..)).lt
      go_wp2_with fail
      refine (kS.out _ _ hm4).mono ?_
      rintro e w5 ⟨rfl, hm5⟩
      go_wp2
      go_ret
      exact ⟨rfl, hm5.bel⟩
set_option maxRecDepth 100000 in
set_option maxHeartbeats 4000000 in
theorem shelfTexts_no (L : LandedSh Mo) (s : ByteArray) (hs : s.size ≤ 140737488351232) (st : Int) (hst : -9223372036854775808 ≤ st ∧ st ≤ 9223372036854775807) (w : World) (hM : Mo w) (hbig : ¬ 100 < s.size) (k : Nat) (ha0 : AtIs s 0 (k : Int)) (hg : goodPl ⟨s.extract 0 k, s.extract (k + 1) s.size, st⟩ = false) : Calls Try.prog 3 #[.string s, .int .i64 st] w fun e w' => e = .returned (.bool true) ∧ Below w.heap.size w w' := by
  have hm0 := Hx.refl hM
  have hal := Lib.hid (fun l W (h : Hx Mo w W l) => h.ask L.later (shelfAlive_any L W h.mo))
  have kp := Lib.hid (fun l W (h : Hx Mo w W l) => h.ask L.later (L.parse s st W hs hst h.mo))
  have hlat := Lib.hid L.later
  have hb : decide ((100 : Int) < (s.size : Int)) = false := decide_eq_false (by omega)
  have huq := Lib.hid (fun z (h : AtIs s 0 z) => h.uniq ha0)
  obtain ⟨hk, hsp, -⟩ := at_split ha0
  have hkz : (0 : Int) ≤ (k : Int) := by omega
  have hge : decide ((0 : Int) ≤ (k : Int)) = true := decide_eq_true hkz
  have hmax : max (k : Int) 0 = (k : Int) := by rw [Int.max_def]; split <;> omega
  have hw1 : IntKind.i64.wrap ((k : Int) + 1) = (k : Int) + 1 := by rw [IntKind.wrap_i64]; omega
  have hto := fun W => str_toT s k (by omega) W
  have hfr : ∀ W, (Instr.sliceAt 9 (.string s) (some (.int .i64 ((k : Int) + 1))) none none).run Try.prog W = .ok (.string (s.extract (k + 1) s.size)) W := fun W => str_fromT s (k + 1) (by omega) W
  have kg := Lib.hid (fun l W (h : Hx Mo w W l) => h.ask L.later ((refgood26_any ⟨s.extract 0 k, s.extract (k + 1) s.size, st⟩ ⟨by show (s.extract 0 k).size ≤ _; rw [ByteArray.size_extract]; omega, by show (s.extract (k + 1) s.size).size ≤ _; rw [ByteArray.size_extract]; omega, hst⟩ W).mono (fun _ _ e => ⟨e.1, by rw [← e.2]; exact Below.refl _ _⟩)))
  rw [hg] at kg
  rw [parse_no ha0 hg] at kp
  have kS := Lib.hid (fun l W (h : Hx Mo w W l) => h.ask L.later (L.shows noPl W ⟨by decide, by decide, by decide⟩ h.mo))
  have hsh : showPl noPl = ⟨#[]⟩ := by unfold showPl; rw [noPl_bad]; rfl
  rw [hsh] at kS
  have hV0 : placeV ((none : Option Place).getD noPl) = .agg #[.string ⟨#[]⟩, .string ⟨#[]⟩, .int .i64 0] := rfl
  have hV1 : placeV noPl = .agg #[.string ⟨#[]⟩, .string ⟨#[]⟩, .int .i64 0] := rfl
  rw [hV0] at kp
  rw [hV1] at kS
  have hq := fun W => run_eql_noPl W
  clear hsh hV0 hV1
  clear hsp
  generalize s.extract 0 k = G at *
  generalize s.extract (k + 1) s.size = T at *
  clear L hM hbig hst ha0
  go_enter Try.func3, Try.ntmps3
  go_wp2_with fail
  refine (hal.out _ _ hm0).mono ?_
  rintro e w1 ⟨rfl, hm1⟩
  go_wp2_with fail
  refine (kp.out _ _ hm1).mono ?_
  rintro e w2 ⟨rfl, hm2⟩
  have hm3 := hm2.new hlat.out [.string ⟨#[]⟩, .string ⟨#[]⟩, .int .i64 0] 24
  go_wp2
  go_loopw [7, 8] (fun a i wr => ∃ m : Nat, m ≤ s.size ∧ i = .int .i64 ((m : Int) - 1) ∧ (∃ z : Int, a = .int .i64 z ∧ AtIs s m z) ∧ Hx Mo w wr [(w2.heap.size, [.string ⟨#[]⟩, .string ⟨#[]⟩, .int .i64 0])]) (fun _ i _ => (RowKit.intOf i + 1).toNat)
  case atStart => exact ⟨s.size, Nat.le_refl _, rfl, ⟨-1, rfl, AtIs.start s⟩, hm3⟩
  case round =>
    clear hm3
    obtain ⟨m, hm, rfl, ⟨z, rfl, hat⟩, hm3⟩ := hrel
    by_cases hpos : 0 < m
    · obtain ⟨j, rfl⟩ : ∃ j, m = j + 1 := ⟨m - 1, by omega⟩
      have hj : j < s.size := by omega
      have hhit := Lib.hid (fun hc => AtIs.hit (s := s) (m := j) hj hc)
      have hmiss := Lib.hid (fun hc => AtIs.miss (s := s) (m := j) hat hj hc)
      clear hat
      have ej : (((j + 1 : Nat) : Int) - 1) = (j : Int) := by omega
      rw [ej]
      clear ej
      have hj8 : s[j].toNat < 256 := UInt8.toNat_lt _
      by_cases hc : s[j].toNat = 64
      · have hcb : (((s[j].toNat : Nat) : Int) == 64) = true := by rw [beq_iff_eq]; omega
        have hh := Lib.hid (hhit.out hc)
        clear hhit hmiss hc
        go_wp2
        exact ⟨⟨j, by omega, rfl, ⟨_, rfl, hh.out⟩, hm3⟩, by simp [RowKit.intOf]⟩
      · have hcb : (((s[j].toNat : Nat) : Int) == 64) = false := by rw [beq_eq_false_iff_ne]; omega
        have hh := Lib.hid (hmiss.out hc)
        clear hhit hmiss hc
        go_wp2
        exact ⟨⟨j, by omega, rfl, ⟨_, rfl, hh.out⟩, hm3⟩, by simp [RowKit.intOf]⟩
    · obtain rfl : m = 0 := by omega
      obtain rfl := huq.out z hat
      clear hat huq
      go_wp2_with fail
      refine wp_region_calm (fun w' => Hx Mo w w' [(w2.heap.size, [.string ⟨#[]⟩, .string ⟨#[]⟩, .int .i64 0])]) (by kernel_rfl) (by kernel_rfl) (hm3.drew hlat.out) ?_
      refine calm_pure (v := ?cv307) (by rfl) (fun w' => ?ch307) ?cr307
      case ch307 => (go_simp; first | done | with_reducible rfl)
      try simp only [Act.put, List.setIfInBounds_toArray, List.set_cons_zero, List.set_cons_succ]
      refine calm_pure (v := ?cv310) (by rfl) (fun w' => ?ch310) ?cr310
      case ch310 => (go_simp; first | done | with_reducible rfl)
      try simp only [Act.put, List.setIfInBounds_toArray, List.set_cons_zero, List.set_cons_succ]
      refine calm_pure (v := ?cv313) (by rfl) (fun w' => ?ch313) ?cr313
      case ch313 => (go_simp; first | done | with_reducible rfl)
      try simp only [Act.put, List.setIfInBounds_toArray, List.set_cons_zero, List.set_cons_succ]
      refine calm_pure (v := ?cv316) (by rfl) (fun w' => ?ch316) ?cr316
      case ch316 => (go_simp; first | done | with_reducible rfl)
      try simp only [Act.put, List.setIfInBounds_toArray, List.set_cons_zero, List.set_cons_succ]
      refine calm_pure (v := ?cv319) (by rfl) (fun w' => ?ch319) ?cr319
      case ch319 => (go_simp; first | done | with_reducible rfl)
      try simp only [Act.put, List.setIfInBounds_toArray, List.set_cons_zero, List.set_cons_succ]
      refine calm_pure (v := ?cv322) (by rfl) (fun w' => ?ch322) ?cr322
      case ch322 => (go_simp; first | done | with_reducible rfl)
      try simp only [Act.put, List.setIfInBounds_toArray, List.set_cons_zero, List.set_cons_succ]
      refine calm_pure (v := ?cv325) (by rfl) (fun w' => ?ch325) ?cr325
      case ch325 => (go_simp; first | done | with_reducible rfl)
      try simp only [Act.put, List.setIfInBounds_toArray, List.set_cons_zero, List.set_cons_succ]
      refine calm_pure (v := ?cv328) (by rfl) (fun w' => ?ch328) ?cr328
      case ch328 => (go_simp; first | done | with_reducible rfl)
      try simp only [Act.put, List.setIfInBounds_toArray, List.set_cons_zero, List.set_cons_succ]
      refine calm_pure (v := ?cv331) (by rfl) (fun w' => ?ch331) ?cr331
      case ch331 => (go_simp; first | done | with_reducible rfl)
      try simp only [Act.put, List.setIfInBounds_toArray, List.set_cons_zero, List.set_cons_succ]
      refine calm_pure (v := ?cv334) (by rfl) (fun w' => ?ch334) ?cr334
      case ch334 => (go_simp; first | done | with_reducible rfl)
      try simp only [Act.put, List.setIfInBounds_toArray, List.set_cons_zero, List.set_cons_succ]
      refine calm_pure (v := ?cv337) (by rfl) (fun w' => ?ch337) ?cr337
      case ch337 => (go_simp; first | done | with_reducible rfl)
      try simp only [Act.put, List.setIfInBounds_toArray, List.set_cons_zero, List.set_cons_succ]
      refine calm_pure (v := ?cv340) (by rfl) (fun w' => ?ch340) ?cr340
      case ch340 => (go_simp; first | done | with_reducible rfl)
      try simp only [Act.put, List.setIfInBounds_toArray, List.set_cons_zero, List.set_cons_succ]
      refine calm_call 7 #[.string G, .string T, .int .i64 st] (by rfl) (fun w' => by go_simp) (fun w' h => (kg.out _ w' h)) ?_
      try simp only [Act.put, List.setIfInBounds_toArray, List.set_cons_zero, List.set_cons_succ]
      refine calm_pure (v := ?cv345) (by rfl) (fun w' => ?ch345) ?cr345
      case ch345 => (go_simp; first | done | with_reducible rfl)
      try simp only [Act.put, List.setIfInBounds_toArray, List.set_cons_zero, List.set_cons_succ]
      refine calm_pure (v := ?cv348) (by rfl) (fun w' => ?ch348) ?cr348
      case ch348 => (go_simp; first | done | with_reducible rfl)
      try simp only [Act.put, List.setIfInBounds_toArray, List.set_cons_zero, List.set_cons_succ]
      intro w4 hm4
      have y0 := (hm4.box _ (List.mem_cons_self ..)).spot 0 _ rfl
      have y1 := (hm4.box _ (List.mem_cons_self ..)).spot 1 _ rfl
      have y2 := (hm4.box _ (List.mem_cons_self ..)).spot 2 _ rfl
      have yl := (hm4.box _ (List.mem_cons_self ..)).lt
      go_wp2_with fail
      refine (kS.out _ _ hm4).mono ?_
      rintro e w5 ⟨rfl, hm5⟩
      go_wp2
      go_ret
      exact ⟨rfl, hm5.bel⟩
set_option maxRecDepth 100000 in
set_option maxHeartbeats 4000000 in
theorem shelfTexts_yes (L : LandedSh Mo) (s : ByteArray) (hs : s.size ≤ 140737488351232) (st : Int) (hst : -9223372036854775808 ≤ st ∧ st ≤ 9223372036854775807) (w : World) (hM : Mo w) (hbig : ¬ 100 < s.size) (k : Nat) (ha0 : AtIs s 0 (k : Int)) (hg : goodPl ⟨s.extract 0 k, s.extract (k + 1) s.size, st⟩ = true) : Calls Try.prog 3 #[.string s, .int .i64 st] w fun e w' => e = .returned (.bool true) ∧ Below w.heap.size w w' := by
  have hm0 := Hx.refl hM
  have hal := Lib.hid (fun l W (h : Hx Mo w W l) => h.ask L.later (shelfAlive_any L W h.mo))
  have kp := Lib.hid (fun l W (h : Hx Mo w W l) => h.ask L.later (L.parse s st W hs hst h.mo))
  have hlat := Lib.hid L.later
  have hb : decide ((100 : Int) < (s.size : Int)) = false := decide_eq_false (by omega)
  have huq := Lib.hid (fun z (h : AtIs s 0 z) => h.uniq ha0)
  obtain ⟨hk, hsp, -⟩ := at_split ha0
  have hkz : (0 : Int) ≤ (k : Int) := by omega
  have hge : decide ((0 : Int) ≤ (k : Int)) = true := decide_eq_true hkz
  have hmax : max (k : Int) 0 = (k : Int) := by rw [Int.max_def]; split <;> omega
  have hw1 : IntKind.i64.wrap ((k : Int) + 1) = (k : Int) + 1 := by rw [IntKind.wrap_i64]; omega
  have hto := fun W => str_toT s k (by omega) W
  have hfr : ∀ W, (Instr.sliceAt 9 (.string s) (some (.int .i64 ((k : Int) + 1))) none none).run Try.prog W = .ok (.string (s.extract (k + 1) s.size)) W := fun W => str_fromT s (k + 1) (by omega) W
  have kg := Lib.hid (fun l W (h : Hx Mo w W l) => h.ask L.later ((refgood26_any ⟨s.extract 0 k, s.extract (k + 1) s.size, st⟩ ⟨by show (s.extract 0 k).size ≤ _; rw [ByteArray.size_extract]; omega, by show (s.extract (k + 1) s.size).size ≤ _; rw [ByteArray.size_extract]; omega, hst⟩ W).mono (fun _ _ e => ⟨e.1, by rw [← e.2]; exact Below.refl _ _⟩)))
  rw [hg] at kg
  rw [parse_yes ha0 hg] at kp
  have hO : (Option.some (⟨s.extract 0 k, s.extract (k + 1) s.size, st⟩ : Place)).getD noPl = ⟨s.extract 0 k, s.extract (k + 1) s.size, st⟩ := rfl
  rw [hO] at kp
  have kS := Lib.hid (fun l W (h : Hx Mo w W l) => h.ask L.later (L.shows ⟨s.extract 0 k, s.extract (k + 1) s.size, st⟩ W (good_wf hg) h.mo))
  have hsh : showPl ⟨s.extract 0 k, s.extract (k + 1) s.size, st⟩ = s := by rw [show_good hg]; exact hsp.symm
  rw [hsh] at kS
  have hV : placeV ⟨s.extract 0 k, s.extract (k + 1) s.size, st⟩ = .agg (Place.cells ⟨s.extract 0 k, s.extract (k + 1) s.size, st⟩).toArray := rfl
  rw [hV] at kp kS
  have hMl : (Place.cells ⟨s.extract 0 k, s.extract (k + 1) s.size, st⟩).toArray.size = 3 := rfl
  have hM1 : (Place.cells ⟨s.extract 0 k, s.extract (k + 1) s.size, st⟩).toArray.all (·.oneCell') = true := by unfold Place.cells; simp [Value.oneCell']
  have hMi := Lib.hid (show (Try.prog.info? 24).map (·.size) = some (Place.cells ⟨s.extract 0 k, s.extract (k + 1) s.size, st⟩).length by rw [Place.cells_length]; kernel_rfl)
  have hc0 := Lib.hid (fun W b l (h : Hx Mo w W l) (hm : (b, Place.cells ⟨s.extract 0 k, s.extract (k + 1) s.size, st⟩) ∈ l) => (show W.cell? ⟨b, 0, none⟩ = some (.string (s.extract 0 k)) ∧ b < W.heap.size from ⟨(h.box _ hm).spot 0 _ rfl, (h.box _ hm).lt⟩))
  have hc2 := Lib.hid (fun W b l (h : Hx Mo w W l) (hm : (b, Place.cells ⟨s.extract 0 k, s.extract (k + 1) s.size, st⟩) ∈ l) => (show W.cell? ⟨b, 2, none⟩ = some (.int .i64 st) ∧ b < W.heap.size from ⟨(h.box _ hm).spot 2 _ rfl, (h.box _ hm).lt⟩))
  generalize Place.cells ⟨s.extract 0 k, s.extract (k + 1) s.size, st⟩ = M at *
  clear hO hV hsh hg
  clear hsp
  generalize s.extract 0 k = G at *
  generalize s.extract (k + 1) s.size = T at *
  clear L hM hbig hst ha0
  go_enter Try.func3, Try.ntmps3
  go_wp2_with fail
  refine (hal.out _ _ hm0).mono ?_
  rintro e w1 ⟨rfl, hm1⟩
  go_wp2_with fail
  refine (kp.out _ _ hm1).mono ?_
  rintro e w2 ⟨rfl, hm2⟩
  have hm3 := hm2.new hlat.out M 24
  go_wp2_with (first | (refine wpList_store_new rfl 24 _ _ rfl w2 _ M.toArray rfl rfl rfl (by rw [hMl]; kernel_rfl) (by rw [hMl]; rfl) hM1 ?_))
  go_loopw [7, 8] (fun a i wr => ∃ m : Nat, m ≤ s.size ∧ i = .int .i64 ((m : Int) - 1) ∧ (∃ z : Int, a = .int .i64 z ∧ AtIs s m z) ∧ Hx Mo w wr [(w2.heap.size, M)]) (fun _ i _ => (RowKit.intOf i + 1).toNat)
  case atStart => exact ⟨s.size, Nat.le_refl _, rfl, ⟨-1, rfl, AtIs.start s⟩, hm3⟩
  case round =>
    clear hm3
    obtain ⟨m, hm, rfl, ⟨z, rfl, hat⟩, hm3⟩ := hrel
    by_cases hpos : 0 < m
    · obtain ⟨j, rfl⟩ : ∃ j, m = j + 1 := ⟨m - 1, by omega⟩
      have hj : j < s.size := by omega
      have hhit := Lib.hid (fun hc => AtIs.hit (s := s) (m := j) hj hc)
      have hmiss := Lib.hid (fun hc => AtIs.miss (s := s) (m := j) hat hj hc)
      clear hat
      have ej : (((j + 1 : Nat) : Int) - 1) = (j : Int) := by omega
      rw [ej]
      clear ej
      have hj8 : s[j].toNat < 256 := UInt8.toNat_lt _
      by_cases hc : s[j].toNat = 64
      · have hcb : (((s[j].toNat : Nat) : Int) == 64) = true := by rw [beq_iff_eq]; omega
        have hh := Lib.hid (hhit.out hc)
        clear hhit hmiss hc
        go_wp2
        exact ⟨⟨j, by omega, rfl, ⟨_, rfl, hh.out⟩, hm3⟩, by simp [RowKit.intOf]⟩
      · have hcb : (((s[j].toNat : Nat) : Int) == 64) = false := by rw [beq_eq_false_iff_ne]; omega
        have hh := Lib.hid (hmiss.out hc)
        clear hhit hmiss hc
        go_wp2
        exact ⟨⟨j, by omega, rfl, ⟨_, rfl, hh.out⟩, hm3⟩, by simp [RowKit.intOf]⟩
    · obtain rfl : m = 0 := by omega
      obtain rfl := huq.out z hat
      clear hat huq
      go_wp2_with fail
      refine wp_region_calm (fun w' => Hx Mo w w' [(w2.heap.size, M)]) (by kernel_rfl) (by kernel_rfl) (hm3.drew hlat.out) ?_
      refine calm_pure (v := ?cv439) (by rfl) (fun w' => ?ch439) ?cr439
      case ch439 => (go_simp; first | done | with_reducible rfl)
      try simp only [Act.put, List.setIfInBounds_toArray, List.set_cons_zero, List.set_cons_succ]
      refine calm_pure (v := ?cv442) (by rfl) (fun w' => ?ch442) ?cr442
      case ch442 => (go_simp; first | done | with_reducible rfl)
      try simp only [Act.put, List.setIfInBounds_toArray, List.set_cons_zero, List.set_cons_succ]
      refine calm_pure (v := ?cv445) (by rfl) (fun w' => ?ch445) ?cr445
      case ch445 => (go_simp; first | done | with_reducible rfl)
      try simp only [Act.put, List.setIfInBounds_toArray, List.set_cons_zero, List.set_cons_succ]
      refine calm_pure (v := ?cv448) (by rfl) (fun w' => ?ch448) ?cr448
      case ch448 => (go_simp; first | done | with_reducible rfl)
      try simp only [Act.put, List.setIfInBounds_toArray, List.set_cons_zero, List.set_cons_succ]
      refine calm_pure (v := ?cv451) (by rfl) (fun w' => ?ch451) ?cr451
      case ch451 => (go_simp; first | done | with_reducible rfl)
      try simp only [Act.put, List.setIfInBounds_toArray, List.set_cons_zero, List.set_cons_succ]
      refine calm_pure (v := ?cv454) (by rfl) (fun w' => ?ch454) ?cr454
      case ch454 => (go_simp; first | done | with_reducible rfl)
      try simp only [Act.put, List.setIfInBounds_toArray, List.set_cons_zero, List.set_cons_succ]
      refine calm_pure (v := ?cv457) (by rfl) (fun w' => ?ch457) ?cr457
      case ch457 => (go_simp; first | done | with_reducible rfl)
      try simp only [Act.put, List.setIfInBounds_toArray, List.set_cons_zero, List.set_cons_succ]
      refine calm_pure (v := ?cv460) (by rfl) (fun w' => ?ch460) ?cr460
      case ch460 => (go_simp; first | done | with_reducible rfl)
      try simp only [Act.put, List.setIfInBounds_toArray, List.set_cons_zero, List.set_cons_succ]
      refine calm_pure (v := ?cv463) (by rfl) (fun w' => ?ch463) ?cr463
      case ch463 => (go_simp; first | done | with_reducible rfl)
      try simp only [Act.put, List.setIfInBounds_toArray, List.set_cons_zero, List.set_cons_succ]
      refine calm_pure (v := ?cv466) (by rfl) (fun w' => ?ch466) ?cr466
      case ch466 => (go_simp; first | done | with_reducible rfl)
      try simp only [Act.put, List.setIfInBounds_toArray, List.set_cons_zero, List.set_cons_succ]
      refine calm_pure (v := ?cv469) (by rfl) (fun w' => ?ch469) ?cr469
      case ch469 => (go_simp; first | done | with_reducible rfl)
      try simp only [Act.put, List.setIfInBounds_toArray, List.set_cons_zero, List.set_cons_succ]
      refine calm_pure (v := ?cv472) (by rfl) (fun w' => ?ch472) ?cr472
      case ch472 => (go_simp; first | done | with_reducible rfl)
      try simp only [Act.put, List.setIfInBounds_toArray, List.set_cons_zero, List.set_cons_succ]
      refine calm_call 7 #[.string G, .string T, .int .i64 st] (by rfl) (fun w' => by go_simp) (fun w' h => (kg.out _ w' h)) ?_
      try simp only [Act.put, List.setIfInBounds_toArray, List.set_cons_zero, List.set_cons_succ]
      refine calm_pure (v := ?cv477) (by rfl) (fun w' => ?ch477) ?cr477
      case ch477 => (go_simp; first | done | with_reducible rfl)
      try simp only [Act.put, List.setIfInBounds_toArray, List.set_cons_zero, List.set_cons_succ]
      refine calm_pure (v := ?cv480) (by rfl) (fun w' => ?ch480) ?cr480
      case ch480 => (go_simp; first | done | with_reducible rfl)
      try simp only [Act.put, List.setIfInBounds_toArray, List.set_cons_zero, List.set_cons_succ]
      intro w4 hm4
      go_wp2_with fail
      refine wp_region_calm (fun w' => Hx Mo w w' [(w2.heap.size, M)]) (by kernel_rfl) (by kernel_rfl) (hm4.drew hlat.out) ?_
      refine calm_pure (v := ?cv486) (by rfl) (fun w' => ?ch486) ?cr486
      case ch486 => (go_simp; first | done | with_reducible rfl)
      try simp only [Act.put, List.setIfInBounds_toArray, List.set_cons_zero, List.set_cons_succ]
      refine calm_pure (v := ?cv489) (by rfl) (fun w' => ?ch489) ?cr489
      case ch489 => (go_simp; first | done | with_reducible rfl)
      try simp only [Act.put, List.setIfInBounds_toArray, List.set_cons_zero, List.set_cons_succ]
      refine calm_pure (v := ?cv492) (by rfl) (fun w' => ?ch492) ?cr492
      case ch492 => (go_simp; first | done | with_reducible rfl)
      try simp only [Act.put, List.setIfInBounds_toArray, List.set_cons_zero, List.set_cons_succ]
      refine calm_pure (v := ?cv495) (by rfl) (fun w' => ?ch495) ?cr495
      case ch495 => (go_simp; first | done | with_reducible rfl)
      try simp only [Act.put, List.setIfInBounds_toArray, List.set_cons_zero, List.set_cons_succ]
      refine calm_read (v := .int .i64 st) (by rfl) (fun w' h => ?ch498) ?cr498
      case ch498 => (obtain ⟨hcq, hcl⟩ := hc2.out _ w2.heap.size _ h (by simp); go_simp)
      try simp only [Act.put, List.setIfInBounds_toArray, List.set_cons_zero, List.set_cons_succ]
      refine calm_pure (v := ?cv501) (by rfl) (fun w' => ?ch501) ?cr501
      case ch501 => (go_simp; first | done | with_reducible rfl)
      try simp only [Act.put, List.setIfInBounds_toArray, List.set_cons_zero, List.set_cons_succ]
      refine calm_pure (v := ?cv504) (by rfl) (fun w' => ?ch504) ?cr504
      case ch504 => (go_simp; first | done | with_reducible rfl)
      try simp only [Act.put, List.setIfInBounds_toArray, List.set_cons_zero, List.set_cons_succ]
      refine calm_pure (v := ?cv507) (by rfl) (fun w' => ?ch507) ?cr507
      case ch507 => (go_simp; first | done | with_reducible rfl)
      try simp only [Act.put, List.setIfInBounds_toArray, List.set_cons_zero, List.set_cons_succ]
      refine calm_pure (v := ?cv510) (by rfl) (fun w' => ?ch510) ?cr510
      case ch510 => (go_simp; first | done | with_reducible rfl)
      try simp only [Act.put, List.setIfInBounds_toArray, List.set_cons_zero, List.set_cons_succ]
      refine calm_load 24 _ (w2.heap.size) 0 (M) _ (by rfl) rfl rfl (fun w' h => (h.box (w2.heap.size, M) (by simp)).range) Try.underlying24 rfl (by first | exact hMi.out | exact hNi.out | exact hCi.out | exact hDi.out | kernel_rfl) ?_
      try simp only [Act.put, List.setIfInBounds_toArray, List.set_cons_zero, List.set_cons_succ]
      refine calm_call 8 #[.agg M.toArray] (by rfl) (fun w' => by go_simp) (fun w' h => (kS.out _ w' h)) ?_
      try simp only [Act.put, List.setIfInBounds_toArray, List.set_cons_zero, List.set_cons_succ]
      refine calm_pure (v := ?cv517) (by rfl) (fun w' => ?ch517) ?cr517
      case ch517 => (go_simp; first | done | with_reducible rfl)
      try simp only [Act.put, List.setIfInBounds_toArray, List.set_cons_zero, List.set_cons_succ]
      refine calm_pure (v := ?cv520) (by rfl) (fun w' => ?ch520) ?cr520
      case ch520 => (go_simp; first | done | with_reducible rfl)
      try simp only [Act.put, List.setIfInBounds_toArray, List.set_cons_zero, List.set_cons_succ]
      refine calm_pure (v := ?cv523) (by rfl) (fun w' => ?ch523) ?cr523
      case ch523 => (go_simp; first | done | with_reducible rfl)
      try simp only [Act.put, List.setIfInBounds_toArray, List.set_cons_zero, List.set_cons_succ]
      refine calm_pure (v := ?cv526) (by rfl) (fun w' => ?ch526) ?cr526
      case ch526 => (go_simp; first | done | with_reducible rfl)
      try simp only [Act.put, List.setIfInBounds_toArray, List.set_cons_zero, List.set_cons_succ]
      refine calm_pure (v := ?cv529) (by rfl) (fun w' => ?ch529) ?cr529
      case ch529 => (go_simp; first | done | with_reducible rfl)
      try simp only [Act.put, List.setIfInBounds_toArray, List.set_cons_zero, List.set_cons_succ]
      refine calm_read (v := .string G) (by rfl) (fun w' h => ?ch532) ?cr532
      case ch532 => (obtain ⟨hcq, hcl⟩ := hc0.out _ w2.heap.size _ h (by simp); go_simp)
      try simp only [Act.put, List.setIfInBounds_toArray, List.set_cons_zero, List.set_cons_succ]
      refine calm_pure (v := ?cv535) (by rfl) (fun w' => ?ch535) ?cr535
      case ch535 => (go_simp; first | done | with_reducible rfl)
      try simp only [Act.put, List.setIfInBounds_toArray, List.set_cons_zero, List.set_cons_succ]
      refine calm_pure (v := ?cv538) (by rfl) (fun w' => ?ch538) ?cr538
      case ch538 => (go_simp; first | done | with_reducible rfl)
      try simp only [Act.put, List.setIfInBounds_toArray, List.set_cons_zero, List.set_cons_succ]
      refine calm_pure (v := ?cv541) (by rfl) (fun w' => ?ch541) ?cr541
      case ch541 => (go_simp; first | done | with_reducible rfl)
      try simp only [Act.put, List.setIfInBounds_toArray, List.set_cons_zero, List.set_cons_succ]
      refine calm_pure (v := ?cv544) (by rfl) (fun w' => ?ch544) ?cr544
      case ch544 => (go_simp; first | done | with_reducible rfl)
      try simp only [Act.put, List.setIfInBounds_toArray, List.set_cons_zero, List.set_cons_succ]
      refine calm_pure (v := ?cv547) (by rfl) (fun w' => ?ch547) ?cr547
      case ch547 => (go_simp; first | done | with_reducible rfl)
      try simp only [Act.put, List.setIfInBounds_toArray, List.set_cons_zero, List.set_cons_succ]
      refine calm_pure (v := ?cv550) (by rfl) (fun w' => ?ch550) ?cr550
      case ch550 => (go_simp; first | done | with_reducible rfl)
      try simp only [Act.put, List.setIfInBounds_toArray, List.set_cons_zero, List.set_cons_succ]
      intro w5 hm5
      go_wp2
      go_ret
      exact ⟨rfl, hm5.bel⟩
theorem shelfTexts_any (L : LandedSh Mo) (s : ByteArray) (hs : s.size ≤ 140737488351232) (st : Int) (hst : -9223372036854775808 ≤ st ∧ st ≤ 9223372036854775807) (w : World) (hM : Mo w) : Calls Try.prog 3 #[.string s, .int .i64 st] w fun e w' => e = .returned (.bool true) ∧ Below w.heap.size w w' := by
  by_cases hbig : 100 < s.size
  · exact shelfTexts_big L s hs st w hM hbig
  obtain ⟨a, ha⟩ := AtIs.some s s.size 0 (by omega)
  have hc : a = -1 ∨ ∃ k : Nat, a = (k : Int) := by
    rcases ha with ⟨h, -⟩ | ⟨k, -, h, -⟩
    · exact .inl h
    · exact .inr ⟨k, h⟩
  rcases hc with rfl | ⟨k, rfl⟩
  · exact shelfTexts_none L s hs st hst w hM hbig ha
  · cases hg : goodPl ⟨s.extract 0 k, s.extract (k + 1) s.size, st⟩
    · exact shelfTexts_no L s hs st hst w hM hbig k ha hg
    · exact shelfTexts_yes L s hs st hst w hM hbig k ha hg
end
end Go.Proofs.Ytdphflbgecnhkaa
