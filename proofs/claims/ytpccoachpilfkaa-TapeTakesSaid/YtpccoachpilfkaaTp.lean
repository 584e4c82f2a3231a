/- The law's own writing of items, walked out of the landed writer's contracts. -/
import Derived.Test.YtpccoachpilfkaaTl
import Derived.WalkSpells
import Derived.WalkLawsBesides
import Derived.LoopTactic
namespace Go.Proofs.Ytpccoachpilfkaa
open Go.RowKit Wm

/-- What is known while items are written. -/
structure Putting (Wr : (Nat → Prop) → World → Nat → ByteArray → Prop) (w wr : World) (l : List Item) (k : Nat) : Prop where
  own : ∃ F : Nat → Prop, Wr F wr w.heap.size (itemsB (l.take k)) ∧ ∀ j, F j → w.heap.size ≤ j
  below : Below w.heap.size w wr
def PutPost (Wr : (Nat → Prop) → World → Nat → ByteArray → Prop) (w : World) (l : List Item) (w' : World) : Prop := Putting Wr w w' l l.length

theorem Putting.next {Wr : (Nat → Prop) → World → Nat → ByteArray → Prop} (K : LandedWr Wr) {w wx w2 w3 : World} {l : List Item} {k : Nat} (hk : k < l.length) {F : Nat → Prop} (hF : ∀ j, F j → w.heap.size ≤ j)
    (hb : Below w.heap.size w wx) (h : WrPost Wr F w.heap.size (itemsB (l.take k) ++ itemB l[k]) wx w2) (h3 : Below w2.heap.size w2 w3) : Putting Wr w w3 l (k + 1) := by
  obtain ⟨F', h1, h2, h4⟩ := h
  refine ⟨⟨F', by rw [itemsB_take l k hk]; exact K.later h1 h3, fun j hj => ?_⟩, ?_⟩
  · by_cases hlt : j < wx.heap.size
    · exact hF j (h4 j hlt hj)
    · have := hb.size; omega
  · exact (hb.trans (h2.to_below hb.size hF)).trans (h3.mono (by have := h2.size; have := hb.size; omega))

theorem refbytesN_any (n : Nat) (w : World) :
    Calls Try.prog 22 #[numV n] w fun e w' => e = .returned (.string (numB n)) ∧ Below w.heap.size w w' := refbytes_any n w
theorem WrPost.only {Wr : (Nat → Prop) → World → Nat → ByteArray → Prop} {F : Nat → Prop} {p : Nat} {bs : ByteArray} {W W' : World} (h : WrPost Wr F p bs W W') : Only F W W' := h.choose_spec.2.1
theorem WrPost.same {Wr : (Nat → Prop) → World → Nat → ByteArray → Prop} {F : Nat → Prop} {p : Nat} {bs : ByteArray} {W : World} (h : Wr F W p bs) : WrPost Wr F p (bs ++ ByteArray.empty) W W :=
  ⟨F, by rw [ByteArray.append_empty]; exact h, Only.refl _ _, fun _ _ e => e⟩

set_option maxRecDepth 100000 in
set_option maxHeartbeats 4000000 in
theorem put_any {Wr : (Nat → Prop) → World → Nat → ByteArray → Prop} (K : LandedWr Wr) (ao : Option Addr) (cap : Nat) (l : List Item) (hw : ∀ x ∈ l, x.Wf) (hlen : l.length ≤ 60) (hsum : textSum l ≤ 8192) (w : World) (hS : ItemsAt w ao l) :
    Calls Try.prog 9 #[.slice ao l.length cap] w fun e w' => e = .returned (.tuple #[.pointer (some ⟨w.heap.size, 0, none⟩), .string (itemsB l)]) ∧ PutPost Wr w l w' := by
  go_enter Try.func9, Try.ntmps9
  go_wp2
  go_loopw [5, 12] (fun s i wr => ∃ k : Nat, k ≤ l.length ∧ i = .int .i64 k ∧ s = .string (itemsB (l.take k)) ∧ Putting Wr w wr l k) (fun _ i _ => (l.length - intOf i).toNat)
  case atStart =>
    exact ⟨0, by omega, rfl, rfl, ⟨_, K.new w, fun j hj => by omega⟩, (Below.refl _ _).alloc (Nat.le_refl _) _⟩
  case round =>
    obtain ⟨k, hk, rfl, rfl, hP⟩ := hrel
    by_cases hlt : k < l.length
    · obtain ⟨b, off, rfl, hbl, hc⟩ := (hS.below hP.below (Nat.le_refl _)).spot k hlt
      have hx := hw _ (List.getElem_mem hlt)
      obtain ⟨⟨F, hF, hFb⟩, hb⟩ := hP
      have hnext := Lib.hid (fun wx w2 w3 a b c => Putting.next (w := w) (wx := wx) (w2 := w2) (w3 := w3) K hlt hFb a b c)
      have hsz := itemsB_size l k (by omega)
      have hts := textSum_le l k
      have hts2 := textSum_le l (k + 1)
      rw [textSum_take l k hlt] at hts2
      have hit := Lib.hid (itemsB_take l k hlt)
      generalize itemsB (l.take k) = s at *
      generalize l[k] = x at *
      obtain ⟨kind, size, n, wide, yes, text⟩ := x
      have c0 := hc 0 _ rfl
      have c1 := hc 1 _ rfl
      have c2 := hc 2 _ rfl
      have c3 := hc 3 _ rfl
      have c4 := hc 4 _ rfl
      have c5 := hc 5 _ rfl
      have c6 := hc 6 _ rfl
      dsimp only [Nat.add_zero] at c0 c1 c2 c3 c4 c5 c6
      dsimp only at hts2
      clear hc
      have hin := hx.n
      have hiw := hx.wide
      dsimp only at hin hiw
      clear hx
      have hX := BoxAt.new wr [.int .i64 kind, .int .i64 size, .int .i64 n, .int .u64 ((hiN wide : Nat) : Int), .int .u64 ((loN wide : Nat) : Int), .bool yes, .string text] 36
      have hbx := hb.alloc hb.size (.cells #[.int .i64 kind, .int .i64 size, .int .i64 n, .int .u64 ((hiN wide : Nat) : Int), .int .u64 ((loN wide : Nat) : Int), .bool yes, .string text] 36)
      have hFx := K.later hF ((Below.refl _ _).alloc (Nat.le_refl _) (.cells #[.int .i64 kind, .int .i64 size, .int .i64 n, .int .u64 ((hiN wide : Nat) : Int), .int .u64 ((loN wide : Nat) : Int), .bool yes, .string text] 36))
      have hFn : ¬ F wr.heap.size := fun e => by have := K.near _ _ _ _ hF _ e; omega
      clear hF
      by_cases h0 : kind = 0
      · subst h0
        have hib := Lib.hid (show itemB ⟨0, size, n, wide, yes, text⟩ = intB size n from rfl)
        have hint := Lib.hid (fun W h => K.int F W w.heap.size s size n h (by omega) hin.1 hin.2)
        have hri := Lib.hid (fun w => refint_any size n w)
        have hsi := intB_size size n
        have hsk := sizeK_le size
        go_wp2_with fail
        refine (hint.out _ hFx).mono ?_
        rintro e w2 ⟨rfl, hp⟩
        have hX2 := hX.only hp.only hFn
        have d1 := hX2.spot 1 _ rfl
        have d2 := hX2.spot 2 _ rfl
        have hbs := hp.only.size
        have hll := hX2.lt
        go_wp2_with fail
        refine (hri.out _).mono ?_
        rintro e w3 ⟨rfl, hb3⟩
        go_wp2
        refine ⟨⟨k + 1, by omega, by go_num, by rw [hit.out, hib.out], hnext.out _ _ _ hbx (by rw [hib.out]; exact hp) hb3⟩, by simp [intOf]; omega⟩
      · by_cases h1 : kind = 1
        · subst h1
          have hib := Lib.hid (show itemB ⟨1, size, n, wide, yes, text⟩ = numB wide from rfl)
          have hint := Lib.hid (fun W h => K.num F W w.heap.size s wide h (by omega) hiw)
          have hri := Lib.hid (fun w => refbytesN_any wide w)
          have hsi := numB_size wide
          go_wp2_with fail
          refine (hint.out _ hFx).mono ?_
          rintro e w2 ⟨rfl, hp⟩
          have hX2 := hX.only hp.only hFn
          have d3 := hX2.spot 3 _ rfl
          have d4 := hX2.spot 4 _ rfl
          have hll := hX2.lt
          go_wp2_with fail
          refine (hri.out _).mono ?_
          rintro e w3 ⟨rfl, hb3⟩
          go_wp2
          refine ⟨⟨k + 1, by omega, by go_num, by rw [hit.out, hib.out], hnext.out _ _ _ hbx (by rw [hib.out]; exact hp) hb3⟩, by simp [intOf]; omega⟩
        · by_cases h2 : kind = 2
          · subst h2
            have hint := Lib.hid (fun W h => K.flag F W w.heap.size s yes h (by omega))
            have hib := Lib.hid (show itemB ⟨2, size, n, wide, yes, text⟩ = yesB yes from rfl)
            cases yes
            all_goals
              go_wp2_with fail
              refine (hint.out _ hFx).mono ?_
              rintro e w2 ⟨rfl, hp⟩
              have hX2 := hX.only hp.only hFn
              have d5 := hX2.spot 5 _ rfl
              have hll := hX2.lt
              go_wp2
              refine ⟨⟨k + 1, by omega, by go_num, by rw [hit.out, hib.out]; rfl, hnext.out _ _ _ hbx (by rw [hib.out]; exact hp) (Below.refl _ _)⟩, by simp [intOf]; omega⟩
          · by_cases h3 : kind = 3
            · subst h3
              have hib := Lib.hid (show itemB ⟨3, size, n, wide, yes, text⟩ = text from rfl)
              have hint := Lib.hid (fun W h => K.raw F W w.heap.size s text h (by omega) (by omega))
              go_wp2_with fail
              refine (hint.out _ hFx).mono ?_
              rintro e w2 ⟨rfl, hp⟩
              have hX2 := hX.only hp.only hFn
              have d6 := hX2.spot 6 _ rfl
              have hll := hX2.lt
              go_wp2
              refine ⟨⟨k + 1, by omega, by go_num, by rw [hit.out, hib.out], hnext.out _ _ _ hbx (by rw [hib.out]; exact hp) (Below.refl _ _)⟩, by simp [intOf]; omega⟩
            · have hib := Lib.hid (show itemB ⟨kind, size, n, wide, yes, text⟩ = ByteArray.empty by unfold itemB; rw [if_neg h0, if_neg h1, if_neg h2, if_neg h3])
              have e0 : (kind == 0) = false := by rw [beq_eq_false_iff_ne]; exact h0
              have e1 : (kind == 1) = false := by rw [beq_eq_false_iff_ne]; exact h1
              have e2 : (kind == 2) = false := by rw [beq_eq_false_iff_ne]; exact h2
              have e3 : (kind == 3) = false := by rw [beq_eq_false_iff_ne]; exact h3
              go_wp2
              refine ⟨⟨k + 1, by omega, by go_num, by rw [hit.out, hib.out, ByteArray.append_empty], hnext.out _ _ _ hbx (by rw [hib.out]; exact WrPost.same hFx) (Below.refl _ _)⟩, by simp [intOf]; omega⟩
    · obtain rfl : k = l.length := by omega
      rw [List.take_length]
      go_wp2
      go_ret2
      exact ⟨rfl, hP⟩
end Go.Proofs.Ytpccoachpilfkaa
