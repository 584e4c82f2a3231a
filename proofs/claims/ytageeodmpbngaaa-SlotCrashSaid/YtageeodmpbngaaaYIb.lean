/- What the walks of stage 7's laws ask of the landed slots; a plan's value; the question that each law asks first. -/
import Derived.Test.YtageeodmpbngaaaYIa
import Derived.Test.YtageeodmpbngaaaYQj
import Derived.Laws.StructEq
namespace Go.Proofs.Ytageeodmpbngaaa
open Go.RowKit Go.Sort Cr

def planA (a b c d e : Int) : Value := .agg #[.int .i64 a, .int .i64 b, .int .i64 c, .int .i64 d, .int .i64 e]
def planV (n : Nat) : Value := planA 2 ((2 + sizeP n : Nat) : Int) ((sizeP n : Nat) : Int) ((2 + sizeP n + sizeP n : Nat) : Int) ((n : Nat) : Int)
/-- Int's range. -/
def InI (x : Int) : Prop := -9223372036854775808 ≤ x ∧ x ≤ 9223372036854775807
structure LandedSl (Dk : (Nat → Prop) → World → Nat → St → Prop) : Prop where
  of : ∀ (n : Nat) W, 12 ≤ n → n ≤ 4096 → Calls Try.prog 8 #[.int .i64 (n : Int)] W fun e W' => e = .returned (.tuple #[planV n, .int .i64 0]) ∧ Below W.heap.size W W'
  ofBad : ∀ (n : Int) W, InI n → (n < 12 ∨ 4096 < n) → Calls Try.prog 8 #[.int .i64 n] W fun e W' => e = .returned (.tuple #[planA 0 0 0 0 0, .int .i64 1]) ∧ Below W.heap.size W W'
  spot : ∀ (n : Nat) (which : Int) W, 12 ≤ n → n ≤ 4096 → InI which → Calls Try.prog 12 #[planV n, .int .i64 which] W fun e W' => e = .returned (.int .i64 ((spotP n which : Nat) : Int)) ∧ Below W.heap.size W W'
  fits : ∀ (n : Nat) (k : Int) W, 12 ≤ n → n ≤ 4096 → InI k → Calls Try.prog 13 #[planV n, .int .i64 k] W fun e W' => e = .returned (.bool (fitsP n k)) ∧ Below W.heap.size W W'
  put : ∀ F W p st (n : Nat) (which N : Int) (s : ByteArray), 12 ≤ n → n ≤ 4096 → InI which → Dk F W p st → st.Room (countN s.size + 1) → s.size ≤ 140737488351232 →
    Calls Try.prog 16 #[planV n, .pointer (some ⟨p, 0, none⟩), .int .i64 which, .int .i64 N, .string s] W fun e W' => e = .returned (.int .i64 (st.put (spotP n which) (sizeP n) N s).1) ∧ DkPost Dk F p (st.put (spotP n which) (sizeP n) N s).2 W W'
  get : ∀ F W p st (n : Nat) (which N k : Int), 12 ≤ n → n ≤ 4096 → InI which → Dk F W p st → st.Ok → k ≤ 9223372036854775807 →
    Calls Try.prog 17 #[planV n, .pointer (some ⟨p, 0, none⟩), .int .i64 which, .int .i64 N, .int .i64 k] W fun e W' =>
      e = .returned (.tuple #[.string (textO (st.take ((spotP n which : Nat) : Int) ((spotP n which + sizeP n : Nat) : Int) N k)), .bool (st.take ((spotP n which : Nat) : Int) ((spotP n which + sizeP n : Nat) : Int) N k).isSome]) ∧ Below W.heap.size W W'
  putNil : ∀ (n : Nat) W, 12 ≤ n → n ≤ 4096 → Calls Try.prog 16 #[planV n, .pointer none, .int .i64 0, .int .i64 1, .string ⟨#[]⟩] W fun e W' => e = .returned (.int .i64 2) ∧ Below W.heap.size W W'
  getNil : ∀ (n : Nat) W, 12 ≤ n → n ≤ 4096 → Calls Try.prog 17 #[planV n, .pointer none, .int .i64 0, .int .i64 1, .int .i64 0] W fun e W' => e = .returned (.tuple #[.string ⟨#[]⟩, .bool false]) ∧ Below W.heap.size W W'
/-- Plans compared. -/
theorem run_equal_plan (a b c d e a' b' c' d' e' : Int) (w : World) :
    (Op.equalIn 10000 24 (planA a b c d e) (planA a' b' c' d' e')).run Try.prog w = .ok (decide (a = a' ∧ b = b' ∧ c = c' ∧ d = d' ∧ e = e')) w := by
  unfold planA
  by_cases h1 : a = a'
  · by_cases h2 : b = b'
    · by_cases h3 : c = c'
      · by_cases h4 : d = d'
        · by_cases h5 : e = e'
          · subst h1 h2 h3 h4 h5
            simp [go_sem]
          · rw [decide_eq_false (fun h => h5 h.2.2.2.2)]
            simp [go_sem, h1, h2, h3, h4, h5]
        · rw [decide_eq_false (fun h => h4 h.2.2.2.1)]
          simp [go_sem, h1, h2, h3, h4]
      · rw [decide_eq_false (fun h => h3 h.2.2.1)]
        simp [go_sem, h1, h2, h3]
    · rw [decide_eq_false (fun h => h2 h.2.1)]
      simp [go_sem, h1, h2]
  · rw [decide_eq_false (fun h => h1 h.1)]
    simp [go_sem, h1]
theorem run_eql_plan (a b c d e a' b' c' d' e' : Int) (w : World) :
    (binOp .eql 24 (.agg #[.int .i64 a, .int .i64 b, .int .i64 c, .int .i64 d, .int .i64 e]) (.agg #[.int .i64 a', .int .i64 b', .int .i64 c', .int .i64 d', .int .i64 e'])).run Try.prog w = .ok (.bool (decide (a = a' ∧ b = b' ∧ c = c' ∧ d = d' ∧ e = e'))) w := by
  have := run_equal_plan a b c d e a' b' c' d' e' w
  unfold planA at this
  rw [run_eql_struct, this]; rfl
/-- A plan in a block, and a disk of the law's own behind it. -/
structure Sl (Dk : (Nat → Prop) → World → Nat → St → Prop) (w wr : World) (b : Nat) (S Z J E : Int) (p : Nat) (st : St) : Prop where
  box : BoxAt wr b [.int .i64 2, .int .i64 S, .int .i64 Z, .int .i64 J, .int .i64 E]
  new : w.heap.size ≤ b
  ex : ∃ F, Dk F wr p st ∧ ∀ k, F k → b < k
  below : Below w.heap.size w wr
section
variable {Dk : (Nat → Prop) → World → Nat → St → Prop} {w wr w2 : World} {b p : Nat} {S Z J E : Int} {st st2 : St}
theorem Sl.later (K : LandedDk Dk) (h : Sl Dk w wr b S Z J E p st) (hb : Below wr.heap.size wr w2) : Sl Dk w w2 b S Z J E p st := by
  obtain ⟨h1, h2, ⟨F, h3, h4⟩, h5⟩ := h
  exact ⟨h1.later hb, h2, ⟨F, K.later h3 hb, h4⟩, h5.trans (hb.mono h5.size)⟩
theorem Sl.ask (K : LandedDk Dk) (h : Sl Dk w wr b S Z J E p st) {f : FuncId} {args : Array Value} {R : Ending → Prop} (hc : ∀ F, Dk F wr p st → Calls Try.prog f args wr fun e W' => R e ∧ Below wr.heap.size wr W') :
    Calls Try.prog f args wr fun e w2 => R e ∧ Sl Dk w w2 b S Z J E p st := by
  have h' := h
  obtain ⟨_, _, ⟨F, h3, _⟩, _⟩ := h'
  refine (hc F h3).mono ?_
  rintro e w2 ⟨hr, hb⟩
  exact ⟨hr, h.later K hb⟩
theorem Sl.op (h : Sl Dk w wr b S Z J E p st) {f : FuncId} {args : Array Value} {R : Ending → Prop} (hc : ∀ F, Dk F wr p st → Calls Try.prog f args wr fun e W' => R e ∧ DkPost Dk F p st2 wr W') :
    Calls Try.prog f args wr fun e w2 => R e ∧ Sl Dk w w2 b S Z J E p st2 := by
  obtain ⟨h1, h2, ⟨F, h3, h4⟩, h5⟩ := h
  refine (hc F h3).mono ?_
  rintro e w2 ⟨hr, F', k1, k2, k3⟩
  refine ⟨hr, h1.only k2 (fun e => by have := h4 _ e; omega), h2, ⟨F', k1, fun k hk => ?_⟩, h5.trans (k2.to_below h5.size (fun k hk => by have := h4 _ hk; omega))⟩
  by_cases e : k < wr.heap.size
  · exact h4 k (k3 k e hk)
  · have := h1.lt
    omega
theorem Sl.made (hb : Below w.heap.size w wr) (h : DkMade Dk st (wr.alloc (.cells #[.int .i64 2, .int .i64 S, .int .i64 Z, .int .i64 J, .int .i64 E] 24)) (.returned (.pointer (some ⟨p, 0, none⟩))) w2) : Sl Dk w w2 wr.heap.size S Z J E p st := by
  obtain ⟨p2, F, he, h1, h2, h3⟩ := h
  have hp : p = p2 := by
    injection he with he
    injection he with he
    injection he with he
    injection he
  subst hp
  have hba : Below wr.heap.size wr (wr.alloc (.cells #[.int .i64 2, .int .i64 S, .int .i64 Z, .int .i64 J, .int .i64 E] 24)) := (Below.refl _ _).alloc (Nat.le_refl _) _
  refine ⟨(BoxAt.new wr _ _).later h3, hb.size, ⟨F, h1, fun k hk => ?_⟩, hb.trans ((hba.trans (h3.mono hba.size)).mono hb.size)⟩
  have := h2 k hk
  simp at this
  omega
theorem Sl.cells (h : Sl Dk w wr b S Z J E p st) : wr.cell? ⟨b, 0, none⟩ = some (.int .i64 2) ∧ wr.cell? ⟨b, 1, none⟩ = some (.int .i64 S) ∧ wr.cell? ⟨b, 2, none⟩ = some (.int .i64 Z) ∧ wr.cell? ⟨b, 3, none⟩ = some (.int .i64 J) ∧ wr.cell? ⟨b, 4, none⟩ = some (.int .i64 E) ∧ b < wr.heap.size :=
  ⟨h.box.spot 0 _ rfl, h.box.spot 1 _ rfl, h.box.spot 2 _ rfl, h.box.spot 3 _ rfl, h.box.spot 4 _ rfl, h.box.lt⟩
end
theorem Sl.five {Dk : (Nat → Prop) → World → Nat → St → Prop} {w wr : World} {b p : Nat} {S Z J E : Int} {st : St} (h : Sl Dk w wr b S Z J E p st) :
    wr.cell? ⟨b, 0, none⟩ = some (.int .i64 2) ∧ wr.cell? ⟨b, 1, none⟩ = some (.int .i64 S) ∧ wr.cell? ⟨b, 2, none⟩ = some (.int .i64 Z) ∧ wr.cell? ⟨b, 3, none⟩ = some (.int .i64 J) ∧ wr.cell? ⟨b, 4, none⟩ = some (.int .i64 E) :=
  ⟨h.box.spot 0 _ rfl, h.box.spot 1 _ rfl, h.box.spot 2 _ rfl, h.box.spot 3 _ rfl, h.box.spot 4 _ rfl⟩
theorem a_count : countN (⟨#[97]⟩ : ByteArray).size = 1 := by decide
set_option maxRecDepth 100000 in
set_option maxHeartbeats 1000000 in
theorem slotAlive_any {Dk : (Nat → Prop) → World → Nat → St → Prop} (K : LandedDk Dk) (L : LandedSl Dk) (w : World) :
    Calls Try.prog 7 #[] w fun e w' => e = .returned (.bool true) ∧ Below w.heap.size w w' := by
  have hof := Lib.hid (fun W => L.of 12 W (by omega) (by omega))
  have hnew := Lib.hid (fun W => K.new 12 W (by decide) (by decide))
  have hC := St.Calm.new 12 (by omega)
  obtain ⟨_, st', hp, hC2, hl2, hnow⟩ : countN (⟨#[97]⟩ : ByteArray).size ≤ 4 ∧ ∃ st', (St.new ((12 : Nat) : Int)).put 2 4 1 ⟨#[97]⟩ = (0, st') ∧ st'.Calm 12 (0 + countN (⟨#[97]⟩ : ByteArray).size + 1) ∧ st'.later = [] ∧
      ∀ j, j < 12 → st'.now j = if 2 ≤ j ∧ j < 2 + countN (⟨#[97]⟩ : ByteArray).size then secB 1 (((j - 2 : Nat)) : Int) (partS ⟨#[97]⟩ (j - 2)) else (St.new ((12 : Nat) : Int)).now j := by
    rcases hC.put 2 4 (by omega) (N := 1) (by omega) ⟨#[97]⟩ with h | ⟨h, _⟩
    · exact h
    · rw [a_count] at h; omega
  have hok := hC2.ok (by omega) (by rw [a_count]; omega)
  have hroom := hC.room (m := countN (⟨#[97]⟩ : ByteArray).size + 1) (by omega) (by rw [a_count]; omega)
  have hput := Lib.hid (fun F W p h => L.put F W p (St.new ((12 : Nat) : Int)) 12 0 1 ⟨#[97]⟩ (by omega) (by omega) (by unfold InI; omega) h hroom (by decide))
  have htk : st'.take ((2 : Nat) : Int) ((2 + 4 : Nat) : Int) 1 ((1 : Nat) : Int) = some ⟨#[97]⟩ := by
    rw [St.take_at hC2.len 2 4 (by omega) 1 1, if_pos (by decide)]
    refine take_whole (s := ⟨#[97]⟩) (by omega) (by omega) (by rw [a_count]; omega) (fun i hi => ?_)
    rw [hnow (2 + i) (by rw [a_count] at hi; omega), if_pos (by omega), show 2 + i - 2 = i by omega]
  have hget := Lib.hid (fun F W p h => L.get F W p st' 12 0 1 1 (by omega) (by omega) (by unfold InI; omega) h hok (by omega))
  rw [show spotP 12 0 = 2 from rfl, show sizeP 12 = 4 from rfl, hp] at hput
  rw [show spotP 12 0 = 2 from rfl, show sizeP 12 = 4 from rfl, show st'.take ((2 : Nat) : Int) ((2 + 4 : Nat) : Int) 1 1 = some ⟨#[97]⟩ from htk, show textO (some ⟨#[97]⟩) = ⟨#[97]⟩ from rfl, show (some (⟨#[97]⟩ : ByteArray)).isSome = true from rfl] at hget
  dsimp only at hput
  rw [show ((12 : Nat) : Int) = 12 from rfl] at *
  generalize St.new 12 = st0 at *
  have hpv : planV 12 = .agg #[.int .i64 2, .int .i64 6, .int .i64 4, .int .i64 10, .int .i64 12] := rfl
  simp only [hpv] at hof hput hget
  clear htk hok hC2 hl2 hnow hC hroom hp
  have heq := fun W => run_eql_plan 2 6 4 10 12 2 6 4 10 12 W
  go_enter Try.func7, Try.ntmps7
  go_wp2_with fail
  refine (hof.out _).mono ?_
  rintro e w1 ⟨rfl, hb1⟩
  go_wp2_with fail
  refine (hnew.out _).mono ?_
  rintro e w2 hm
  have hm' := hm
  obtain ⟨p, _, rfl, -⟩ := hm'
  have hT := Sl.made hb1 hm
  replace hput := Lib.hid (hT.op (fun F h => hput.out F _ _ h))
  clear hm hb1 hof hnew
  obtain ⟨b0, b1, b2, b3, b4, bl⟩ := hT.cells
  clear hT
  go_wp2_with fail
  refine hput.out.mono ?_
  rintro e w3 ⟨rfl, hT⟩
  replace hget := Lib.hid (hT.ask K (fun F h => hget.out F _ _ h))
  clear b0 b1 b2 b3 b4 bl hput
  obtain ⟨b0, b1, b2, b3, b4, bl⟩ := hT.cells
  clear hT
  go_wp2_with fail
  refine hget.out.mono ?_
  rintro e w4 ⟨rfl, hT⟩
  clear b0 b1 b2 b3 b4 bl hget
  obtain ⟨b0, b1, b2, b3, b4, bl⟩ := hT.cells
  have hb := hT.below
  clear hT
  have hl : ((⟨#[97]⟩ : ByteArray).toList == [97]) = true := by decide +kernel
  go_wp2
  go_ret
  exact ⟨rfl, hb⟩
end Go.Proofs.Ytageeodmpbngaaa
