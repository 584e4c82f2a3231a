/- Stage 26: a name ahead of noughts, by the shelf's own contract of strings.TrimRight. No condition but sizes. -/
import Derived.Test.YtdphflbgecnhkaaDoorZYs
import Derived.Shelf.Strings.Trim
namespace Go.Proofs.YtdphflbgecnhkaaDoor
open Go.Shelf Go.RowKit Go.Sort Wm
def lays162_ren : Go.Shelf.Ren := ⟨fun | 162 => 23 | 232 => 24 | 227 => 25 | 234 => 26 | 236 => 27 | 228 => 28 | 271 => 29 | 151 => 30 | 120 => 31 | 197 => 32 | 152 => 33 | 260 => 34 | 137 => 35 | 119 => 36 | 224 => 37 | 225 => 38 | 217 => 39 | 266 => 40 | n => n, fun | 9 => 9 | 4 => 4 | 3 => 3 | 5 => 5 | 117 => 54 | 116 => 53 | 0 => 0 | 124 => 57 | 21 => 21 | 105 => 58 | 46 => 50 | 119 => 66 | 139 => 69 | 138 => 68 | n => n, fun | 3 => 1 | 4 => 2 | n => n⟩
theorem lays162 : Go.Proofs.Lays.n162 Tryd.prog lays162_ren := {
  mixed := by kernel_rfl
  f119 := Tryd.func36.trans (congrArg some (by kernel_rfl))
  f120 := Tryd.func31.trans (congrArg some (by kernel_rfl))
  f137 := Tryd.func35.trans (congrArg some (by kernel_rfl))
  f151 := Tryd.func30.trans (congrArg some (by kernel_rfl))
  f152 := Tryd.func33.trans (congrArg some (by kernel_rfl))
  f162 := Tryd.func23.trans (congrArg some (by kernel_rfl))
  f197 := Tryd.func32.trans (congrArg some (by kernel_rfl))
  f217 := Tryd.func39.trans (congrArg some (by kernel_rfl))
  f224 := Tryd.func37.trans (congrArg some (by kernel_rfl))
  f225 := Tryd.func38.trans (congrArg some (by kernel_rfl))
  f227 := Tryd.func25.trans (congrArg some (by kernel_rfl))
  f228 := Tryd.func28.trans (congrArg some (by kernel_rfl))
  f232 := Tryd.func24.trans (congrArg some (by kernel_rfl))
  f234 := Tryd.func26.trans (congrArg some (by kernel_rfl))
  f236 := Tryd.func27.trans (congrArg some (by kernel_rfl))
  f260 := Tryd.func34.trans (congrArg some (by kernel_rfl))
  f266 := Tryd.func40.trans (congrArg some (by kernel_rfl))
  f271 := Tryd.func29.trans (congrArg some (by kernel_rfl))
  t0 := Tryd.underlying0
  a0 := Tryd.isAgg0
  z0 := Tryd.sizeOf0
  v0 := Tryd.zeroValue0
  t3 := Tryd.underlying3
  a3 := Tryd.isAgg3
  z3 := Tryd.sizeOf3
  v3 := Tryd.zeroValue3
  t4 := Tryd.underlying4
  a4 := Tryd.isAgg4
  z4 := Tryd.sizeOf4
  v4 := Tryd.zeroValue4
  t5 := Tryd.underlying5
  a5 := Tryd.isAgg5
  z5 := Tryd.sizeOf5
  v5 := Tryd.zeroValue5
  t9 := Tryd.underlying9
  a9 := Tryd.isAgg9
  z9 := Tryd.sizeOf9
  v9 := Tryd.zeroValue9
  t21 := Tryd.underlying21
  a21 := Tryd.isAgg21
  z21 := Tryd.sizeOf21
  v21 := Tryd.zeroValue21
  t46 := Tryd.underlying50
  a46 := Tryd.isAgg50
  z46 := Tryd.sizeOf50
  v46 := Tryd.zeroValue50
  t105 := Tryd.underlying58
  a105 := Tryd.isAgg58
  z105 := Tryd.sizeOf58
  v105 := Tryd.zeroValue58
  t116 := Tryd.underlying53
  a116 := Tryd.isAgg53
  z116 := Tryd.sizeOf53
  t117 := Tryd.underlying54
  a117 := Tryd.isAgg54
  z117 := Tryd.sizeOf54
  v117 := Tryd.zeroValue54
  t119 := Tryd.underlying66
  a119 := Tryd.isAgg66
  z119 := Tryd.sizeOf66
  t124 := Tryd.underlying57
  a124 := Tryd.isAgg57
  z124 := Tryd.sizeOf57
  v124 := Tryd.zeroValue57
  t138 := Tryd.underlying68
  a138 := Tryd.isAgg68
  z138 := Tryd.sizeOf68
  v138 := Tryd.zeroValue68
  t139 := Tryd.underlying69
  a139 := Tryd.isAgg69
  z139 := Tryd.sizeOf69
  v139 := Tryd.zeroValue69
  g3 := by kernel_rfl
  g4 := by kernel_rfl }
/-- What is ahead of noughts at a text's end. -/
def nameOf (x : ByteArray) : ByteArray := ⟨(Lib.trimRightB x.data.toList 0).toArray⟩
set_option maxRecDepth 100000 in
theorem shTrim_q (x : ByteArray) (hx : x.size ≤ 9223372036854775807) (w : World) : Calls Tryd.prog 23 #[.string x, .string ⟨#[0]⟩] w fun e w' => e = .returned (.string (nameOf x)) ∧ w = w' :=
  (Any.strings_TrimRight_one lays162 x 0 (by decide) w hx).mono fun _ _ h => ⟨h.1, h.2.symm⟩
set_option maxRecDepth 100000 in
theorem shNameOf_q (x : ByteArray) (hx : x.size ≤ 9223372036854775807) (w : World) : Calls Tryd.prog 18 #[.string x] w fun e w' => e = .returned (.string (nameOf x)) ∧ w = w' := by
  have c := Lib.hid (fun W => shTrim_q x hx W)
  generalize nameOf x = y at *
  go_enter Tryd.func18, Tryd.ntmps18
  go_wp2_with (go_at_call 23; with_reducible refine (c.out _).mono ?_; rintro e W1 ⟨rfl, rfl⟩)
  go_ret
  exact ⟨rfl, rfl⟩
theorem trim_back (l : List UInt8) : l = Lib.trimRightB l 0 ++ List.replicate (l.length - (Lib.trimRightB l 0).length) 0 := by
  unfold Lib.trimRightB
  have h1 := List.takeWhile_append_dropWhile (p := (· == (0 : UInt8))) (l := l.reverse)
  have h2 : (l.reverse.takeWhile (· == (0 : UInt8))) = List.replicate (l.reverse.takeWhile (· == (0 : UInt8))).length 0 := by
    apply List.eq_replicate_iff.2
    refine ⟨rfl, fun c hc => ?_⟩
    have hall := List.all_takeWhile (p := (· == (0 : UInt8))) (l := l.reverse)
    have := List.all_eq_true.1 hall c hc
    simpa using this
  have h3 : l = (l.reverse.dropWhile (· == (0 : UInt8))).reverse ++ (l.reverse.takeWhile (· == (0 : UInt8))).reverse := by
    rw [← List.reverse_append, h1, List.reverse_reverse]
  have h4 : l.length = (l.reverse.dropWhile (· == (0 : UInt8))).reverse.length + (l.reverse.takeWhile (· == (0 : UInt8))).length := by
    have h6 := congrArg List.length h1
    rw [List.length_append, List.length_reverse] at h6
    rw [List.length_reverse]
    omega
  rw [show l.length - (l.reverse.dropWhile (· == (0 : UInt8))).reverse.length = (l.reverse.takeWhile (· == (0 : UInt8))).length by omega]
  have h5 : (l.reverse.takeWhile (· == (0 : UInt8))).reverse = List.replicate (l.reverse.takeWhile (· == (0 : UInt8))).length 0 := by
    rw [h2, List.reverse_replicate, List.length_replicate]
  rw [← h5]
  exact h3
theorem fill_nameOf (x : ByteArray) : fillB (nameOf x) x.size = x := by
  apply bytes_ext
  have e := trim_back x.data.toList
  have e1 : (nameOf x).size = (Lib.trimRightB x.data.toList 0).length := by
    show (Lib.trimRightB x.data.toList 0).toArray.size = _
    simp
  have e2 : x.data.toList.length = x.size := rfl
  unfold fillB zerosB
  rw [ByteArray.data_append, Array.toList_append, e1]
  rw [e2] at e
  have e3 : (nameOf x).data.toList = Lib.trimRightB x.data.toList 0 := by
    show (Lib.trimRightB x.data.toList 0).toArray.toList = _
    simp
  rw [e3]
  exact e.symm
theorem nameOf_fill {s : ByteArray} {n : Nat} (h : ∀ c ∈ s.data.toList, signB c = true) : nameOf (fillB s n) = s := by
  apply bytes_ext
  have e3 : (nameOf (fillB s n)).data.toList = Lib.trimRightB (fillB s n).data.toList 0 := by
    show (Lib.trimRightB _ 0).toArray.toList = _
    simp
  rw [e3]
  have e4 : (fillB s n).data.toList = s.data.toList ++ List.replicate (n - s.size) 0 := by
    unfold fillB zerosB
    rw [ByteArray.data_append, Array.toList_append]
  rw [e4]
  unfold Lib.trimRightB
  rw [List.reverse_append, List.reverse_replicate, List.dropWhile_append_of_pos (fun c hc => by rw [(List.mem_replicate.1 hc).2]; rfl)]
  have h5 : s.data.toList.reverse.dropWhile (· == (0 : UInt8)) = s.data.toList.reverse := by
    cases hr : s.data.toList.reverse with
    | nil => rfl
    | cons c r =>
      have hc : c ∈ s.data.toList := by
        have : c ∈ s.data.toList.reverse := by rw [hr]; exact List.mem_cons_self
        exact List.mem_reverse.1 this
      have hz := sign_nonzero (h c hc)
      rw [List.dropWhile_cons]
      have : (c == 0) = false := by simpa using hz
      rw [this]
      rfl
  rw [h5, List.reverse_reverse]
end Go.Proofs.YtdphflbgecnhkaaDoor
