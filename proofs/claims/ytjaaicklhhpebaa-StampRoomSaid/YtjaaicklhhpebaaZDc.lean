/- The landed disk: a read. No condition but sizes. -/
import Derived.Test.YtjaaicklhhpebaaZDb
import Derived.Laws.IdiomStrings
namespace Go.Proofs.Ytjaaicklhhpebaa
open Go.RowKit

theorem sliceSec (b o : Nat) (W : World) :
    (Instr.sliceAt 78 (.pointer (some ⟨b, o, none⟩)) none none none).run Try.prog W = .ok (.slice (some ⟨b, o, none⟩) 128 128) W := by
  have h16 : Try.prog.arrayLen 78 = 128 := by kernel_rfl
  rw [run_sliceAt_array_all (P := Try.prog) W 78 ⟨b, o, none⟩ (by kernel_rfl), h16]
  have hs : ∀ W, (sizeOf (Try.prog.elem 78)).run Try.prog W = .ok 1 W := fun W => by kernel_rfl
  rw [hs]
  simp [Result.andThen, slicedAt, Addr.add]
theorem backSec (W : World) (b o : Nat) (s : ByteArray) (hs : s.size = 128) (h : W.rangeAt b o (cellsB s)) :
    (convert 55 9 (.slice (some ⟨b, o, none⟩) 128 128)).run Try.prog W = .ok (.string s) W := by
  have := run_convert_bytes_back (P := Try.prog) W 55 9 5 ⟨b, o, none⟩ 128 s.data.toList Try.underlying55 Try.underlying5 Try.underlying9 (fun j hj => by
    rw [Addr.add_mid]
    refine h j _ ?_
    unfold cellsB
    rw [List.getElem?_map, List.getElem?_eq_getElem hj]
    rfl)
  have e : s.data.toList.length = 128 := hs
  rw [e] at this
  rw [this]
/-- What is read of a row of sectors. -/
def readE (n : Nat) (i : Int) : Int := if hasB n i = true then 0 else 1
def readS (now : List ByteArray) (n : Nat) (i : Int) : ByteArray := if hasB n i = true then now.getD i.toNat ⟨#[]⟩ else ⟨#[]⟩
section
variable {W : World} {p a b n : Nat} {v : Value} {safe now : List ByteArray} {later : List (Nat × ByteArray)} {armed ops : Int}
set_option maxRecDepth 100000 in
set_option maxHeartbeats 1000000 in
theorem readD_any (h : DkV W p a b v n safe now later armed ops) (i : Int) :
    Calls Try.prog 21 #[.pointer (some ⟨p, 0, none⟩), .int .i64 i] W fun e W' => e = .returned (.tuple #[.string (readS now n i), .int .i64 (readE n i)]) ∧ W = W' := by
  have hh := Lib.hid (has_any h i)
  by_cases hb : hasB n i = true
  · rw [hb] at hh
    have e1 := Lib.hid (show readE n i = 0 by unfold readE; rw [if_pos hb])
    have hi : 0 ≤ i ∧ i < (n : Int) := by unfold hasB at hb; simpa using hb
    obtain ⟨hi0, hi1⟩ := hi
    have e2 := Lib.hid (show readS now n i = now.getD i.toNat ⟨#[]⟩ by unfold readS; rw [if_pos hb])
    obtain ⟨k, rfl⟩ := Int.eq_ofNat_of_zero_le hi0
    rw [Int.toNat_natCast] at e2
    have hk : k < n := by omega
    have hs := List.getElem?_eq_getElem (show k < now.length by rw [h.l1]; exact hk)
    have hr := h.s1.lay k _ hs
    have hz := h.s1.size _ (List.mem_of_getElem? hs)
    have e3 : now.getD k ⟨#[]⟩ = now[k]'(by rw [h.l1]; exact hk) := by rw [List.getD_eq_getElem?_getD, hs]; rfl
    have hsl := Lib.hid (sliceSec b (k * 128))
    have hbk := Lib.hid (backSec W b (k * 128) _ hz hr)
    rw [← e3] at hbk
    have c1 := h.c1
    have hlt := h.lt
    clear h hr hz e3 hs hb
    generalize now.getD k ⟨#[]⟩ = x at *
    rw [e1.out, e2.out]
    clear e1 e2
    go_enter Try.func21, Try.ntmps21
    go_wp2_with fail
    refine (hh.out).mono ?_
    rintro e w1 ⟨rfl, rfl⟩
    replace hsl := hsl.out
    replace hbk := hbk.out
    go_wp2
    go_ret2
    exact ⟨rfl, rfl⟩
  · have e1 := Lib.hid (show readE n i = 1 by unfold readE; rw [if_neg hb])
    have e2 := Lib.hid (show readS now n i = ⟨#[]⟩ by unfold readS; rw [if_neg hb])
    rw [Bool.eq_false_iff.mpr hb] at hh
    clear h hb
    rw [e1.out, e2.out]
    go_enter Try.func21, Try.ntmps21
    go_wp2_with fail
    refine (hh.out).mono ?_
    rintro e w1 ⟨rfl, rfl⟩
    go_wp2
    go_ret2
    exact ⟨rfl, rfl⟩
end
end Go.Proofs.Ytjaaicklhhpebaa
