/- The document's four bytes of a sum. No condition but the sum's size. -/
import Derived.Test.YtjaaicklhhpebaaZCa
namespace Go.Proofs.Ytjaaicklhhpebaa
open Go.RowKit Go.Sort Cr

/-- A sum's four bytes, as a text. -/
def byteU (x : Nat) : UInt8 := UInt8.ofNat (x % 256)
theorem byteU_toNat (x : Nat) : (byteU x).toNat = x % 256 := by unfold byteU; rw [UInt8.toNat_ofNat']; omega
def fourL (c : Nat) : List UInt8 := [byteU c, byteU (c / 256), byteU (c / 65536), byteU (c / 16777216)]
def fourT (c : Nat) : ByteArray := ⟨(fourL c).toArray⟩
theorem fourT_size (c : Nat) : (fourT c).size = 4 := rfl
theorem conv4 (x0 x1 x2 x3 : UInt8) (W : World) :
    (convert 55 9 (.slice (some ⟨W.heap.size, 0, none⟩) 4 4)).run Try.prog (W.alloc (.cells #[.int .u8 ((x0.toNat : Nat) : Int), .int .u8 ((x1.toNat : Nat) : Int), .int .u8 ((x2.toNat : Nat) : Int), .int .u8 ((x3.toNat : Nat) : Int)] 5)) = .ok (.string ⟨#[x0, x1, x2, x3]⟩) (W.alloc (.cells #[.int .u8 ((x0.toNat : Nat) : Int), .int .u8 ((x1.toNat : Nat) : Int), .int .u8 ((x2.toNat : Nat) : Int), .int .u8 ((x3.toNat : Nat) : Int)] 5)) :=
  run_convert_bytes_back (P := Try.prog) _ 55 9 5 ⟨W.heap.size, 0, none⟩ 4 [x0, x1, x2, x3] Try.underlying55 Try.underlying5 Try.underlying9 (fun j hj => by
    have hj4 : j < 4 := by simpa using hj
    rcases j with _ | _ | _ | _ | j
    · simp [Addr.add, go_sem]
    · simp [Addr.add, go_sem]
    · simp [Addr.add, go_sem]
    · simp [Addr.add, go_sem]
    · omega)
theorem conv4c (c : Nat) (hc : c < 4294967296) (W : World) :
    (convert 55 9 (.slice (some ⟨W.heap.size, 0, none⟩) 4 4)).run Try.prog (W.alloc (.cells #[.int .u8 (((c : Nat) : Int) % 256), .int .u8 (((c : Nat) : Int) / 256 % 256), .int .u8 (((c : Nat) : Int) / 65536 % 256), .int .u8 (((c : Nat) : Int) / 16777216)] 5)) = .ok (.string (fourT c)) (W.alloc (.cells #[.int .u8 (((c : Nat) : Int) % 256), .int .u8 (((c : Nat) : Int) / 256 % 256), .int .u8 (((c : Nat) : Int) / 65536 % 256), .int .u8 (((c : Nat) : Int) / 16777216)] 5)) := by
  have h := conv4 (byteU c) (byteU (c / 256)) (byteU (c / 65536)) (byteU (c / 16777216)) W
  rw [byteU_toNat, byteU_toNat, byteU_toNat, byteU_toNat] at h
  rw [show ((c : Nat) : Int) % 256 = ((c % 256 : Nat) : Int) by omega, show ((c : Nat) : Int) / 256 % 256 = ((c / 256 % 256 : Nat) : Int) by omega, show ((c : Nat) : Int) / 65536 % 256 = ((c / 65536 % 256 : Nat) : Int) by omega, show ((c : Nat) : Int) / 16777216 = ((c / 16777216 % 256 : Nat) : Int) by omega]
  exact h

set_option maxRecDepth 100000 in
set_option maxHeartbeats 1000000 in
theorem refbytes4_any (c : Nat) (hc : c < W) (w : World) :
    Calls Try.prog 38 #[.int .u32 ((c : Nat) : Int)] w fun e w' => e = .returned (.string (fourT c)) ∧ Below w.heap.size w w' := by
  rw [W_eq] at hc
  have hcv := conv4c c hc
  go_enter Try.func38, Try.ntmps38
  go_wp2
  go_ret
  exact ⟨rfl, (Below.refl _ _).alloc (Nat.le_refl _) _⟩
end Go.Proofs.Ytjaaicklhhpebaa
