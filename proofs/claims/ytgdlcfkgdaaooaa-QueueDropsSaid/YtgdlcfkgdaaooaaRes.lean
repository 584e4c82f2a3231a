/- A struct's result read out of its block; places that may be written, carried along. Plain, over whatever program. No condition. -/
import Derived.Test.YtgdlcfkgdaaooaaOnly
import Derived.Test.YtgdlcfkgdaaooaaCalb
import Derived.Deep.MidRow
import Derived.WalkKit
namespace Go.Proofs.Ytgdlcfkgdaaooaa
open Go Go.RowKit

theorem results_cell {P : Program} {fn : Func} {tmps : Array Value} {a : Nat} {t : TypeId} {ad : Addr} {v : Value} {w : World} (h : fn.results = #[.cell a t]) (hx : tmps.getD a undef = .pointer (some ad)) (hl : (loadVar t ad).run P w = .ok v w) :
    (results fn tmps).run P w = .ok v w := by
  unfold results
  rw [h]
  have hx' : (tmps[a]?).getD undef = .pointer (some ad) := by rw [← Array.getD_eq_getD_getElem?]; exact hx
  simp [hx', asAddr, hl]
theorem results_cell_tmp {P : Program} {fn : Func} {tmps : Array Value} {a s : Nat} {t : TypeId} {ad : Addr} {v u : Value} {w : World} (h : fn.results = #[.cell a t, .tmp s]) (hx : tmps.getD a undef = .pointer (some ad)) (hs : tmps.getD s undef = u) (hl : (loadVar t ad).run P w = .ok v w) :
    (results fn tmps).run P w = .ok (.tuple #[v, u]) w := by
  unfold results
  rw [h]
  have hx' : (tmps[a]?).getD undef = .pointer (some ad) := by rw [← Array.getD_eq_getD_getElem?]; exact hx
  have hs' : (tmps[s]?).getD undef = u := by rw [← Array.getD_eq_getD_getElem?]; exact hs
  simp [hx', hs', asAddr, hl]
theorem there_only {F : Nat → Prop} {w w' : World} {b o n : Nat} (h : w.there b o n) (hO : Only F w w') (hf : ¬ F b) (hb : b < w.heap.size) : w'.there b o n := fun j hj => by
  rw [hO.cell (p := ⟨b, o + j, none⟩) hb hf, hO.frozen (p := ⟨b, o + j, none⟩) hb hf]
  exact h j hj
theorem there_later {w w' : World} {b o n : Nat} (h : w.there b o n) (hb : Below w.heap.size w w') (hlt : b < w.heap.size) : w'.there b o n := there_only (F := fun _ => False) h (Only.of_below hb) (fun e => e) hlt
theorem there_new (w : World) (cs : List Value) (t : TypeId) : (w.alloc (.cells cs.toArray t)).there w.heap.size 0 cs.length := fun j hj => by
  rw [Nat.zero_add]
  refine ⟨?_, by simp [go_sem]⟩
  rw [(BoxAt.new w cs t).spot j _ (List.getElem?_eq_getElem hj)]
  rfl
theorem range_only {F : Nat → Prop} {w w' : World} {b o : Nat} {cs : List Value} (h : w.rangeAt b o cs) (hO : Only F w w') (hf : ¬ F b) (hb : b < w.heap.size) : w'.rangeAt b o cs := fun j v hj => (hO.cell (p := ⟨b, o + j, none⟩) hb hf).trans (h j v hj)
theorem range_later {w w' : World} {b o : Nat} {cs : List Value} (h : w.rangeAt b o cs) (hb : Below w.heap.size w w') (hlt : b < w.heap.size) : w'.rangeAt b o cs := range_only (F := fun _ => False) h (Only.of_below hb) (fun e => e) hlt
end Go.Proofs.Ytgdlcfkgdaaooaa
