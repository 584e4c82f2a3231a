/- Stage 26: the walk of ShelfOf. No condition but the landed package's. -/
import Derived.Test.YtdphflbgecnhkaaZYc
namespace Go.Proofs.Ytdphflbgecnhkaa
open Go.RowKit Go.Sort Wm Cr

theorem good_wf {p : Place} (h : goodPl p = true) : p.Wf := by
  obtain ⟨h1, h2, h3⟩ := (goodPl_iff p).1 h
  have a1 := ((nameB_iff _ _).1 h1).1.2
  have a2 := ((nameB_iff _ _).1 h2).1.2
  exact ⟨by omega, by omega, by omega⟩
theorem run_eql_noPl (w : World) : (binOp .eql 24 (.agg #[.string ⟨#[]⟩, .string ⟨#[]⟩, .int .i64 0]) (.agg #[.string ⟨#[]⟩, .string ⟨#[]⟩, .int .i64 0])).run Try.prog w = .ok (.bool true) w := run_eql_place_self noPl w
section
variable {Mo : World → Prop}
end
end Go.Proofs.Ytdphflbgecnhkaa
