/- Stage 26: the document's bytes of a place; the question that each law asks first. No condition but the landed package's. -/
import Derived.Test.YtdphflbgecnhkaaDoorZYb
import Derived.Test.YtdphflbgecnhkaaDoorZAb
import Derived.Test.YtdphflbgecnhkaaDoorZNee2
import Derived.Laws.StructEq
import Derived.Deep.MidRow
namespace Go.Proofs.YtdphflbgecnhkaaDoor
open Go.RowKit Go.Sort Wm Cr

theorem Hx.range {Mo : World → Prop} {w W : World} {b : Nat} {M : List Value} {l : List (Nat × List Value)} (h : Hx Mo w W l) (hm : (b, M) ∈ l) : W.rangeAt b 0 M := (h.box (b, M) hm).range
theorem conv_tail (x : UInt8) (W : World) :
    (convert 40 9 (.slice (some ⟨W.heap.size, 0, none⟩) 2 2)).run Tryd.prog ((W.alloc (.cells #[.int .u8 ((x.toNat : Nat) : Int), .int .u8 1] 5)).drew) = .ok (.string ⟨#[x, 1]⟩) ((W.alloc (.cells #[.int .u8 ((x.toNat : Nat) : Int), .int .u8 1] 5)).drew) :=
  run_convert_bytes_back (P := Tryd.prog) _ 40 9 5 ⟨W.heap.size, 0, none⟩ 2 [x, 1] Tryd.underlying40 Tryd.underlying5 Tryd.underlying9 (fun j hj => by
    match j, hj with
    | 0, _ => simp [Addr.add, go_sem]
    | 1, _ => simp [Addr.add, go_sem])
theorem conv_tail2 (x : UInt8) (W : World) :
    (convert 40 9 (.slice (some ⟨W.heap.size, 0, none⟩) 2 2)).run Tryd.prog (W.alloc (.cells #[.int .u8 ((x.toNat : Nat) : Int), .int .u8 1] 5)) = .ok (.string ⟨#[x, 1]⟩) (W.alloc (.cells #[.int .u8 ((x.toNat : Nat) : Int), .int .u8 1] 5)) :=
  run_convert_bytes_back (P := Tryd.prog) _ 40 9 5 ⟨W.heap.size, 0, none⟩ 2 [x, 1] Tryd.underlying40 Tryd.underlying5 Tryd.underlying9 (fun j hj => by
    match j, hj with
    | 0, _ => simp [Addr.add, go_sem]
    | 1, _ => simp [Addr.add, go_sem])
set_option maxRecDepth 100000 in
set_option maxHeartbeats 4000000 in
theorem refplace_any (p : Place) (hp : p.Wf) (hg : goodPl p = true) (w : World) : Calls Tryd.prog 12 #[.string p.Good, .string p.Site, .int .i64 p.State] w fun e w' => e = .returned (.string (plcB p)) ∧ Below w.heap.size w w' := by
  obtain ⟨g1, g2, g3⟩ := (goodPl_iff p).1 hg
  have c1 := Lib.hid (fun W => reffill_any p.Good 10 10 rfl (by decide) hp.Good W)
  have c2 := Lib.hid (fun W => reffill_any p.Site 4 4 rfl (by decide) hp.Site W)
  have hx : ∃ x : UInt8, ((x.toNat : Nat) : Int) = p.State ∧ tailB p.State = ⟨#[x, 1]⟩ := ⟨UInt8.ofNat p.State.toNat, by rw [UInt8.toNat_ofNat_of_lt' (by show p.State.toNat < 256; omega)]; omega, rfl⟩
  obtain ⟨x, hx1, hx2⟩ := hx
  have hcv := fun W => conv_tail x W
  have hcv2 := fun W => conv_tail2 x W
  have hb := Lib.hid (show fillB p.Good 10 ++ fillB p.Site 4 ++ ⟨#[x, 1]⟩ = plcB p by rw [← hx2]; rfl)
  have hs1 : (fillB p.Good 10).size = 10 := fillB_size ((nameB_iff _ _).1 g1).1.2
  have hs2 : (fillB p.Site 4).size = 4 := fillB_size ((nameB_iff _ _).1 g2).1.2
  rw [← hx1]
  have hx3 : x.toNat < 256 := UInt8.toNat_lt x
  have hx4 : IntKind.u8.wrap ((x.toNat : Nat) : Int) = ((x.toNat : Nat) : Int) := by rw [IntKind.wrap_u8]; omega
  clear hx1 hx2 g1 g2 g3 hg
  generalize fillB p.Good 10 = b1 at *
  generalize fillB p.Site 4 = b2 at *
  go_enter Tryd.func12, Tryd.ntmps12
  go_wp2_with fail
  refine wp_region_need (fun _ => True) [0, 2, 5, 6, 4, 9, 10] (by kernel_rfl) ?_
  refine need_takeL (i := 0) (v := ?cv45) rfl rfl (by kernel_rfl) (by kernel_rfl) (by kernel_rfl) (fun _ _ _ h => h) (Or.inl ⟨by rfl, ?ch45⟩) trivial ?cr45
  case ch45 => (intro w' hSw; (try dsimp only at hSw); go_simp; first | done | with_reducible rfl)
  try simp only [Act.put, List.setIfInBounds_toArray, List.set_cons_zero, List.set_cons_succ]
  refine need_takeL (i := 2) (v := ?cv48) rfl rfl (by kernel_rfl) (by kernel_rfl) (by kernel_rfl) (fun _ _ _ h => h) (Or.inl ⟨by rfl, ?ch48⟩) trivial ?cr48
  case ch48 => (intro w' hSw; (try dsimp only at hSw); go_simp; first | done | with_reducible rfl)
  try simp only [Act.put, List.setIfInBounds_toArray, List.set_cons_zero, List.set_cons_succ]
  refine need_takeL (i := 5) (v := ?cv51) rfl rfl (by kernel_rfl) (by kernel_rfl) (by kernel_rfl) (fun _ _ _ h => h) (Or.inl ⟨by rfl, ?ch51⟩) trivial ?cr51
  case ch51 => (intro w' hSw; (try dsimp only at hSw); go_simp; first | done | with_reducible rfl)
  try simp only [Act.put, List.setIfInBounds_toArray, List.set_cons_zero, List.set_cons_succ]
  refine need_takeL (i := 6) (v := ?cv54) rfl rfl (by kernel_rfl) (by kernel_rfl) (by kernel_rfl) (fun _ _ _ h => h) (Or.inl ⟨by rfl, ?ch54⟩) trivial ?cr54
  case ch54 => (intro w' hSw; (try dsimp only at hSw); go_simp; first | done | with_reducible rfl)
  try simp only [Act.put, List.setIfInBounds_toArray, List.set_cons_zero, List.set_cons_succ]
  refine need_turn2M (i := 1) (j := 7) rfl rfl (by kernel_rfl) (by rfl) (by rfl) (fun K' hK' => ?_) (fun K' hK' => ?_)
  · go_simp
    refine (c1.out _).mono ?_
    rintro e wx ⟨rfl, rfl⟩
    refine hK' _ _ (fun _ => trivial) ?_
    clear hK' K'
    try simp only [Act.put, List.setIfInBounds_toArray, List.set_cons_zero, List.set_cons_succ]
    refine need_turn2M (i := 3) (j := 7) rfl rfl (by kernel_rfl) (by rfl) (by rfl) (fun K' hK' => ?_) (fun K' hK' => ?_)
    · go_simp
      refine (c2.out _).mono ?_
      rintro e wx ⟨rfl, rfl⟩
      refine hK' _ _ (fun _ => trivial) ?_
      clear hK' K'
      try simp only [Act.put, List.setIfInBounds_toArray, List.set_cons_zero, List.set_cons_succ]
      refine need_takeL (i := 4) (v := ?cv71) rfl rfl (by kernel_rfl) (by kernel_rfl) (by kernel_rfl) (fun _ _ _ h => h) (Or.inl ⟨by rfl, ?ch71⟩) trivial ?cr71
      case ch71 => (intro w' hSw; (try dsimp only at hSw); go_simp; first | done | with_reducible rfl)
      try simp only [Act.put, List.setIfInBounds_toArray, List.set_cons_zero, List.set_cons_succ]
      refine need_turnL (i := 7) rfl (by kernel_rfl) (by rfl) (fun K' hK' => ?_)
      go_simp
      refine hK' _ _ (fun _ => trivial) ?_
      clear hK' K'
      try simp only [Act.put, List.setIfInBounds_toArray, List.set_cons_zero, List.set_cons_succ]
      refine need_turnL (i := 8) rfl (by kernel_rfl) (by rfl) (fun K' hK' => ?_)
      go_simp
      refine hK' _ _ (fun _ => trivial) ?_
      clear hK' K'
      try simp only [Act.put, List.setIfInBounds_toArray, List.set_cons_zero, List.set_cons_succ]
      refine need_takeL (i := 9) (v := ?cv84) rfl rfl (by kernel_rfl) (by kernel_rfl) (by kernel_rfl) (fun _ _ _ h => h) (Or.inl ⟨by rfl, ?ch84⟩) trivial ?cr84
      case ch84 => (intro w' hSw; (try dsimp only at hSw); go_simp; first | done | with_reducible rfl)
      try simp only [Act.put, List.setIfInBounds_toArray, List.set_cons_zero, List.set_cons_succ]
      refine need_takeL (i := 10) (v := ?cv87) rfl rfl (by kernel_rfl) (by kernel_rfl) (by kernel_rfl) (fun _ _ _ h => h) (Or.inl ⟨by rfl, ?ch87⟩) trivial ?cr87
      case ch87 => (intro w' hSw; (try dsimp only at hSw); go_simp; first | done | with_reducible rfl)
      try simp only [Act.put, List.setIfInBounds_toArray, List.set_cons_zero, List.set_cons_succ]
      refine need_done (by kernel_rfl) ?_ _
      go_wp2
      go_ret
      exact ⟨by rw [hb.out]; rfl, (Below.refl _ _).drew.alloc (Nat.le_refl _) _⟩
    · go_simp
      refine hK' _ _ (fun _ => trivial) ?_
      clear hK' K'
      try simp only [Act.put, List.setIfInBounds_toArray, List.set_cons_zero, List.set_cons_succ]
      refine need_turn2M (i := 3) (j := 8) rfl rfl (by kernel_rfl) (by rfl) (by rfl) (fun K' hK' => ?_) (fun K' hK' => ?_)
      · go_simp
        refine (c2.out _).mono ?_
        rintro e wx ⟨rfl, rfl⟩
        refine hK' _ _ (fun _ => trivial) ?_
        clear hK' K'
        try simp only [Act.put, List.setIfInBounds_toArray, List.set_cons_zero, List.set_cons_succ]
        refine need_takeL (i := 4) (v := ?cv105) rfl rfl (by kernel_rfl) (by kernel_rfl) (by kernel_rfl) (fun _ _ _ h => h) (Or.inl ⟨by rfl, ?ch105⟩) trivial ?cr105
        case ch105 => (intro w' hSw; (try dsimp only at hSw); go_simp; first | done | with_reducible rfl)
        try simp only [Act.put, List.setIfInBounds_toArray, List.set_cons_zero, List.set_cons_succ]
        refine need_turnL (i := 8) rfl (by kernel_rfl) (by rfl) (fun K' hK' => ?_)
        go_simp
        refine hK' _ _ (fun _ => trivial) ?_
        clear hK' K'
        try simp only [Act.put, List.setIfInBounds_toArray, List.set_cons_zero, List.set_cons_succ]
        refine need_takeL (i := 9) (v := ?cv113) rfl rfl (by kernel_rfl) (by kernel_rfl) (by kernel_rfl) (fun _ _ _ h => h) (Or.inl ⟨by rfl, ?ch113⟩) trivial ?cr113
        case ch113 => (intro w' hSw; (try dsimp only at hSw); go_simp; first | done | with_reducible rfl)
        try simp only [Act.put, List.setIfInBounds_toArray, List.set_cons_zero, List.set_cons_succ]
        refine need_takeL (i := 10) (v := ?cv116) rfl rfl (by kernel_rfl) (by kernel_rfl) (by kernel_rfl) (fun _ _ _ h => h) (Or.inl ⟨by rfl, ?ch116⟩) trivial ?cr116
        case ch116 => (intro w' hSw; (try dsimp only at hSw); go_simp; first | done | with_reducible rfl)
        try simp only [Act.put, List.setIfInBounds_toArray, List.set_cons_zero, List.set_cons_succ]
        refine need_done (by kernel_rfl) ?_ _
        go_wp2
        go_ret
        exact ⟨by rw [hb.out]; rfl, (Below.refl _ _).drew.alloc (Nat.le_refl _) _⟩
      · go_simp
        refine hK' _ _ (fun _ => trivial) ?_
        clear hK' K'
        try simp only [Act.put, List.setIfInBounds_toArray, List.set_cons_zero, List.set_cons_succ]
        refine need_turnL (i := 3) rfl (by kernel_rfl) (by rfl) (fun K' hK' => ?_)
        go_simp
        refine (c2.out _).mono ?_
        rintro e wx ⟨rfl, rfl⟩
        refine hK' _ _ (fun _ => trivial) ?_
        clear hK' K'
        try simp only [Act.put, List.setIfInBounds_toArray, List.set_cons_zero, List.set_cons_succ]
        refine need_takeL (i := 4) (v := ?cv134) rfl rfl (by kernel_rfl) (by kernel_rfl) (by kernel_rfl) (fun _ _ _ h => h) (Or.inl ⟨by rfl, ?ch134⟩) trivial ?cr134
        case ch134 => (intro w' hSw; (try dsimp only at hSw); go_simp; first | done | with_reducible rfl)
        try simp only [Act.put, List.setIfInBounds_toArray, List.set_cons_zero, List.set_cons_succ]
        refine need_takeL (i := 9) (v := ?cv137) rfl rfl (by kernel_rfl) (by kernel_rfl) (by kernel_rfl) (fun _ _ _ h => h) (Or.inl ⟨by rfl, ?ch137⟩) trivial ?cr137
        case ch137 => (intro w' hSw; (try dsimp only at hSw); go_simp; first | done | with_reducible rfl)
        try simp only [Act.put, List.setIfInBounds_toArray, List.set_cons_zero, List.set_cons_succ]
        refine need_takeL (i := 10) (v := ?cv140) rfl rfl (by kernel_rfl) (by kernel_rfl) (by kernel_rfl) (fun _ _ _ h => h) (Or.inl ⟨by rfl, ?ch140⟩) trivial ?cr140
        case ch140 => (intro w' hSw; (try dsimp only at hSw); go_simp; first | done | with_reducible rfl)
        try simp only [Act.put, List.setIfInBounds_toArray, List.set_cons_zero, List.set_cons_succ]
        refine need_done (by kernel_rfl) ?_ _
        go_wp2
        go_ret
        exact ⟨by rw [hb.out]; rfl, (Below.refl _ _).drew.alloc (Nat.le_refl _) _⟩
  · go_simp
    refine hK' _ _ (fun _ => trivial) ?_
    clear hK' K'
    try simp only [Act.put, List.setIfInBounds_toArray, List.set_cons_zero, List.set_cons_succ]
    refine need_turn2M (i := 1) (j := 8) rfl rfl (by kernel_rfl) (by rfl) (by rfl) (fun K' hK' => ?_) (fun K' hK' => ?_)
    · go_simp
      refine (c1.out _).mono ?_
      rintro e wx ⟨rfl, rfl⟩
      refine hK' _ _ (fun _ => trivial) ?_
      clear hK' K'
      try simp only [Act.put, List.setIfInBounds_toArray, List.set_cons_zero, List.set_cons_succ]
      refine need_turn2M (i := 3) (j := 8) rfl rfl (by kernel_rfl) (by rfl) (by rfl) (fun K' hK' => ?_) (fun K' hK' => ?_)
      · go_simp
        refine (c2.out _).mono ?_
        rintro e wx ⟨rfl, rfl⟩
        refine hK' _ _ (fun _ => trivial) ?_
        clear hK' K'
        try simp only [Act.put, List.setIfInBounds_toArray, List.set_cons_zero, List.set_cons_succ]
        refine need_takeL (i := 4) (v := ?cv165) rfl rfl (by kernel_rfl) (by kernel_rfl) (by kernel_rfl) (fun _ _ _ h => h) (Or.inl ⟨by rfl, ?ch165⟩) trivial ?cr165
        case ch165 => (intro w' hSw; (try dsimp only at hSw); go_simp; first | done | with_reducible rfl)
        try simp only [Act.put, List.setIfInBounds_toArray, List.set_cons_zero, List.set_cons_succ]
        refine need_turnL (i := 8) rfl (by kernel_rfl) (by rfl) (fun K' hK' => ?_)
        go_simp
        refine hK' _ _ (fun _ => trivial) ?_
        clear hK' K'
        try simp only [Act.put, List.setIfInBounds_toArray, List.set_cons_zero, List.set_cons_succ]
        refine need_takeL (i := 9) (v := ?cv173) rfl rfl (by kernel_rfl) (by kernel_rfl) (by kernel_rfl) (fun _ _ _ h => h) (Or.inl ⟨by rfl, ?ch173⟩) trivial ?cr173
        case ch173 => (intro w' hSw; (try dsimp only at hSw); go_simp; first | done | with_reducible rfl)
        try simp only [Act.put, List.setIfInBounds_toArray, List.set_cons_zero, List.set_cons_succ]
        refine need_takeL (i := 10) (v := ?cv176) rfl rfl (by kernel_rfl) (by kernel_rfl) (by kernel_rfl) (fun _ _ _ h => h) (Or.inl ⟨by rfl, ?ch176⟩) trivial ?cr176
        case ch176 => (intro w' hSw; (try dsimp only at hSw); go_simp; first | done | with_reducible rfl)
        try simp only [Act.put, List.setIfInBounds_toArray, List.set_cons_zero, List.set_cons_succ]
        refine need_done (by kernel_rfl) ?_ _
        go_wp2
        go_ret
        exact ⟨by rw [hb.out]; rfl, (Below.refl _ _).drew.alloc (Nat.le_refl _) _⟩
      · go_simp
        refine hK' _ _ (fun _ => trivial) ?_
        clear hK' K'
        try simp only [Act.put, List.setIfInBounds_toArray, List.set_cons_zero, List.set_cons_succ]
        refine need_turnL (i := 3) rfl (by kernel_rfl) (by rfl) (fun K' hK' => ?_)
        go_simp
        refine (c2.out _).mono ?_
        rintro e wx ⟨rfl, rfl⟩
        refine hK' _ _ (fun _ => trivial) ?_
        clear hK' K'
        try simp only [Act.put, List.setIfInBounds_toArray, List.set_cons_zero, List.set_cons_succ]
        refine need_takeL (i := 4) (v := ?cv194) rfl rfl (by kernel_rfl) (by kernel_rfl) (by kernel_rfl) (fun _ _ _ h => h) (Or.inl ⟨by rfl, ?ch194⟩) trivial ?cr194
        case ch194 => (intro w' hSw; (try dsimp only at hSw); go_simp; first | done | with_reducible rfl)
        try simp only [Act.put, List.setIfInBounds_toArray, List.set_cons_zero, List.set_cons_succ]
        refine need_takeL (i := 9) (v := ?cv197) rfl rfl (by kernel_rfl) (by kernel_rfl) (by kernel_rfl) (fun _ _ _ h => h) (Or.inl ⟨by rfl, ?ch197⟩) trivial ?cr197
        case ch197 => (intro w' hSw; (try dsimp only at hSw); go_simp; first | done | with_reducible rfl)
        try simp only [Act.put, List.setIfInBounds_toArray, List.set_cons_zero, List.set_cons_succ]
        refine need_takeL (i := 10) (v := ?cv200) rfl rfl (by kernel_rfl) (by kernel_rfl) (by kernel_rfl) (fun _ _ _ h => h) (Or.inl ⟨by rfl, ?ch200⟩) trivial ?cr200
        case ch200 => (intro w' hSw; (try dsimp only at hSw); go_simp; first | done | with_reducible rfl)
        try simp only [Act.put, List.setIfInBounds_toArray, List.set_cons_zero, List.set_cons_succ]
        refine need_done (by kernel_rfl) ?_ _
        go_wp2
        go_ret
        exact ⟨by rw [hb.out]; rfl, (Below.refl _ _).drew.alloc (Nat.le_refl _) _⟩
    · go_simp
      refine hK' _ _ (fun _ => trivial) ?_
      clear hK' K'
      try simp only [Act.put, List.setIfInBounds_toArray, List.set_cons_zero, List.set_cons_succ]
      refine need_turnL (i := 1) rfl (by kernel_rfl) (by rfl) (fun K' hK' => ?_)
      go_simp
      refine (c1.out _).mono ?_
      rintro e wx ⟨rfl, rfl⟩
      refine hK' _ _ (fun _ => trivial) ?_
      clear hK' K'
      try simp only [Act.put, List.setIfInBounds_toArray, List.set_cons_zero, List.set_cons_succ]
      refine need_turnL (i := 3) rfl (by kernel_rfl) (by rfl) (fun K' hK' => ?_)
      go_simp
      refine (c2.out _).mono ?_
      rintro e wx ⟨rfl, rfl⟩
      refine hK' _ _ (fun _ => trivial) ?_
      clear hK' K'
      try simp only [Act.put, List.setIfInBounds_toArray, List.set_cons_zero, List.set_cons_succ]
      refine need_takeL (i := 4) (v := ?cv225) rfl rfl (by kernel_rfl) (by kernel_rfl) (by kernel_rfl) (fun _ _ _ h => h) (Or.inl ⟨by rfl, ?ch225⟩) trivial ?cr225
      case ch225 => (intro w' hSw; (try dsimp only at hSw); go_simp; first | done | with_reducible rfl)
      try simp only [Act.put, List.setIfInBounds_toArray, List.set_cons_zero, List.set_cons_succ]
      refine need_takeL (i := 9) (v := ?cv228) rfl rfl (by kernel_rfl) (by kernel_rfl) (by kernel_rfl) (fun _ _ _ h => h) (Or.inl ⟨by rfl, ?ch228⟩) trivial ?cr228
      case ch228 => (intro w' hSw; (try dsimp only at hSw); go_simp; first | done | with_reducible rfl)
      try simp only [Act.put, List.setIfInBounds_toArray, List.set_cons_zero, List.set_cons_succ]
      refine need_takeL (i := 10) (v := ?cv231) rfl rfl (by kernel_rfl) (by kernel_rfl) (by kernel_rfl) (fun _ _ _ h => h) (Or.inl ⟨by rfl, ?ch231⟩) trivial ?cr231
      case ch231 => (intro w' hSw; (try dsimp only at hSw); go_simp; first | done | with_reducible rfl)
      try simp only [Act.put, List.setIfInBounds_toArray, List.set_cons_zero, List.set_cons_succ]
      refine need_done (by kernel_rfl) ?_ _
      go_wp2
      go_ret
      exact ⟨by rw [hb.out]; rfl, (Below.refl _ _).drew.alloc (Nat.le_refl _) _⟩
open Classical in
set_option maxRecDepth 100000 in
theorem run_eql_place (p q : Place) (w : World) : (binOp .eql 23 (.agg p.cells.toArray) (.agg q.cells.toArray)).run Tryd.prog w = .ok (.bool (decide (p = q))) w := by
  have h : (Op.equalIn 10000 23 (.agg p.cells.toArray) (.agg q.cells.toArray)).run Tryd.prog w = .ok (decide (p = q)) w := by
    by_cases h : p = q
    · subst h
      rw [decide_eq_true rfl]
      unfold Place.cells
      simp [go_sem]
    · rw [decide_eq_false h]
      unfold Place.cells
      simp [go_sem]
      intro h1 h2 h3
      rw [ByteArray.toList_eq, ByteArray.toList_eq] at h1 h2
      exact h (Place.same (bytes_ext h1) (bytes_ext h2) h3)
  rw [run_eql_struct, h]; rfl
open Classical in
theorem run_eql_place_self (p : Place) (w : World) : (binOp .eql 23 (.agg p.cells.toArray) (.agg p.cells.toArray)).run Tryd.prog w = .ok (.bool true) w := by
  rw [run_eql_place]; simp
def boltP : Place := ⟨⟨#[66, 79, 76, 84]⟩, ⟨#[78, 89]⟩, 1⟩
theorem bolt_wf : boltP.Wf := ⟨by decide, by decide, by decide⟩
theorem bolt_good : goodPl boltP = true := by decide +kernel
theorem bolt_show : showPl boltP = ⟨#[66, 79, 76, 84, 64, 78, 89]⟩ := by decide +kernel
set_option maxRecDepth 100000 in
set_option maxHeartbeats 1000000 in
theorem shelfAlive_of {Mo : World → Prop} (L : LandedSh Mo) (w : World) (hM : Mo w) (P : Place) (hw : P.Wf) (hgd : goodPl P = true) (hs : showPl P = ⟨#[66, 79, 76, 84, 64, 78, 89]⟩) (hC : P.cells = [.string ⟨#[66, 79, 76, 84]⟩, .string ⟨#[78, 89]⟩, .int .i64 1]) :
    Calls Tryd.prog 6 #[] w fun e w' => e = .returned (.bool true) ∧ Below w.heap.size w w' := by
  have hm0 := (Hx.refl hM).new L.later P.cells 23
  have k1 := Lib.hid (fun W (h : Hx Mo w W [(w.heap.size, P.cells)]) => h.ask L.later (L.id P W hw h.mo))
  have k2 := Lib.hid (fun W (h : Hx Mo w W [(w.heap.size, P.cells)]) => h.ask L.later (L.shows P W hw h.mo))
  rw [hgd] at k1
  rw [hs] at k2
  have hal := Lib.hid (fun W (h : Hx Mo w W [(w.heap.size, P.cells)]) o => h.alloc L.later o)
  have hV : placeV P = .agg P.cells.toArray := rfl
  have hg := Lib.hid (fun W (h : Hx Mo w W [(w.heap.size, P.cells)]) => (show W.cell? ⟨w.heap.size, 0, none⟩ = some (.string ⟨#[66, 79, 76, 84]⟩) ∧ W.cell? ⟨w.heap.size, 1, none⟩ = some (.string ⟨#[78, 89]⟩) ∧ W.cell? ⟨w.heap.size, 2, none⟩ = some (.int .i64 1) ∧ w.heap.size < W.heap.size from
    ⟨(h.box _ (List.mem_cons_self ..)).spot 0 _ (by rw [hC]; rfl), (h.box _ (List.mem_cons_self ..)).spot 1 _ (by rw [hC]; rfl), (h.box _ (List.mem_cons_self ..)).spot 2 _ (by rw [hC]; rfl), (h.box _ (List.mem_cons_self ..)).lt⟩))
  have hC2 : P.cells.toArray = #[.string ⟨#[66, 79, 76, 84]⟩, .string ⟨#[78, 89]⟩, .int .i64 1] := by rw [hC]
  generalize idPl P = n at *
  rw [hV] at k1 k2
  unfold numV at k1
  rw [hC2] at hm0 k1 k2
  clear hV hM L hC hC2 hgd hs
  generalize P.cells = M at *
  go_enter Tryd.func6, Tryd.ntmps6
  go_wp2_with fail
  refine (k1.out _ hm0).mono ?_
  rintro e w1 ⟨rfl, hm1⟩
  have hm2 := hal.out _ hm1 (.cells #[.int .u64 ((hiN n : Nat) : Int), .int .u64 ((loN n : Nat) : Int)] 27)
  obtain ⟨z0, z1, z2, zl⟩ := hg.out _ hm1
  go_wp2_with fail
  refine (k2.out _ hm2).mono ?_
  rintro e w2 ⟨rfl, hm3⟩
  go_wp2
  go_ret
  exact ⟨rfl, hm3.bel⟩
theorem shelfAlive_any {Mo : World → Prop} (L : LandedSh Mo) (w : World) (hM : Mo w) : Calls Tryd.prog 6 #[] w fun e w' => e = .returned (.bool true) ∧ Below w.heap.size w w' :=
  shelfAlive_of L w hM boltP bolt_wf bolt_good bolt_show rfl
end Go.Proofs.YtdphflbgecnhkaaDoor
