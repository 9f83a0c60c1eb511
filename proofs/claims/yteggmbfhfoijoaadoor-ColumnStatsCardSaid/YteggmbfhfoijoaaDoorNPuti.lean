/- PutI and the document's PutU, walked. -/
import Derived.Test.YteggmbfhfoijoaaDoorNumsPut
import Derived.Test.YteggmbfhfoijoaaDoorNumsZig
import Derived.Test.YteggmbfhfoijoaaDoorOwn
import Derived.Laws.AppendOwnNone
namespace Go.Proofs.YteggmbfhfoijoaaDoor
open Go.RowKit NumsPlain
set_option linter.unusedVariables false

set_option maxHeartbeats 1000000 in
theorem puti (m : Int) (hlo : -9223372036854775808 ≤ m) (hhi : m ≤ 9223372036854775807) (w : World) :
    Calls Tryd.prog 48 #[.int .i64 m] w fun e w' => ∃ g c, e = .returned (.slice (some ⟨g, 0, none⟩) (pu (zig m)).length c) ∧ w.heap.size ≤ g ∧ BytesAt w' (some ⟨g, 0, none⟩) (pu (zig m)).length c (pu (zig m)) ∧ Below w.heap.size w w' := by
  have h1 := zig_any m hlo hhi w
  have h2 := putu (zig m) (zig_lt hlo hhi) w
  have H1 := Lib.hid h1
  have H2 := Lib.hid h2
  clear h1 h2
  go_enter Tryd.func48, Tryd.ntmps48
  go_wp2_with fail
  refine H1.out.mono ?_
  rintro e w' ⟨rfl, rfl⟩
  go_wp2_with fail
  refine H2.out.mono ?_
  rintro e w1 ⟨g1, c1, rfl, hg, hp1, hb1⟩
  go_wp2_with fail
  go_ret
  exact ⟨g1, c1, rfl, hg, hp1, hb1⟩


end Go.Proofs.YteggmbfhfoijoaaDoor
