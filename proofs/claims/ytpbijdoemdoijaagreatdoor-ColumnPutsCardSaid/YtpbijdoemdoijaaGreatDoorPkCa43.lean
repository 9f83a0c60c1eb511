/- Texts put together by packtpl2.py: ColOpenB. -/
import Derived.Test.YtpbijdoemdoijaaGreatDoorPkCa10
import Derived.Test.YtpbijdoemdoijaaGreatDoorPkCa12
import Derived.ChangeArms
section PkCa43_0
/- Texts and flags, as a law's arguments. -/
namespace Go.Proofs.YtpbijdoemdoijaaGreatDoor
open Go.ChangeShapes Go.WideShapes Go.Deep Go.RowKit BitsPlain NumsPlain
set_option linter.unusedVariables false

/-- flags, as things of one cell -/
def BoolS : Sty Bool := ⟨fun b => [.bool b], 1, false, fun _ _ => True, by decide, fun _ => rfl, (fun x u hu => by rw [List.mem_singleton.1 hu]; rfl), fun _ h => h⟩
theorem FlAt.ofVec {w : World} {a : Option Addr} {n c : Nat} {l : List Bool} (h : VecAt BoolS w a n c l) : FlAt w a n c l :=
  ⟨h.len, h.cap, h.capm, h.nl, fun hn => by
    obtain ⟨b, off, ha, hlt, hc⟩ := h.cells hn
    refine ⟨b, off, ha, hlt, fun i hi => ?_⟩
    have h1 := hc i hi 0 (.bool (l.getD i false)) rfl
    have e : off + i * BoolS.K + 0 = off + i := by show off + i * 1 + 0 = _; omega
    rw [e] at h1; exact h1⟩
theorem strv_field {H : Type} {enc : TypeId × Value → H} {W : World} {fuel : Nat} {cs : List Value} {y : DataW H × List MemPlace} (h : DataW.trod enc Tryz.prog W 0 (fun _ => true) true fuel 9 cs = some y) (hw : ∀ n, n ∈ DataW.weights Tryz.prog 9 y.1 → n ≤ reachBytes) :
    ∃ s, cs = StrS.f s ∧ StrS.ok W s := by
  obtain ⟨s, hs, hx, _⟩ := DataW.trod_string Tryz.underlying9 h
  refine ⟨s, hs, ?_⟩
  have hr := reachBytes_lt
  have w0 := hw s.data.toList.length (by rw [hx]; simp [DataW.weights])
  show s.size ≤ 140737488355328
  simp at w0
  omega
theorem open_strv {H : Type} {enc : TypeId × Value → H} {W : World} {fuel : Nat} {a : Option Addr} {len cap : Nat} {x : DataW H × List MemPlace} (hf : DataW.trod enc Tryz.prog W 0 (fun _ => true) true fuel 23 [.slice a len cap] = some x) (hw : ∀ n, n ∈ DataW.weights Tryz.prog 23 x.1 → n ≤ reachBytes) : ∃ l, VecAt StrS W a len cap l :=
  open_vec StrS Tryz.underlying23 (by kernel_rfl) (fun _ _ _ g1 g2 => strv_field g1 g2) hf hw
theorem open_flags {H : Type} {enc : TypeId × Value → H} {W : World} {fuel : Nat} {a : Option Addr} {len cap : Nat} {x : DataW H × List MemPlace} (hf : DataW.trod enc Tryz.prog W 0 (fun _ => true) true fuel 24 [.slice a len cap] = some x) (hw : ∀ n, n ∈ DataW.weights Tryz.prog 24 x.1 → n ≤ reachBytes) : ∃ l, FlAt W a len cap l := by
  obtain ⟨l, h⟩ := open_vec BoolS (a := a) Tryz.underlying24 (by kernel_rfl) (fun _ _ _ g1 g2 => by
    obtain ⟨b, hb, _⟩ := DataW.trod_bool Tryz.underlying4 g1
    exact ⟨b, hb, trivial⟩) hf hw
  exact ⟨l, FlAt.ofVec h⟩
end Go.Proofs.YtpbijdoemdoijaaGreatDoor
end PkCa43_0
