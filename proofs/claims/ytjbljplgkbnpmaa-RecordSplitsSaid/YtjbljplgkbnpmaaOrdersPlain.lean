/- Two stable sorts of rows that say the same say the same. Plain. -/
import Derived.Test.YtjbljplgkbnpmaaSort
import Derived.Test.YtjbljplgkbnpmaaSortPlain
namespace Go.Proofs.Ytjbljplgkbnpmaa
open Go.RowKit LabPlain RecPlain Stab
set_option linter.unusedVariables false

abbrev Say := Int × Int × List Lab × ByteArray × Int × Bool × Int × Int × Int
/-- a row that says this -/
def rowOf (s : Say) : RowV := ⟨⟨s.1, s.2.1, none, 0, 0, s.2.2.1, s.2.2.2.1, s.2.2.2.2.1, s.2.2.2.2.2.1⟩, s.2.2.2.2.2.2.1, s.2.2.2.2.2.2.2.1, s.2.2.2.2.2.2.2.2⟩
def ltS (s t : Say) : Bool := ltR (rowOf s) (rowOf t)
theorem weak_ltS : Weak ltS := ⟨fun x => weak_ltR.irr _, fun x y z => weak_ltR.tr _ _ _, fun x y z => weak_ltR.co _ _ _⟩
theorem ltR_says (x y : RowV) : ltR x y = ltS x.says y.says := rfl
theorem stable_says {f g : Nat → RowV} {F : Nat → Say} {n : Nat} (h : Stable ltR f g n) (hf : ∀ i, i < n → (f i).says = F i) : Stable ltS F (fun i => (g i).says) n := by
  obtain ⟨t, h1, h2, h3⟩ := h
  refine ⟨fun i => ((t i).1.says, (t i).2), fun i hi => by show (t i).1.says = _; rw [h1 i hi], fun i j hi hij hj => ?_, fun x => ?_⟩
  · rcases h2 i j hi hij hj with g | ⟨g1, g2⟩
    · exact .inl (by rw [← ltR_says]; exact g)
    · exact .inr ⟨by rw [← ltR_says]; exact g1, g2⟩
  · constructor
    · rintro ⟨i, hi1, hi2, rfl⟩
      obtain ⟨k, hk, e⟩ := (h3 (t i)).1 ⟨i, hi1, hi2, rfl⟩
      exact ⟨k, hk, Prod.ext (by show (t i).1.says = F k; rw [e]; exact hf k hk) (by show (t i).2 = k; rw [e])⟩
    · rintro ⟨k, hk, rfl⟩
      obtain ⟨i, hi1, hi2, e⟩ := (h3 (f k, k)).2 ⟨k, hk, rfl⟩
      exact ⟨i, hi1, hi2, Prod.ext (by show (t i).1.says = F k; rw [e]; exact hf k hk) (by show (t i).2 = k; rw [e])⟩
theorem sorts_same {l l1 l2 p q : List RowV} {n : Nat} (h1 : ∀ j, j < n → (atL l1 j).says = (atR l j).says) (hp : Stable ltR (atL l1) (atL p) n) (hq : Stable ltR (atR l) (atR q) n) (lp : p.length = n) (lq : q.length = n) : sameRs p q = true := by
  have s1 := stable_says hp h1
  have s2 := stable_says hq (fun i _ => rfl)
  unfold sameRs
  rw [decide_eq_true (by rw [lp, lq]), sameTo_yes (fun j hj => Stable.same weak_ltS s1 s2 j (by rw [← lp]; exact hj))]
  rfl

end Go.Proofs.Ytjbljplgkbnpmaa
