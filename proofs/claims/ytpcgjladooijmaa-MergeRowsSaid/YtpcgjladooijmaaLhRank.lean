/- Lists of rows by their first row's rank. -/
import Derived.Test.YtpcgjladooijmaaRowCmp
import Derived.Test.YtpcgjladooijmaaIns
import Derived.Test.YtpcgjladooijmaaLhPlain
namespace Go.Proofs.Ytpcgjladooijmaa
open Go.ChangeShapes Go.WideShapes Go.Deep Go.RowKit LabPlain RecPlain
set_option linter.unusedVariables false

/-- a row's place in the order, as one number -/
def RowV.rank (x : RowV) : Int := ((x.r.time * 36893488147419103232 + x.who) * 36893488147419103232 + x.sq) * 36893488147419103232 + x.pl
theorem rank_lt {x y : RowV} (hx : x.fits) (hy : y.fits) : cmpRow x y < 0 ↔ x.rank < y.rank := by
  obtain ⟨⟨_, x1, _⟩, x2, x3, x4⟩ := hx
  obtain ⟨⟨_, y1, _⟩, y2, y3, y4⟩ := hy
  unfold cmpRow RowV.key RowV.rank
  simp only [cmpL]
  repeat' split
  all_goals omega
theorem rank_eq {x y : RowV} (hx : x.fits) (hy : y.fits) : cmpRow x y = 0 ↔ x.rank = y.rank := by
  obtain ⟨⟨_, x1, _⟩, x2, x3, x4⟩ := hx
  obtain ⟨⟨_, y1, _⟩, y2, y3, y4⟩ := hy
  unfold cmpRow RowV.key RowV.rank
  simp only [cmpL]
  repeat' split
  all_goals omega
theorem rank_le {x y : RowV} (hx : x.fits) (hy : y.fits) : 0 ≤ cmpRow x y ↔ y.rank ≤ x.rank := by
  have := rank_lt hx hy
  omega
/-- a list of rows, where it lies -/
structure LsV where
  a : Option Addr
  n : Nat
  c : Nat
  rs : List RowV
def LsV.key (x : LsV) : Int := (x.rs.getD 0 row0).rank
end Go.Proofs.Ytpcgjladooijmaa
