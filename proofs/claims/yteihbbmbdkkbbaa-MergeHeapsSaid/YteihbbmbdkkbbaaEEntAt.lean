/- Entries of nine cells each; their order. -/
import Derived.Test.YteihbbmbdkkbbaaKitE
import Derived.Test.YteihbbmbdkkbbaaLabPlain
namespace Go.Proofs.Yteihbbmbdkkbbaa
open Go.RowKit LabPlain
set_option linter.unusedVariables false

structure EntV where
  key : ByteArray
  win : Int
  part : ByteArray
  fst : Int
  lst : Int
  rows : Int
  size : Int
  sum : Int
  born : Int
def ent0 : EntV := ⟨ByteArray.empty, 0, ByteArray.empty, 0, 0, 0, 0, 0, 0⟩
def EntV.cells (x : EntV) : List Value := [.string x.key, .int .i64 x.win, .string x.part, .int .i64 x.fst, .int .i64 x.lst, .int .i64 x.rows, .int .i64 x.size, .int .u32 x.sum, .int .i64 x.born]
def cmp3 (x y : Int) : Int := if x < y then -1 else if y < x then 1 else 0
def cmpS (x y : ByteArray) : Int := if ltB x y = true then -1 else if ltB y x = true then 1 else 0
/-- the first that is not nought, of four -/
def or4 (v : Nat → Int) : Int := if v 0 ≠ 0 then v 0 else if v 1 ≠ 0 then v 1 else if v 2 ≠ 0 then v 2 else v 3
def cmpEnt (x y : EntV) : Int := or4 fun k => match k with | 0 => cmp3 x.win y.win | 1 => cmpS x.part y.part | 2 => cmp3 x.born y.born | _ => cmpS x.key y.key
end Go.Proofs.Yteihbbmbdkkbbaa
