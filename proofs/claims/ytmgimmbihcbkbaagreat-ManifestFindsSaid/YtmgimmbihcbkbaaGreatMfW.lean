/- The law ManifestFinds, as its frame takes it. Written by genmfi.py. -/
import Derived.Test.YtmgimmbihcbkbaaGreatMfI
import Derived.Test.YtmgimmbihcbkbaaGreatMfOpen
namespace Go.Proofs.YtmgimmbihcbkbaaGreat
open Go.RowKit LabPlain
set_option linter.unusedVariables false

/-- as the frame takes it -/
theorem finds_go (s d hz : Int) (ea : Option Addr) (en ec : Nat) (le : List EntV) (ma : Option Addr) (mn mc : Nat) (lm : List (Int × Int)) (oa : Option Addr) (on oc : Nat) (lo : List (Int × Int × Int)) (x : Int) (key : ByteArray) (o0 o1 o2 : Int) (w : World) (hE : VecAt EntS w ea en ec le) (hM : VecAt MarkS w ma mn mc lm) (hO : VecAt OwnS w oa on oc lo) (_ : (Lit.int .i64 x).wf = true) (_ : key.size ≤ 140737488351232) :
    Calls Tryz.prog 3 #[.agg #[.int .i64 s, .int .i64 d, .int .i64 hz, .slice ea en ec, .slice ma mn mc, .slice oa on oc], .int .i64 x, .string key, .agg #[.int .i64 o0, .int .i64 o1, .int .i64 o2]] w fun e w' => e = .returned (.bool true) ∧ Below w.heap.size w w' := finds_any hE hM hO x key o0 o1 o2

end Go.Proofs.YtmgimmbihcbkbaaGreat
