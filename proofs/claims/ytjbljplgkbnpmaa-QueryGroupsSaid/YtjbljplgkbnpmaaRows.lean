/-
  No cell of these rows narrows 'for every input' (looked for: loops, veiled, ifaces, maps, wideKeys, modest, calm, conditions, laid).
  DERIVED. THE GIVEN ROWS OF THIS SEAT. 12 by the template 'for every input the law returns true; each argument reads behind the call as it read before'; 0 by the template 'total and deterministic' (their statements: YtjbljplgkbnpmaaTotals.lean).
  GIVEN WITH THE SEED: the statements are not yours to turn. If you find one false, say at which input.
  Laid BY PROGRAM, IN A SANDBOX (cutbox-rows.mjs): the forced cells as the released guide's own fill.sh prints them over the translation 1e9293c03321e448… (all of the seat's roots in one cut). By AI agents, Wed Nov 11 2026. No macro, syntax, notation, axiom, sorry.
-/
import Derived.Test.YtjbljplgkbnpmaaChecked
import GoSem.Claim
import GoSem.ClaimJoined
import GoSem.ClaimMapViews
import Derived.JoinedTies
import Derived.KernelRfl
namespace Go.Proofs.Ytjbljplgkbnpmaa
/- THE CELL 'sum', in the pinned program and in every row, IS THE sha256 OF THE DUMP (.gsa) THAT YtjbljplgkbnpmaaProg.lean LOADS. Nothing in Lean hashes anything: it is a label: what it is worth is what the hold of that sum in a sandbox is worth. -/
noncomputable def Try.pinned : Pinned := { name := "ytjbljplgkbnpmaa", sum := "1e9293c03321e4489e52b8928404f4d9efe4bde98953ad7ad3f50ddc07859096", checked := Try.checked }
namespace Rows
def none {H : Type} : Left H := { results := [], args := [] }

/-- 'entrepotlaw08.LabelForms': WHATEVER THE INPUT: true; the input reads as it did. -/
def labelFormsSpec : ChangeSpec := { name := "labelForms", fn := fun _ => fun
  | [d] => { results := [.lit (.bool true)], args := [d] }
  | _ => none }
def labelFormsRow : OpenClaim := { program := "ytjbljplgkbnpmaa", sum := "1e9293c03321e4489e52b8928404f4d9efe4bde98953ad7ad3f50ddc07859096", func := "entrepot/entrepotlaw08.LabelForms", spec := "labelForms", plainKeys := false, apart := false }
def LabelFormsSaid : Prop := labelFormsRow.holds Try.pinned (OpenSpec.ofChange labelFormsSpec)

/-- ITS FALSE NEIGHBOUR: 'it returns false'. Refute it at one input. -/
def labelFormsWrong : ChangeSpec := { name := "labelForms", fn := fun _ => fun
  | [d] => { results := [.lit (.bool false)], args := [d] }
  | _ => none }
def LabelFormsWrongFalsely : Prop := labelFormsRow.holds Try.pinned (OpenSpec.ofChange labelFormsWrong)

/-- 'entrepotlaw08.LabelParses': WHATEVER THE INPUT: true; the input reads as it did. -/
def labelParsesSpec : ChangeSpec := { name := "labelParses", fn := fun _ => fun
  | [d] => { results := [.lit (.bool true)], args := [d] }
  | _ => none }
def labelParsesRow : OpenClaim := { program := "ytjbljplgkbnpmaa", sum := "1e9293c03321e4489e52b8928404f4d9efe4bde98953ad7ad3f50ddc07859096", func := "entrepot/entrepotlaw08.LabelParses", spec := "labelParses", inPlace := ["internal/bytealg.IndexByteString", "internal/bytealg.IndexString"], named := ["internal/bytealg.MaxLen"], plainKeys := false, apart := false }
def LabelParsesSaid : Prop := labelParsesRow.holds Try.pinned (OpenSpec.ofChange labelParsesSpec)

/-- ITS FALSE NEIGHBOUR: 'it returns false'. Refute it at one input. -/
def labelParsesWrong : ChangeSpec := { name := "labelParses", fn := fun _ => fun
  | [d] => { results := [.lit (.bool false)], args := [d] }
  | _ => none }
def LabelParsesWrongFalsely : Prop := labelParsesRow.holds Try.pinned (OpenSpec.ofChange labelParsesWrong)

/-- 'entrepotlaw08.LabelParts': WHATEVER THE INPUT: true; the input reads as it did. -/
def labelPartsSpec : ChangeSpec := { name := "labelParts", fn := fun _ => fun
  | [d1, d2, d3] => { results := [.lit (.bool true)], args := [d1, d2, d3] }
  | _ => none }
def labelPartsRow : OpenClaim := { program := "ytjbljplgkbnpmaa", sum := "1e9293c03321e4489e52b8928404f4d9efe4bde98953ad7ad3f50ddc07859096", func := "entrepot/entrepotlaw08.LabelParts", spec := "labelParts", plainKeys := false, apart := false }
def LabelPartsSaid : Prop := labelPartsRow.holds Try.pinned (OpenSpec.ofChange labelPartsSpec)

/-- ITS FALSE NEIGHBOUR: 'it returns false'. Refute it at one input. -/
def labelPartsWrong : ChangeSpec := { name := "labelParts", fn := fun _ => fun
  | [d1, d2, d3] => { results := [.lit (.bool false)], args := [d1, d2, d3] }
  | _ => none }
def LabelPartsWrongFalsely : Prop := labelPartsRow.holds Try.pinned (OpenSpec.ofChange labelPartsWrong)

/-- 'entrepotlaw08.LabelMeets': WHATEVER THE INPUT: true; the input reads as it did. -/
def labelMeetsSpec : ChangeSpec := { name := "labelMeets", fn := fun _ => fun
  | [d1, d2] => { results := [.lit (.bool true)], args := [d1, d2] }
  | _ => none }
def labelMeetsRow : OpenClaim := { program := "ytjbljplgkbnpmaa", sum := "1e9293c03321e4489e52b8928404f4d9efe4bde98953ad7ad3f50ddc07859096", func := "entrepot/entrepotlaw08.LabelMeets", spec := "labelMeets", plainKeys := false, apart := false }
def LabelMeetsSaid : Prop := labelMeetsRow.holds Try.pinned (OpenSpec.ofChange labelMeetsSpec)

/-- ITS FALSE NEIGHBOUR: 'it returns false'. Refute it at one input. -/
def labelMeetsWrong : ChangeSpec := { name := "labelMeets", fn := fun _ => fun
  | [d1, d2] => { results := [.lit (.bool false)], args := [d1, d2] }
  | _ => none }
def LabelMeetsWrongFalsely : Prop := labelMeetsRow.holds Try.pinned (OpenSpec.ofChange labelMeetsWrong)

/-- 'entrepotlaw09.RecordChecks': WHATEVER THE INPUT: true; the input reads as it did. -/
def recordChecksSpec : ChangeSpec := { name := "recordChecks", fn := fun _ => fun
  | [d] => { results := [.lit (.bool true)], args := [d] }
  | _ => none }
def recordChecksRow : OpenClaim := { program := "ytjbljplgkbnpmaa", sum := "1e9293c03321e4489e52b8928404f4d9efe4bde98953ad7ad3f50ddc07859096", func := "entrepot/entrepotlaw09.RecordChecks", spec := "recordChecks", unfollowed := true, recurses := true, plainKeys := false, apart := false }
def RecordChecksSaid : Prop := recordChecksRow.holds Try.pinned (OpenSpec.ofChange recordChecksSpec)

/-- ITS FALSE NEIGHBOUR: 'it returns false'. Refute it at one input. -/
def recordChecksWrong : ChangeSpec := { name := "recordChecks", fn := fun _ => fun
  | [d] => { results := [.lit (.bool false)], args := [d] }
  | _ => none }
def RecordChecksWrongFalsely : Prop := recordChecksRow.holds Try.pinned (OpenSpec.ofChange recordChecksWrong)

/-- 'entrepotlaw09.RecordRows': WHATEVER THE INPUT: true; the input reads as it did. -/
def recordRowsSpec : ChangeSpec := { name := "recordRows", fn := fun _ => fun
  | [d] => { results := [.lit (.bool true)], args := [d] }
  | _ => none }
def recordRowsRow : OpenClaim := { program := "ytjbljplgkbnpmaa", sum := "1e9293c03321e4489e52b8928404f4d9efe4bde98953ad7ad3f50ddc07859096", func := "entrepot/entrepotlaw09.RecordRows", spec := "recordRows", unfollowed := true, recurses := true, plainKeys := false, apart := false }
def RecordRowsSaid : Prop := recordRowsRow.holds Try.pinned (OpenSpec.ofChange recordRowsSpec)

/-- ITS FALSE NEIGHBOUR: 'it returns false'. Refute it at one input. -/
def recordRowsWrong : ChangeSpec := { name := "recordRows", fn := fun _ => fun
  | [d] => { results := [.lit (.bool false)], args := [d] }
  | _ => none }
def RecordRowsWrongFalsely : Prop := recordRowsRow.holds Try.pinned (OpenSpec.ofChange recordRowsWrong)

/-- 'entrepotlaw09.RecordOrders': WHATEVER THE INPUT: true; the input reads as it did. -/
def recordOrdersSpec : ChangeSpec := { name := "recordOrders", fn := fun _ => fun
  | [d] => { results := [.lit (.bool true)], args := [d] }
  | _ => none }
def recordOrdersRow : OpenClaim := { program := "ytjbljplgkbnpmaa", sum := "1e9293c03321e4489e52b8928404f4d9efe4bde98953ad7ad3f50ddc07859096", func := "entrepot/entrepotlaw09.RecordOrders", spec := "recordOrders", unfollowed := true, recurses := true, plainKeys := false, apart := false }
def RecordOrdersSaid : Prop := recordOrdersRow.holds Try.pinned (OpenSpec.ofChange recordOrdersSpec)

/-- ITS FALSE NEIGHBOUR: 'it returns false'. Refute it at one input. -/
def recordOrdersWrong : ChangeSpec := { name := "recordOrders", fn := fun _ => fun
  | [d] => { results := [.lit (.bool false)], args := [d] }
  | _ => none }
def RecordOrdersWrongFalsely : Prop := recordOrdersRow.holds Try.pinned (OpenSpec.ofChange recordOrdersWrong)

/-- 'entrepotlaw09.RecordSplits': WHATEVER THE INPUT: true; the input reads as it did. -/
def recordSplitsSpec : ChangeSpec := { name := "recordSplits", fn := fun _ => fun
  | [d1, d2, d3] => { results := [.lit (.bool true)], args := [d1, d2, d3] }
  | _ => none }
def recordSplitsRow : OpenClaim := { program := "ytjbljplgkbnpmaa", sum := "1e9293c03321e4489e52b8928404f4d9efe4bde98953ad7ad3f50ddc07859096", func := "entrepot/entrepotlaw09.RecordSplits", spec := "recordSplits", unfollowed := true, recurses := true, plainKeys := false, apart := false }
def RecordSplitsSaid : Prop := recordSplitsRow.holds Try.pinned (OpenSpec.ofChange recordSplitsSpec)

/-- ITS FALSE NEIGHBOUR: 'it returns false'. Refute it at one input. -/
def recordSplitsWrong : ChangeSpec := { name := "recordSplits", fn := fun _ => fun
  | [d1, d2, d3] => { results := [.lit (.bool false)], args := [d1, d2, d3] }
  | _ => none }
def RecordSplitsWrongFalsely : Prop := recordSplitsRow.holds Try.pinned (OpenSpec.ofChange recordSplitsWrong)

/-- 'entrepotlaw09.RecordGathers': WHATEVER THE INPUT: true; the input reads as it did. -/
def recordGathersSpec : ChangeSpec := { name := "recordGathers", fn := fun _ => fun
  | [d1, d2, d3] => { results := [.lit (.bool true)], args := [d1, d2, d3] }
  | _ => none }
def recordGathersRow : OpenClaim := { program := "ytjbljplgkbnpmaa", sum := "1e9293c03321e4489e52b8928404f4d9efe4bde98953ad7ad3f50ddc07859096", func := "entrepot/entrepotlaw09.RecordGathers", spec := "recordGathers", unfollowed := true, recurses := true, plainKeys := false, apart := false }
def RecordGathersSaid : Prop := recordGathersRow.holds Try.pinned (OpenSpec.ofChange recordGathersSpec)

/-- ITS FALSE NEIGHBOUR: 'it returns false'. Refute it at one input. -/
def recordGathersWrong : ChangeSpec := { name := "recordGathers", fn := fun _ => fun
  | [d1, d2, d3] => { results := [.lit (.bool false)], args := [d1, d2, d3] }
  | _ => none }
def RecordGathersWrongFalsely : Prop := recordGathersRow.holds Try.pinned (OpenSpec.ofChange recordGathersWrong)

/-- 'entrepotlaw12.QueryAnswers': WHATEVER THE INPUT: true; the input reads as it did. -/
def queryAnswersSpec : ChangeSpec := { name := "queryAnswers", fn := fun _ => fun
  | [d1, d2] => { results := [.lit (.bool true)], args := [d1, d2] }
  | _ => none }
def queryAnswersRow : OpenClaim := { program := "ytjbljplgkbnpmaa", sum := "1e9293c03321e4489e52b8928404f4d9efe4bde98953ad7ad3f50ddc07859096", func := "entrepot/entrepotlaw12.QueryAnswers", spec := "queryAnswers", unfollowed := true, recurses := true, plainKeys := false, apart := false }
def QueryAnswersSaid : Prop := queryAnswersRow.holds Try.pinned (OpenSpec.ofChange queryAnswersSpec)

/-- ITS FALSE NEIGHBOUR: 'it returns false'. Refute it at one input. -/
def queryAnswersWrong : ChangeSpec := { name := "queryAnswers", fn := fun _ => fun
  | [d1, d2] => { results := [.lit (.bool false)], args := [d1, d2] }
  | _ => none }
def QueryAnswersWrongFalsely : Prop := queryAnswersRow.holds Try.pinned (OpenSpec.ofChange queryAnswersWrong)

/-- 'entrepotlaw12.QueryGroups': WHATEVER THE INPUT: true; the input reads as it did. -/
def queryGroupsSpec : ChangeSpec := { name := "queryGroups", fn := fun _ => fun
  | [d1, d2, d3, d4] => { results := [.lit (.bool true)], args := [d1, d2, d3, d4] }
  | _ => none }
def queryGroupsRow : OpenClaim := { program := "ytjbljplgkbnpmaa", sum := "1e9293c03321e4489e52b8928404f4d9efe4bde98953ad7ad3f50ddc07859096", func := "entrepot/entrepotlaw12.QueryGroups", spec := "queryGroups", inPlace := ["internal/bytealg.IndexByteString", "internal/bytealg.IndexString"], unfollowed := true, recurses := true, named := ["internal/bytealg.MaxLen"], plainKeys := false, apart := false }
def QueryGroupsSaid : Prop := queryGroupsRow.holds Try.pinned (OpenSpec.ofChange queryGroupsSpec)

/-- ITS FALSE NEIGHBOUR: 'it returns false'. Refute it at one input. -/
def queryGroupsWrong : ChangeSpec := { name := "queryGroups", fn := fun _ => fun
  | [d1, d2, d3, d4] => { results := [.lit (.bool false)], args := [d1, d2, d3, d4] }
  | _ => none }
def QueryGroupsWrongFalsely : Prop := queryGroupsRow.holds Try.pinned (OpenSpec.ofChange queryGroupsWrong)

/-- 'entrepotlaw12.QuerySpares': WHATEVER THE INPUT: true; the input reads as it did. -/
def querySparesSpec : ChangeSpec := { name := "querySpares", fn := fun _ => fun
  | [d1, d2, d3, d4] => { results := [.lit (.bool true)], args := [d1, d2, d3, d4] }
  | _ => none }
def querySparesRow : OpenClaim := { program := "ytjbljplgkbnpmaa", sum := "1e9293c03321e4489e52b8928404f4d9efe4bde98953ad7ad3f50ddc07859096", func := "entrepot/entrepotlaw12.QuerySpares", spec := "querySpares", inPlace := ["internal/bytealg.IndexByteString", "internal/bytealg.IndexString"], unfollowed := true, recurses := true, named := ["internal/bytealg.MaxLen"], plainKeys := false, apart := false }
def QuerySparesSaid : Prop := querySparesRow.holds Try.pinned (OpenSpec.ofChange querySparesSpec)

/-- ITS FALSE NEIGHBOUR: 'it returns false'. Refute it at one input. -/
def querySparesWrong : ChangeSpec := { name := "querySpares", fn := fun _ => fun
  | [d1, d2, d3, d4] => { results := [.lit (.bool false)], args := [d1, d2, d3, d4] }
  | _ => none }
def QuerySparesWrongFalsely : Prop := querySparesRow.holds Try.pinned (OpenSpec.ofChange querySparesWrong)

/- THE SECOND FORM. 'bulk': how many values and letters a reading holds, each counted each time it is reached (what is shared counts as often as it is met; a slice's spare places count too). A statement '..UptoSaid' is the law's where the arguments, and the package variables that the reading takes, are together of bulk at most 1048576: NARROWER than '..Said'. Prove '..Said' where nothing that the law and all that it calls make is longer than what came in: it says more and counts as full. Else prove '..UptoSaid'. A law counts once. -/
mutual
def uptoBulk {H : Type} : DataW H → Nat
  | .lit (.string bytes) => bytes.length + 1
  | .lit _ => 1
  | .nil => 1
  | .ptr d => uptoBulk d + 1
  | .slice elems spare => uptoBulkAll elems + uptoBulkAll spare + 1
  | .agg parts => uptoBulkAll parts + 1
  | .iface _ d => uptoBulk d + 1
  | .map entries => uptoBulkEntries entries + 1
  | .held _ => 1
def uptoBulkAll {H : Type} : List (DataW H) → Nat
  | [] => 0
  | d :: r => uptoBulk d + uptoBulkAll r
def uptoBulkEntries {H : Type} : List (Lit × DataW H) → Nat
  | [] => 0
  | x :: r => uptoBulkEntry x + uptoBulkEntries r
def uptoBulkEntry {H : Type} : Lit × DataW H → Nat
  | (.string bytes, d) => bytes.length + uptoBulk d + 1
  | (_, d) => uptoBulk d + 1
 end
def uptoSmall : (H : Type) → List (DataW H) → Bool := fun _ ds => decide (uptoBulkAll ds ≤ 1048576)
def OpenSpec.upto (s : _root_.Go.ChangeSpec) : _root_.Go.OpenSpec := { _root_.Go.OpenSpec.ofChange s with cond := some uptoSmall }

/-- 'entrepotlaw08.LabelForms', WHERE WHAT IT READS IS OF BULK AT MOST 1048576: true; the input reads as it did. -/
def labelFormsUptoRow : OpenClaim := { program := "ytjbljplgkbnpmaa", sum := "1e9293c03321e4489e52b8928404f4d9efe4bde98953ad7ad3f50ddc07859096", func := "entrepot/entrepotlaw08.LabelForms", spec := "labelForms", plainKeys := false, apart := false, narrowed := true }
def LabelFormsUptoSaid : Prop := labelFormsUptoRow.holds Try.pinned (OpenSpec.upto labelFormsSpec)

/-- 'entrepotlaw08.LabelParses', WHERE WHAT IT READS IS OF BULK AT MOST 1048576: true; the input reads as it did. -/
def labelParsesUptoRow : OpenClaim := { program := "ytjbljplgkbnpmaa", sum := "1e9293c03321e4489e52b8928404f4d9efe4bde98953ad7ad3f50ddc07859096", func := "entrepot/entrepotlaw08.LabelParses", spec := "labelParses", inPlace := ["internal/bytealg.IndexByteString", "internal/bytealg.IndexString"], named := ["internal/bytealg.MaxLen"], plainKeys := false, apart := false, narrowed := true }
def LabelParsesUptoSaid : Prop := labelParsesUptoRow.holds Try.pinned (OpenSpec.upto labelParsesSpec)

/-- 'entrepotlaw08.LabelParts', WHERE WHAT IT READS IS OF BULK AT MOST 1048576: true; the input reads as it did. -/
def labelPartsUptoRow : OpenClaim := { program := "ytjbljplgkbnpmaa", sum := "1e9293c03321e4489e52b8928404f4d9efe4bde98953ad7ad3f50ddc07859096", func := "entrepot/entrepotlaw08.LabelParts", spec := "labelParts", plainKeys := false, apart := false, narrowed := true }
def LabelPartsUptoSaid : Prop := labelPartsUptoRow.holds Try.pinned (OpenSpec.upto labelPartsSpec)

/-- 'entrepotlaw08.LabelMeets', WHERE WHAT IT READS IS OF BULK AT MOST 1048576: true; the input reads as it did. -/
def labelMeetsUptoRow : OpenClaim := { program := "ytjbljplgkbnpmaa", sum := "1e9293c03321e4489e52b8928404f4d9efe4bde98953ad7ad3f50ddc07859096", func := "entrepot/entrepotlaw08.LabelMeets", spec := "labelMeets", plainKeys := false, apart := false, narrowed := true }
def LabelMeetsUptoSaid : Prop := labelMeetsUptoRow.holds Try.pinned (OpenSpec.upto labelMeetsSpec)

/-- 'entrepotlaw09.RecordChecks', WHERE WHAT IT READS IS OF BULK AT MOST 1048576: true; the input reads as it did. -/
def recordChecksUptoRow : OpenClaim := { program := "ytjbljplgkbnpmaa", sum := "1e9293c03321e4489e52b8928404f4d9efe4bde98953ad7ad3f50ddc07859096", func := "entrepot/entrepotlaw09.RecordChecks", spec := "recordChecks", unfollowed := true, recurses := true, plainKeys := false, apart := false, narrowed := true }
def RecordChecksUptoSaid : Prop := recordChecksUptoRow.holds Try.pinned (OpenSpec.upto recordChecksSpec)

/-- 'entrepotlaw09.RecordRows', WHERE WHAT IT READS IS OF BULK AT MOST 1048576: true; the input reads as it did. -/
def recordRowsUptoRow : OpenClaim := { program := "ytjbljplgkbnpmaa", sum := "1e9293c03321e4489e52b8928404f4d9efe4bde98953ad7ad3f50ddc07859096", func := "entrepot/entrepotlaw09.RecordRows", spec := "recordRows", unfollowed := true, recurses := true, plainKeys := false, apart := false, narrowed := true }
def RecordRowsUptoSaid : Prop := recordRowsUptoRow.holds Try.pinned (OpenSpec.upto recordRowsSpec)

/-- 'entrepotlaw09.RecordOrders', WHERE WHAT IT READS IS OF BULK AT MOST 1048576: true; the input reads as it did. -/
def recordOrdersUptoRow : OpenClaim := { program := "ytjbljplgkbnpmaa", sum := "1e9293c03321e4489e52b8928404f4d9efe4bde98953ad7ad3f50ddc07859096", func := "entrepot/entrepotlaw09.RecordOrders", spec := "recordOrders", unfollowed := true, recurses := true, plainKeys := false, apart := false, narrowed := true }
def RecordOrdersUptoSaid : Prop := recordOrdersUptoRow.holds Try.pinned (OpenSpec.upto recordOrdersSpec)

/-- 'entrepotlaw09.RecordSplits', WHERE WHAT IT READS IS OF BULK AT MOST 1048576: true; the input reads as it did. -/
def recordSplitsUptoRow : OpenClaim := { program := "ytjbljplgkbnpmaa", sum := "1e9293c03321e4489e52b8928404f4d9efe4bde98953ad7ad3f50ddc07859096", func := "entrepot/entrepotlaw09.RecordSplits", spec := "recordSplits", unfollowed := true, recurses := true, plainKeys := false, apart := false, narrowed := true }
def RecordSplitsUptoSaid : Prop := recordSplitsUptoRow.holds Try.pinned (OpenSpec.upto recordSplitsSpec)

/-- 'entrepotlaw09.RecordGathers', WHERE WHAT IT READS IS OF BULK AT MOST 1048576: true; the input reads as it did. -/
def recordGathersUptoRow : OpenClaim := { program := "ytjbljplgkbnpmaa", sum := "1e9293c03321e4489e52b8928404f4d9efe4bde98953ad7ad3f50ddc07859096", func := "entrepot/entrepotlaw09.RecordGathers", spec := "recordGathers", unfollowed := true, recurses := true, plainKeys := false, apart := false, narrowed := true }
def RecordGathersUptoSaid : Prop := recordGathersUptoRow.holds Try.pinned (OpenSpec.upto recordGathersSpec)

/-- 'entrepotlaw12.QueryAnswers', WHERE WHAT IT READS IS OF BULK AT MOST 1048576: true; the input reads as it did. -/
def queryAnswersUptoRow : OpenClaim := { program := "ytjbljplgkbnpmaa", sum := "1e9293c03321e4489e52b8928404f4d9efe4bde98953ad7ad3f50ddc07859096", func := "entrepot/entrepotlaw12.QueryAnswers", spec := "queryAnswers", unfollowed := true, recurses := true, plainKeys := false, apart := false, narrowed := true }
def QueryAnswersUptoSaid : Prop := queryAnswersUptoRow.holds Try.pinned (OpenSpec.upto queryAnswersSpec)

/-- 'entrepotlaw12.QueryGroups', WHERE WHAT IT READS IS OF BULK AT MOST 1048576: true; the input reads as it did. -/
def queryGroupsUptoRow : OpenClaim := { program := "ytjbljplgkbnpmaa", sum := "1e9293c03321e4489e52b8928404f4d9efe4bde98953ad7ad3f50ddc07859096", func := "entrepot/entrepotlaw12.QueryGroups", spec := "queryGroups", inPlace := ["internal/bytealg.IndexByteString", "internal/bytealg.IndexString"], unfollowed := true, recurses := true, named := ["internal/bytealg.MaxLen"], plainKeys := false, apart := false, narrowed := true }
def QueryGroupsUptoSaid : Prop := queryGroupsUptoRow.holds Try.pinned (OpenSpec.upto queryGroupsSpec)

/-- 'entrepotlaw12.QuerySpares', WHERE WHAT IT READS IS OF BULK AT MOST 1048576: true; the input reads as it did. -/
def querySparesUptoRow : OpenClaim := { program := "ytjbljplgkbnpmaa", sum := "1e9293c03321e4489e52b8928404f4d9efe4bde98953ad7ad3f50ddc07859096", func := "entrepot/entrepotlaw12.QuerySpares", spec := "querySpares", inPlace := ["internal/bytealg.IndexByteString", "internal/bytealg.IndexString"], unfollowed := true, recurses := true, named := ["internal/bytealg.MaxLen"], plainKeys := false, apart := false, narrowed := true }
def QuerySparesUptoSaid : Prop := querySparesUptoRow.holds Try.pinned (OpenSpec.upto querySparesSpec)

end Rows
end Go.Proofs.Ytjbljplgkbnpmaa
