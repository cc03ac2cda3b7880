/- CodeRowE. -/
import Derived.Test.YthkndfkkgncjfaaKeepRowPaged
import Derived.Test.YthkndfkkgncjfaaFolHJA
namespace Go.Proofs.Ythkndfkkgncjfaa

theorem paged_said : Rows.PagedSaid := paged_holds code_keeps (by decide) (by decide)
#print axioms paged_said

end Go.Proofs.Ythkndfkkgncjfaa
