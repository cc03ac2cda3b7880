/- CodeRowF. -/
import Derived.Test.YthkndfkkgncjfaaKeepRowKept
import Derived.Test.YthkndfkkgncjfaaFolHJA
namespace Go.Proofs.Ythkndfkkgncjfaa

theorem kept_said : Rows.KeptSaid := kept_holds code_keeps (by decide) (by decide)
#print axioms kept_said

end Go.Proofs.Ythkndfkkgncjfaa
