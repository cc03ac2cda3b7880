/- CodeRowD. -/
import Derived.Test.YthkndfkkgncjfaaKeepRowAlike
import Derived.Test.YthkndfkkgncjfaaFolHJA
namespace Go.Proofs.Ythkndfkkgncjfaa

theorem alike_said : Rows.AlikeSaid := alike_holds code_keeps (by decide) (by decide)
#print axioms alike_said

end Go.Proofs.Ythkndfkkgncjfaa
