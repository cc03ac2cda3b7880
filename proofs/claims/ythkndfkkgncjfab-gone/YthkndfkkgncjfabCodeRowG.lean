/- CodeRowG. -/
import Derived.Test.YthkndfkkgncjfabKeepRowGone
import Derived.Test.YthkndfkkgncjfabFolHJA
namespace Go.Proofs.Ythkndfkkgncjfab

theorem gone_said : Rows.GoneSaid := gone_holds code_keeps (by decide) (by decide)
#print axioms gone_said

end Go.Proofs.Ythkndfkkgncjfab
