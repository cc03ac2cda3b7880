/- CodeRowS. -/
import Derived.Test.YthkndfkkgncjfabKeepRowSlow
import Derived.Test.YthkndfkkgncjfabFolHJA
import Derived.Test.YthkndfkkgncjfabFolTJA
namespace Go.Proofs.Ythkndfkkgncjfab

theorem slow_said : Rows.SlowSaid := slow_holds code_keeps code_tells (by decide) (by decide)
#print axioms slow_said

end Go.Proofs.Ythkndfkkgncjfab
