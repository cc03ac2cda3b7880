/- CodeRowB. -/
import Derived.Test.YthkndfkkgncjfaaLawIJA
import Derived.Test.YthkndfkkgncjfaaFolGJG
namespace Go.Proofs.Ythkndfkkgncjfaa

theorem counts_said : Rows.CountsSaid := counts_holds code_serves
#print axioms counts_said

end Go.Proofs.Ythkndfkkgncjfaa
