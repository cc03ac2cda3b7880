/- CodeRowA. -/
import Derived.Test.YthkndfkkgncjfaaLawIJA
import Derived.Test.YthkndfkkgncjfaaFolGJG
namespace Go.Proofs.Ythkndfkkgncjfaa

theorem reads_said : Rows.ReadsSaid := reads_holds code_serves
#print axioms reads_said

end Go.Proofs.Ythkndfkkgncjfaa
