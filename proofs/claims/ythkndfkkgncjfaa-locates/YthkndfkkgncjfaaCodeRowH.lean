/- CodeRowH. -/
import Derived.Test.YthkndfkkgncjfaaLawUJA
import Derived.Test.YthkndfkkgncjfaaFolGJG
namespace Go.Proofs.Ythkndfkkgncjfaa

theorem locates_said : Rows.LocatesSaid := locates_holds code_serves
#print axioms locates_said

end Go.Proofs.Ythkndfkkgncjfaa
