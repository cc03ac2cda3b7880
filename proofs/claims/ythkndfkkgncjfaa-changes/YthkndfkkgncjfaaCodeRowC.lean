/- CodeRowC. -/
import Derived.Test.YthkndfkkgncjfaaLawXJB
import Derived.Test.YthkndfkkgncjfaaFolGJG
namespace Go.Proofs.Ythkndfkkgncjfaa

theorem changes_said : Rows.ChangesSaid := changes_holds code_serves
#print axioms changes_said

end Go.Proofs.Ythkndfkkgncjfaa
