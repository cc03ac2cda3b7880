/- Changes, of the code. -/
import Derived.Test.YtpikkedeoebiaaaLawX
import Derived.Test.YtpikkedeoebiaaaCodeF
namespace Go.Proofs.Ytpikkedeoebiaaa

theorem changes_said : Rows.ChangesSaid := changes_holds code_serves
#print axioms changes_said

end Go.Proofs.Ytpikkedeoebiaaa
