/- ChangesUpto, of the code. -/
import Derived.Test.YtpikkedeoebiaaaLawQ
import Derived.Test.YtpikkedeoebiaaaCodeF
namespace Go.Proofs.Ytpikkedeoebiaaa

theorem changes_said : Rows.ChangesUptoSaid := changes_holds code_serves
#print axioms changes_said

end Go.Proofs.Ytpikkedeoebiaaa
