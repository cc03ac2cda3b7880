/- LocatesUpto, of the code. -/
import Derived.Test.YtpikkedeoebiaaaLawV
import Derived.Test.YtpikkedeoebiaaaCodeF
namespace Go.Proofs.Ytpikkedeoebiaaa

theorem locates_said : Rows.LocatesUptoSaid := locates_holds code_serves
#print axioms locates_said

end Go.Proofs.Ytpikkedeoebiaaa
