/- Locates, of the code. -/
import Derived.Test.YtpikkedeoebiaaaLawU
import Derived.Test.YtpikkedeoebiaaaCodeF
namespace Go.Proofs.Ytpikkedeoebiaaa

theorem locates_said : Rows.LocatesSaid := locates_holds code_serves
#print axioms locates_said

end Go.Proofs.Ytpikkedeoebiaaa
