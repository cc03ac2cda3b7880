/- Reads, of the code. -/
import Derived.Test.YtpikkedeoebiaaaLawI
import Derived.Test.YtpikkedeoebiaaaCodeF
namespace Go.Proofs.Ytpikkedeoebiaaa

theorem reads_said : Rows.ReadsSaid := reads_holds code_serves
#print axioms reads_said

end Go.Proofs.Ytpikkedeoebiaaa
