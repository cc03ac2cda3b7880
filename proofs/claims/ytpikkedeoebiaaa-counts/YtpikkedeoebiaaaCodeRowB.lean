/- Counts, of the code. -/
import Derived.Test.YtpikkedeoebiaaaLawI
import Derived.Test.YtpikkedeoebiaaaCodeF
namespace Go.Proofs.Ytpikkedeoebiaaa

theorem counts_said : Rows.CountsSaid := counts_holds code_serves
#print axioms counts_said

end Go.Proofs.Ytpikkedeoebiaaa
