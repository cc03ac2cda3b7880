/- Alike, of the code. -/
import Derived.Test.YtpikkedeoebiaaaKeepRowAlike
import Derived.Test.YtpikkedeoebiaaaCodeG
namespace Go.Proofs.Ytpikkedeoebiaaa

theorem alike_said : Rows.AlikeSaid := alike_holds code_keeps (by decide) (by decide)
#print axioms alike_said

end Go.Proofs.Ytpikkedeoebiaaa
