/- Kept, of the code. -/
import Derived.Test.YtpikkedeoebiaaaKeepRowKept
import Derived.Test.YtpikkedeoebiaaaCodeG
namespace Go.Proofs.Ytpikkedeoebiaaa

theorem kept_said : Rows.KeptSaid := kept_holds code_keeps (by decide) (by decide)
#print axioms kept_said

end Go.Proofs.Ytpikkedeoebiaaa
