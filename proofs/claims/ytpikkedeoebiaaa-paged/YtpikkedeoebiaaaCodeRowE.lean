/- Paged, of the code. -/
import Derived.Test.YtpikkedeoebiaaaKeepRowPaged
import Derived.Test.YtpikkedeoebiaaaCodeG
namespace Go.Proofs.Ytpikkedeoebiaaa

theorem paged_said : Rows.PagedSaid := paged_holds code_keeps (by decide) (by decide)
#print axioms paged_said

end Go.Proofs.Ytpikkedeoebiaaa
