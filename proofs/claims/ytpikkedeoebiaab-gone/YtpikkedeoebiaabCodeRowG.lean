/- Gone, of the code. -/
import Derived.Test.YtpikkedeoebiaabKeepRowGone
import Derived.Test.YtpikkedeoebiaabCodeG
namespace Go.Proofs.Ytpikkedeoebiaab

theorem gone_said : Rows.GoneSaid := gone_holds code_keeps (by decide) (by decide)
#print axioms gone_said

end Go.Proofs.Ytpikkedeoebiaab
