/- CodeRowP. -/
import Derived.Test.YthkndfkkgncjfabLawZJA
import Derived.Test.YthkndfkkgncjfabFolVJA
namespace Go.Proofs.Ythkndfkkgncjfab

theorem val_says : Says CVal 16 where
  stats := fun h P hP L hL onv hov => val_stats h P hP L hL onv hov
  valid := fun h => h.2
theorem parts_said : Rows.PartsSaid := parts_holds val_serves val_says
#print axioms parts_said

end Go.Proofs.Ythkndfkkgncjfab
