/- CodeRowL. -/
import Derived.Test.YthkndfkkgncjfabLawArJA
import Derived.Test.YthkndfkkgncjfabFolVJA
namespace Go.Proofs.Ythkndfkkgncjfab

theorem val_says' : Says CVal 16 where
  stats := fun h P hP L hL onv hov => val_stats h P hP L hL onv hov
  valid := fun h => h.2
theorem all_said : Rows.AllSaid := all_holds val_serves val_says'
#print axioms all_said

end Go.Proofs.Ythkndfkkgncjfab
