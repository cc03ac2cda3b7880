/- SlowC. -/
import Derived.Test.YthkndfkkgncjfabSlowB1JA
import Derived.Test.YthkndfkkgncjfabSlowB2JA
namespace Go.Proofs.Ythkndfkkgncjfab
open Go.RowKit
set_option maxRecDepth 100000

theorem slow_law {M : Nat} {At : World → Nat → Int → Int → Int → List Do.Chg → (Nat → Prop) → Prop} (hC : Keeps M At 28 21 23 60 62 20 58 11) (hT : Tells M At 16) (hM : M ≤ 9000000000000000) (a b p : Int) (ha : inR a) (hb : inR b) (hp : inR p) (sv : Value) (len : Nat) (os : Nat → StV) (w : World) (hsc : Steps3 w sv len os) (hlen : len < M) :
    Calls Try.prog 5 #[.agg #[.int .i64 a, .int .i64 b, .int .i64 p], sv] w fun e w' => e = .returned (.bool true) ∧ Below w.heap.size w w' := by
  by_cases h : cB b < 2
  · exact slow_one hC hT hM a b p ha hb hp sv len os w hsc hlen h
  · exact slow_two hC hT hM a b p ha hb hp sv len os w hsc hlen (by omega)

end Go.Proofs.Ythkndfkkgncjfab
