/- An empty drawer. -/
import Derived.Test.YtpikkedeoebiaaaLawD
namespace Go.Proofs.Ytpikkedeoebiaaa
open Go.RowKit
set_option maxRecDepth 100000

/-- a drawer in which nothing lies -/
def DNone (w : World) (D : Nat) (F : Nat → Prop) : Prop :=
  w.heap[D]? = some (.cells #[.int .i64 0, .slice none 0 0, .slice none 0 0, .slice none 0 0, .slice none 0 0] 28 (0, 0)) ∧ F D ∧ ∀ k, F k → k < w.heap.size

set_option maxHeartbeats 400000 in
theorem looks_none (D : Nat) (w : World) (hd : w.heap[D]? = some (.cells #[.int .i64 0, .slice none 0 0, .slice none 0 0, .slice none 0 0, .slice none 0 0] 28 (0, 0))) :
    Calls Try.prog 50 #[.pointer (some ⟨D, 0, none⟩)] w fun e w' => e = .returned (.bool true) ∧ Below w.heap.size w w' := by
  have c1 : w.cell? ⟨D, 1, none⟩ = some (.slice none 0 0) := by rw [cell_of_row w D 1 _ 28 (0, 0) hd]; rfl
  have c2 : w.cell? ⟨D, 2, none⟩ = some (.slice none 0 0) := by rw [cell_of_row w D 2 _ 28 (0, 0) hd]; rfl
  go_enter Try.func50, Try.ntmps50
  go_wp2
  refine wp_loop_rounds 1 ?_
  rw [rounds_succ]
  go_wp2
  refine wp_loop_rounds 1 ?_
  rw [rounds_succ]
  go_wp2
  go_ret
  exact ⟨rfl, Below.refl _ _⟩

theorem drawn_none : Drawn DNone where
  lt h := h.2.2
  frame h hs hf := ⟨(hf _ h.2.1).trans h.1, h.2.1, fun k hk => Nat.lt_of_lt_of_le (h.2.2 k hk) hs⟩
  wide h hfg hg := ⟨h.1, hfg _ h.2.1, hg⟩
  looks h := looks_none _ _ h.1

end Go.Proofs.Ytpikkedeoebiaaa
