/- Walks: folio.Order, folio.Turn, folioref.Order, folioref.Turn, foliolaw.num, foliolaw.sameInts. -/
import Derived.Test.YthkndfkkgncjfaaWalkC
namespace Go.Proofs.Ythkndfkkgncjfaa
open Go.RowKit
set_option maxRecDepth 100000

/-- a text as a value -/
def S (l : List UInt8) : Value := .string ⟨l.toArray⟩

set_option maxHeartbeats 400000 in
theorem Order_ok (s : ByteArray) (w : World) (hs : s.size ≤ 120) :
    Calls Try.prog 18 #[.string s] w fun e w' => ∃ g, e = .returned (.tuple #[.slice (some ⟨g, 0, none⟩) (s.size + 1) (s.size + 1), .int .i64 0]) ∧ OwnI w' w.heap.size g (Fo.ord s.data.toList) ∧ Below w.heap.size w w' := by
  go_enter Try.func18, Try.ntmps18
  go_wp2_with (go_at_call 44; refine (order_any _ _ (by omega)).mono ?_; rintro e w1 ⟨g, rfl, hown, hbl⟩)
  go_ret2
  exact ⟨g, rfl, hown, hbl⟩
set_option maxHeartbeats 400000 in
theorem Order_long (s : ByteArray) (w : World) (hs : 120 < s.size) :
    Calls Try.prog 18 #[.string s] w fun e w' => e = .returned (.tuple #[.slice none 0 0, .int .i64 2]) ∧ w' = w := by
  go_enter Try.func18, Try.ntmps18
  go_wp2
  go_ret2
  exact ⟨rfl, rfl⟩
set_option maxHeartbeats 400000 in
theorem rOrder_ok (s : ByteArray) (w : World) (hs : s.size ≤ 120) :
    Calls Try.prog 37 #[.string s] w fun e w' => ∃ g, e = .returned (.tuple #[.slice (some ⟨g, 0, none⟩) (s.size + 1) (s.size + 1), .int .i64 0]) ∧ OwnI w' w.heap.size g (Fo.ord s.data.toList) ∧ Below w.heap.size w w' := by
  go_enter Try.func37, Try.ntmps37
  go_wp2_with (go_at_call 59; refine (ref_order_any _ _ (by omega)).mono ?_; rintro e w1 ⟨g, rfl, hown, hbl⟩)
  go_ret2
  exact ⟨g, rfl, hown, hbl⟩
set_option maxHeartbeats 400000 in
theorem rOrder_long (s : ByteArray) (w : World) (hs : 120 < s.size) :
    Calls Try.prog 37 #[.string s] w fun e w' => e = .returned (.tuple #[.slice none 0 0, .int .i64 2]) ∧ w' = w := by
  go_enter Try.func37, Try.ntmps37
  go_wp2
  go_ret2
  exact ⟨rfl, rfl⟩

set_option maxHeartbeats 400000 in
theorem Turn_ok (s : ByteArray) (w : World) (hs : s.size ≤ 120) :
    Calls Try.prog 19 #[.string s] w fun e w' => e = .returned (.tuple #[S (Fo.turn s.data.toList).1, .int .i64 ((Fo.turn s.data.toList).2 : Nat), .int .i64 0]) ∧ Below w.heap.size w w' := by
  go_enter Try.func19, Try.ntmps19
  go_wp2_with (go_at_call 45; refine (turn_any _ _ (by omega)).mono ?_; rintro e w1 ⟨rfl, hbl⟩)
  go_ret3
  exact ⟨rfl, hbl⟩
set_option maxHeartbeats 400000 in
theorem Turn_long (s : ByteArray) (w : World) (hs : 120 < s.size) :
    Calls Try.prog 19 #[.string s] w fun e w' => e = .returned (.tuple #[S [], .int .i64 0, .int .i64 2]) ∧ w' = w := by
  go_enter Try.func19, Try.ntmps19
  go_wp2
  go_ret3
  exact ⟨rfl, rfl⟩
set_option maxHeartbeats 400000 in
theorem rTurn_ok (s : ByteArray) (w : World) (hs : s.size ≤ 120) :
    Calls Try.prog 41 #[.string s] w fun e w' => e = .returned (.tuple #[S (Fo.turn s.data.toList).1, .int .i64 ((Fo.turn s.data.toList).2 : Nat), .int .i64 0]) ∧ Below w.heap.size w w' := by
  go_enter Try.func41, Try.ntmps41
  go_wp2_with (go_at_call 60; refine (ref_turn_any _ _ (by omega)).mono ?_; rintro e w1 ⟨rfl, hbl⟩)
  go_ret3
  exact ⟨rfl, hbl⟩
set_option maxHeartbeats 400000 in
theorem rTurn_long (s : ByteArray) (w : World) (hs : 120 < s.size) :
    Calls Try.prog 41 #[.string s] w fun e w' => e = .returned (.tuple #[S [], .int .i64 0, .int .i64 2]) ∧ w' = w := by
  go_enter Try.func41, Try.ntmps41
  go_wp2
  go_ret3
  exact ⟨rfl, rfl⟩

set_option maxHeartbeats 400000 in
theorem num_any (n : Int) (w : World) : Calls Try.prog 40 #[.int .i64 n] w fun e w' => e = .returned (.int .i64 n) ∧ w' = w := by
  go_enter Try.func40, Try.ntmps40
  go_wp2
  go_ret
  exact ⟨rfl, rfl⟩

set_option maxHeartbeats 400000 in
theorem same_nil (w : World) : Calls Try.prog 38 #[.slice none 0 0, .slice none 0 0] w fun e w' => e = .returned (.bool true) ∧ w' = w := by
  go_enter Try.func38, Try.ntmps38
  go_wp2
  refine wp_loop_rounds 1 ?_
  rw [rounds_succ]
  go_wp2
  go_ret
  exact ⟨rfl, rfl⟩

set_option maxHeartbeats 400000 in
theorem same_ok (B C g h : Nat) (l : List Nat) (w : World) (hl : l.length ≤ 1000000) (ho : OwnI w B g l) (hr : OwnI w C h l) :
    Calls Try.prog 38 #[.slice (some ⟨g, 0, none⟩) l.length l.length, .slice (some ⟨h, 0, none⟩) l.length l.length] w fun e w' => e = .returned (.bool true) ∧ Below w.heap.size w w' := by
  go_enter Try.func38, Try.ntmps38
  go_wp2
  go_loopw [5] (fun i wr => ∃ k : Nat, k ≤ l.length ∧ i = .int .i64 k ∧ OwnI wr B g l ∧ OwnI wr C h l ∧ Below w.heap.size w wr) (fun i _ => l.length - (intOf i).toNat)
  case atStart => exact ⟨0, Nat.zero_le _, rfl, ho, hr, Below.refl _ _⟩
  case round =>
    obtain ⟨k, hk, rfl, ho1, hr1, hb⟩ := hrel
    clear ho hr
    by_cases hlt : k < l.length
    · have c1 := ho1.cell k hlt
      have c2 := hr1.cell k hlt
      obtain ⟨x, hx⟩ : ∃ x, l.getD k 0 = x := ⟨_, rfl⟩
      rw [hx] at c1 c2
      clear hx
      have hn : ((x : Int) != (x : Int)) = false := by simp
      go_wp2
      go_quiet (fail)
      go_wp2
      go_roundw
      case rel => exact ⟨k + 1, by omega, by go_num, ho1.below (below_drewN (Below.refl _ _) _), hr1.below (below_drewN (Below.refl _ _) _), below_drewN hb _⟩
      case measure => simp [intOf]; omega
    · go_wp2
      go_ret
      exact ⟨rfl, hb⟩

end Go.Proofs.Ythkndfkkgncjfaa
