/- Walks: World.sorted, Orders. -/
import Derived.Test.YthkndfkkgncjfaaWalkF
namespace Go.Proofs.Ythkndfkkgncjfaa
open Go.RowKit
set_option maxRecDepth 100000

/-- the world of a law: no book yet, a drawer at block D -/
def WoAt (w : World) (G D : Nat) : Prop := w.heap[G]? = some (.cells #[.slice none 0 0, .pointer (some ⟨D, 0, none⟩)] 31 (0, 0))
theorem WoAt.lt {w : World} {G D : Nat} (h : WoAt w G D) : G < w.heap.size := lt_of_block h
theorem WoAt.c1 {w : World} {G D : Nat} (h : WoAt w G D) : w.cell? ⟨G, 1, none⟩ = some (.pointer (some ⟨D, 0, none⟩)) := by rw [cell_of_row w G 1 _ 31 (0, 0) h]; rfl
theorem WoAt.below {w w' : World} {G D : Nat} (h : WoAt w G D) (hb : Below w.heap.size w w') : WoAt w' G D := (hb.block G h.lt).trans h

set_option maxHeartbeats 1000000 in
theorem sorted_long (G D : Nat) (s : ByteArray) (w : World) (hs : 120 < s.size) (hw : WoAt w G D) (hd : DrAt w D 0 (.slice none 0 0) (.slice none 0 0) (.slice none 0 0) (.slice none 0 0)) :
    Calls Try.prog 15 #[.pointer (some ⟨G, 0, none⟩), .string s] w fun e w' => e = .returned (.bool true) ∧ Below D w w' := by
  have c1 := hw.c1
  go_enter Try.func15, Try.ntmps15
  go_wp2_with fail
  refine (Order_long s _ hs).mono ?_
  rintro e w1 ⟨rfl, hw1⟩; rw [hw1]; clear hw1
  go_wp2_with fail
  refine (rOrder_long s _ hs).mono ?_
  rintro e w1 ⟨rfl, hw1⟩; rw [hw1]; clear hw1
  go_wp2_with fail
  refine (same_nil _).mono ?_
  rintro e w1 ⟨rfl, hw1⟩; rw [hw1]; clear hw1
  go_wp2_with fail
  refine (keep_nil D _ hd).mono ?_
  rintro e w1 ⟨rfl, hb1⟩
  go_wp2_with fail
  refine (num_any _ _).mono ?_
  rintro e w2 ⟨rfl, hw2⟩; rw [hw2]; clear hw2
  go_wp2_with fail
  refine (Turn_long s _ hs).mono ?_
  rintro e w2 ⟨rfl, hw2⟩; rw [hw2]; clear hw2
  go_wp2_with fail
  refine (rTurn_long s _ hs).mono ?_
  rintro e w2 ⟨rfl, hw2⟩; rw [hw2]; clear hw2
  unfold S
  go_wp2_with fail
  refine (num_any _ _).mono ?_
  rintro e w2 ⟨rfl, hw2⟩; rw [hw2]; clear hw2
  go_wp2_with fail
  go_ret
  exact ⟨rfl, hb1⟩

theorem same_n (B C g h n : Nat) (l : List Nat) (w : World) (hn : l.length = n) (hl : n ≤ 1000000) (ho : OwnI w B g l) (hr : OwnI w C h l) :
    Calls Try.prog 38 #[.slice (some ⟨g, 0, none⟩) n n, .slice (some ⟨h, 0, none⟩) n n] w fun e w' => e = .returned (.bool true) ∧ Below w.heap.size w w' := by
  subst hn; exact same_ok B C g h l w hl ho hr
theorem keep_n (D g n : Nat) (l : List Nat) (w : World) (hn : l.length = n) (hl : n ≤ 1000) (ho : OwnI w (D + 1) g l) (hd : DrAt w D 0 (.slice none 0 0) (.slice none 0 0) (.slice none 0 0) (.slice none 0 0)) :
    Calls Try.prog 39 #[.pointer (some ⟨D, 0, none⟩), .slice (some ⟨g, 0, none⟩) n n] w fun e w' => e = .returned (.tuple #[]) ∧ Below D w w' := by
  subst hn; exact keep_own D g l w hl ho hd

set_option maxHeartbeats 1000000 in
theorem sorted_ok (G D : Nat) (s : ByteArray) (w : World) (hs : s.size ≤ 120) (hw : WoAt w G D) (hd : DrAt w D 0 (.slice none 0 0) (.slice none 0 0) (.slice none 0 0) (.slice none 0 0)) :
    Calls Try.prog 15 #[.pointer (some ⟨G, 0, none⟩), .string s] w fun e w' => e = .returned (.bool true) ∧ Below D w w' := by
  have hdl := hd.lt
  go_enter Try.func15, Try.ntmps15
  go_wp2_with fail
  refine (Order_ok s _ hs).mono ?_
  rintro e w1 ⟨g, rfl, ho1, hb1⟩
  have hz1 := hb1.size
  go_wp2_with fail
  refine (rOrder_ok s _ hs).mono ?_
  rintro e w2 ⟨h, rfl, hr2, hb2⟩
  have hz2 := hb2.size
  have ho2 := ho1.below hb2
  have hw2 := (hw.below hb1).below hb2
  have hd2 := (hd.below hb1).below hb2
  go_wp2_with fail
  refine (same_n w.heap.size w1.heap.size g h (s.size + 1) (Fo.ord s.data.toList) w2 (Fo.ord_length _) (by omega) ho2 hr2).mono ?_
  rintro e w3 ⟨rfl, hb3⟩
  have hz3 := hb3.size
  have ho3 : OwnI w3 (D + 1) g (Fo.ord s.data.toList) := ho2.below hb3 |>.weaken (by omega)
  have hw3 := hw2.below hb3
  have hd3 := hd2.below hb3
  have c1 := hw3.c1
  go_wp2_with fail
  refine (keep_n D g (s.size + 1) (Fo.ord s.data.toList) w3 (Fo.ord_length _) (by omega) ho3 hd3).mono ?_
  rintro e w4 ⟨rfl, hb4⟩
  have hb04 : Below D w w4 := (((hb1.mono (by omega)).trans (hb2.mono (by omega))).trans (hb3.mono (by omega))).trans hb4
  have hz4 := hb4.size
  go_wp2_with fail
  refine (num_any _ _).mono ?_
  rintro e w5 ⟨rfl, hw5⟩; rw [hw5]; clear hw5
  go_wp2_with fail
  refine (Turn_ok s _ hs).mono ?_
  rintro e w5 ⟨rfl, hb5⟩
  have hz5 := hb5.size
  go_wp2_with fail
  refine (rTurn_ok s _ hs).mono ?_
  rintro e w6 ⟨rfl, hb6⟩
  unfold S
  go_wp2_with fail
  refine (num_any _ _).mono ?_
  rintro e w7 ⟨rfl, hw7⟩; rw [hw7]; clear hw7
  go_wp2_with fail
  go_ret
  exact ⟨rfl, (hb04.trans (hb5.mono (by omega))).trans (hb6.mono (by omega))⟩

theorem sorted_any (G D : Nat) (s : ByteArray) (w : World) (hw : WoAt w G D) (hd : DrAt w D 0 (.slice none 0 0) (.slice none 0 0) (.slice none 0 0) (.slice none 0 0)) :
    Calls Try.prog 15 #[.pointer (some ⟨G, 0, none⟩), .string s] w fun e w' => e = .returned (.bool true) ∧ Below D w w' := by
  rcases Nat.lt_or_ge 120 s.size with h | h
  · exact sorted_long G D s w h hw hd
  · exact sorted_ok G D s w h hw hd

set_option maxHeartbeats 1000000 in
theorem orders_any (s : ByteArray) (_hs : s.size ≤ maxLen) (w : World) : Calls Try.prog 3 #[.string s] w fun e w' => e = .returned (.bool true) ∧ Below w.heap.size w w' := by
  go_enter Try.func3, Try.ntmps3
  have hd : ∀ o, DrAt ((w.alloc (.cells #[.int .i64 0, .slice none 0 0, .slice none 0 0, .slice none 0 0, .slice none 0 0] 28)).alloc o) w.heap.size 0 (.slice none 0 0) (.slice none 0 0) (.slice none 0 0) (.slice none 0 0) := fun o => (Below.heap_alloc _ o _ (by simp)).trans (heap_alloc_new w _)
  have hw : WoAt ((w.alloc (.cells #[.int .i64 0, .slice none 0 0, .slice none 0 0, .slice none 0 0, .slice none 0 0] 28)).alloc (.cells #[.slice none 0 0, .pointer (some ⟨w.heap.size, 0, none⟩)] 31)) (w.heap.size + 1) w.heap.size := by
    have := heap_alloc_new (w.alloc (.cells #[.int .i64 0, .slice none 0 0, .slice none 0 0, .slice none 0 0, .slice none 0 0] 28)) (.cells #[.slice none 0 0, .pointer (some ⟨w.heap.size, 0, none⟩)] 31)
    simpa [WoAt] using this
  go_wp2_with fail
  refine (sorted_any _ w.heap.size s _ hw (hd _)).mono ?_
  rintro e w1 ⟨rfl, hb⟩
  go_wp2_with fail
  go_ret
  refine ⟨rfl, Below.trans ?_ hb⟩
  exact ((Below.refl _ _).alloc (Nat.le_refl _) _).alloc (by simp) _

end Go.Proofs.Ythkndfkkgncjfaa
