/- Walks: folioref.Rows, turned, Turns. -/
import Derived.Test.YthkndfkkgncjfaaWalkK
namespace Go.Proofs.Ythkndfkkgncjfaa
open Go.RowKit
set_option maxRecDepth 100000

set_option maxHeartbeats 1000000 in
theorem rRows_no (s b : ByteArray) (T : List UInt8) (q : Int) (r : Int) (w : World) (hq : (q != 0) = true)
    (hun : Calls Try.prog 42 #[.string s, .int .i64 r] w fun e w' => e = .returned (.tuple #[S T, .int .i64 q]) ∧ Below w.heap.size w w') :
    Calls Try.prog 43 #[.string s, .int .i64 r, .string b] w fun e w' => e = .returned (.tuple #[.int .i64 0, .int .i64 0, .int .i64 q]) ∧ Below w.heap.size w w' := by
  have HU : Hid (Calls Try.prog 42 #[.string s, .int .i64 r] w fun e w' => e = .returned (.tuple #[S T, .int .i64 q]) ∧ Below w.heap.size w w') := hun
  clear hun
  go_enter Try.func43, Try.ntmps43
  go_wp2_with fail
  refine HU.out.mono ?_
  rintro e w1 ⟨rfl, hb1⟩
  unfold S
  go_wp2_with fail
  go_ret3
  exact ⟨rfl, hb1⟩

theorem rRows_any (s b : ByteArray) (r : Int) (w : World) (hb : b.size ≤ 9223372036854775807) :
    Calls Try.prog 43 #[.string s, .int .i64 r, .string b] w fun e w' => e = .returned (.tuple #[.int .i64 (rowRes s r b).1, .int .i64 (rowRes s r b).2.1, .int .i64 (rowRes s r b).2.2]) ∧ Below w.heap.size w w' := by
  have hun := rUnturn_any s r w
  have hlen := uRes_len s r
  unfold rowRes
  generalize (uRes s r).1 = T at *
  generalize (uRes s r).2 = q at *
  by_cases hq : q = 0
  · subst hq
    rw [if_pos rfl]
    exact rRows_yes s ⟨T.toArray⟩ b r w hb hlen hun
  · rw [if_neg hq]
    exact rRows_no s b T q r w (by rw [bne_iff_ne]; exact hq) hun

set_option maxHeartbeats 1000000 in
theorem turned_any (s b : ByteArray) (r : Int) (w : World) (hb : b.size ≤ 9223372036854775807) :
    Calls Try.prog 16 #[.string s, .int .i64 r, .string b] w fun e w' => e = .returned (.bool true) ∧ Below w.heap.size w w' := by
  have h1 := fun w => Unturn_any s r w
  have h2 := fun w => rUnturn_any s r w
  have h3 := fun w => Rows_any s b r w hb
  have h4 := fun w => rRows_any s b r w hb
  generalize (uRes s r).1 = T at *
  generalize (uRes s r).2 = q at *
  generalize (rowRes s r b).1 = x at *
  generalize (rowRes s r b).2.1 = y at *
  generalize (rowRes s r b).2.2 = z at *
  unfold S at h1 h2
  have H1 : Hid (∀ w, Calls Try.prog 21 #[.string s, .int .i64 r] w fun e w' => e = .returned (.tuple #[.string ⟨T.toArray⟩, .int .i64 q]) ∧ Below w.heap.size w w') := h1
  have H2 : Hid (∀ w, Calls Try.prog 42 #[.string s, .int .i64 r] w fun e w' => e = .returned (.tuple #[.string ⟨T.toArray⟩, .int .i64 q]) ∧ Below w.heap.size w w') := h2
  have H3 : Hid (∀ w, Calls Try.prog 22 #[.string s, .int .i64 r, .string b] w fun e w' => e = .returned (.tuple #[.int .i64 x, .int .i64 y, .int .i64 z]) ∧ Below w.heap.size w w') := h3
  have H4 : Hid (∀ w, Calls Try.prog 43 #[.string s, .int .i64 r, .string b] w fun e w' => e = .returned (.tuple #[.int .i64 x, .int .i64 y, .int .i64 z]) ∧ Below w.heap.size w w') := h4
  clear h1 h2 h3 h4
  go_enter Try.func16, Try.ntmps16
  go_wp2_with fail
  refine (H1.out _).mono ?_
  rintro e w1 ⟨rfl, hb1⟩
  have hz1 := hb1.size
  go_wp2_with fail
  refine (H2.out _).mono ?_
  rintro e w2 ⟨rfl, hb2⟩
  have hz2 := hb2.size
  go_wp2_with fail
  refine (num_any _ _).mono ?_
  rintro e w3 ⟨rfl, hw3⟩; rw [hw3]; clear hw3
  go_wp2_with fail
  refine (H3.out _).mono ?_
  rintro e w3 ⟨rfl, hb3⟩
  have hz3 := hb3.size
  go_wp2_with fail
  refine (H4.out _).mono ?_
  rintro e w4 ⟨rfl, hb4⟩
  go_wp2_with fail
  refine (num_any _ _).mono ?_
  rintro e w5 ⟨rfl, hw5⟩; rw [hw5]; clear hw5
  go_wp2_with fail
  go_ret
  exact ⟨rfl, ((hb1.trans (hb2.mono (by omega))).trans (hb3.mono (by omega))).trans (hb4.mono (by omega))⟩

set_option maxHeartbeats 1000000 in
theorem turns_any (s : ByteArray) (r : Int) (b : ByteArray) (_hs : s.size ≤ maxLen) (_hr : (Lit.int .i64 r).wf = true) (hb : b.size ≤ maxLen) (w : World) :
    Calls Try.prog 4 #[.string s, .int .i64 r, .string b] w fun e w' => e = .returned (.bool true) ∧ Below w.heap.size w w' := by
  unfold maxLen at hb
  go_enter Try.func4, Try.ntmps4
  go_wp2_with fail
  refine (turned_any s b r _ hb).mono ?_
  rintro e w1 ⟨rfl, hb1⟩
  go_wp2_with fail
  go_ret
  exact ⟨rfl, hb1⟩

end Go.Proofs.Ythkndfkkgncjfaa
