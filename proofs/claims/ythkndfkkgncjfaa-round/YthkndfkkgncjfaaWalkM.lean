/- Walks: foliokeep's short and Round. -/
import Derived.Test.YthkndfkkgncjfaaWalkK
namespace Go.Proofs.Ythkndfkkgncjfaa
open Go.RowKit
set_option maxRecDepth 100000

set_option maxHeartbeats 400000 in
theorem short_any (s : ByteArray) (w : World) (_hs : s.size ≤ 9223372036854775807) :
    Calls Try.prog 17 #[.string s, .int .i64 120] w fun e w' => ∃ t : ByteArray, e = .returned (.string t) ∧ t.size ≤ 120 ∧ w' = w := by
  by_cases h : s.size ≤ 120
  · go_enter Try.func17, Try.ntmps17
    go_wp2
    go_ret
    exact ⟨s, rfl, h, rfl⟩
  · have h1 : 120 ≤ s.size := by omega
    go_enter Try.func17, Try.ntmps17
    go_wp2
    go_ret
    exact ⟨s.extract 0 120, rfl, by rw [ByteArray.size_extract]; omega, rfl⟩

theorem S_data (t : ByteArray) : S t.data.toList = .string t := rfl

theorem uRes_turn (t : List UInt8) (h : t.length ≤ 120) : uRes ⟨(Fo.turn t).1.toArray⟩ ((Fo.turn t).2 : Nat) = (t, 0) := by
  have hl := Fo.turn_len t
  have hs : (⟨(Fo.turn t).1.toArray⟩ : ByteArray).size = t.length := hl
  have hr : (Fo.turn t).2 ≤ t.length := by rw [Fo.turn_row]; exact Fo.row_le t
  unfold uRes
  rw [hs, if_neg (by omega), if_neg (by omega), Int.toNat_natCast]
  have hu : unRes (⟨(Fo.turn t).1.toArray⟩ : ByteArray).data.toList (Fo.turn t).2 = (t, true) := by
    show unRes (Fo.turn t).1 (Fo.turn t).2 = (t, true)
    unfold unRes
    rw [Fo.un_of_turn (Fo.turn t).1 (Fo.turn t).2 t rfl]
  rw [hu]; rfl

theorem uRes_cases (s : ByteArray) (r : Int) : (∃ T, uRes s r = (T, 0) ∧ 0 ≤ r ∧ Fo.turn T = (s.data.toList, r.toNat)) ∨ uRes s r = ([], 8) ∨ (uRes s r = ([], 2) ∧ 120 < s.size) := by
  unfold uRes
  by_cases h1 : 120 < s.size
  · rw [if_pos h1]; exact .inr (.inr ⟨rfl, h1⟩)
  · rw [if_neg h1]
    by_cases h2 : r < 0 ∨ (s.size : Int) < r
    · rw [if_pos h2]; exact .inr (.inl rfl)
    · rw [if_neg h2]
      rcases unRes_cases s.data.toList r.toNat with h3 | ⟨T, h3⟩
      · rw [h3]; exact .inr (.inl rfl)
      · left
        rw [h3]
        refine ⟨T, rfl, by omega, ?_⟩
        unfold unRes at h3
        cases hu : Fo.un s.data.toList r.toNat s.data.toList.length with
        | none => rw [hu] at h3; simp at h3
        | some x =>
          obtain ⟨hok, hx⟩ := Fo.un_some _ _ _ _ hu
          rw [hu] at h3
          simp only [Prod.mk.injEq, and_true] at h3
          rw [hx] at h3
          have := Fo.turn_text s.data.toList r.toNat (by rw [size_len]; omega) hok
          rw [← h3]; exact this

set_option maxHeartbeats 1000000 in
theorem round_any (a l : ByteArray) (r : Int) (ha : a.size ≤ maxLen) (hl : l.size ≤ maxLen) (_hr : (Lit.int .i64 r).wf = true) (w : World) :
    Calls Try.prog 6 #[.string a, .string l, .int .i64 r] w fun e w' => e = .returned (.bool true) ∧ Below w.heap.size w w' := by
  unfold maxLen at ha hl
  go_enter Try.func6, Try.ntmps6
  go_wp2_with fail
  refine (short_any a _ ha).mono ?_
  rintro e w1 ⟨t, rfl, ht, hw1⟩; rw [hw1]; clear hw1
  have hU := fun w => Unturn_any ⟨(Fo.turn t.data.toList).1.toArray⟩ ((Fo.turn t.data.toList).2 : Nat) w
  rw [uRes_turn t.data.toList ht] at hU
  have HU : Hid (∀ w, Calls Try.prog 21 #[.string ⟨(Fo.turn t.data.toList).1.toArray⟩, .int .i64 ((Fo.turn t.data.toList).2 : Nat)] w fun e w' => e = .returned (.tuple #[.string t, .int .i64 0]) ∧ Below w.heap.size w w') := hU
  clear hU
  go_wp2_with fail
  refine (Turn_ok t _ ht).mono ?_
  rintro e w1 ⟨rfl, hb1⟩
  have hz1 := hb1.size
  unfold S
  go_wp2_with fail
  refine (HU.out _).mono ?_
  rintro e w2 ⟨rfl, hb2⟩
  have hz2 := hb2.size
  have hb02 : Below w.heap.size w w2 := hb1.trans (hb2.mono (by omega))
  have hz02 := hb02.size
  clear HU hb1 hb2 hz1
  go_wp2_with fail
  have hV := Unturn_any l r w2
  rcases uRes_cases l r with ⟨T, h1, h2, h3⟩ | h1 | ⟨h1, h2⟩
  · have hTl := uRes_len l r
    rw [h1] at hV hTl
    refine hV.mono ?_
    rintro e w3 ⟨rfl, hb3⟩
    have hz3 := hb3.size
    have hT := Turn_ok ⟨T.toArray⟩ w3 hTl
    rw [show (⟨T.toArray⟩ : ByteArray).data.toList = T from rfl, h3] at hT
    obtain ⟨n, rfl⟩ := Int.eq_ofNat_of_zero_le h2
    rw [Int.toNat_natCast, S_data] at hT
    have HT : Hid (Calls Try.prog 19 #[.string ⟨T.toArray⟩] w3 fun e w' => e = .returned (.tuple #[.string l, .int .i64 (n : Int), .int .i64 0]) ∧ Below w3.heap.size w3 w') := hT
    clear hT hV h1 h2 h3
    unfold S
    go_wp2_with fail
    refine HT.out.mono ?_
    rintro e w4 ⟨rfl, hb4⟩
    go_wp2_with fail
    go_ret
    exact ⟨rfl, (hb02.trans (hb3.mono (by omega))).trans (hb4.mono (by omega))⟩
  · rw [h1] at hV
    refine hV.mono ?_
    rintro e w3 ⟨rfl, hb3⟩
    clear hV h1
    unfold S
    go_wp2_with fail
    go_ret
    exact ⟨rfl, hb02.trans (hb3.mono (by omega))⟩
  · rw [h1] at hV
    refine hV.mono ?_
    rintro e w3 ⟨rfl, hb3⟩
    clear hV h1
    have hd : decide ((120 : Int) < (l.size : Int)) = true := by rw [decide_eq_true_eq]; omega
    unfold S
    go_wp2_with fail
    go_ret
    exact ⟨rfl, hb02.trans (hb3.mono (by omega))⟩

end Go.Proofs.Ythkndfkkgncjfaa
