/- BASE2. Walks: begins, Begun, the Rows of both sides, turned, Turns. -/
import Derived.Test.YthkndfkkgncjfaaWalkJ
import Derived.Test.YthkndfkkgncjfaaMathE
namespace Go.Proofs.Ythkndfkkgncjfaa
open Go.RowKit
set_option maxRecDepth 100000

/-- what Unturn answers -/
def uRes (s : ByteArray) (r : Int) : List UInt8 × Int :=
  if 120 < s.size then ([], 2) else if r < 0 ∨ (s.size : Int) < r then ([], 8) else if (unRes s.data.toList r.toNat).2 then ((unRes s.data.toList r.toNat).1, 0) else ([], 8)

theorem unRes_cases (l : List UInt8) (r : Nat) : unRes l r = ([], false) ∨ (∃ T, unRes l r = (T, true)) := by
  unfold unRes
  cases Fo.un l r l.length with
  | none => exact .inl rfl
  | some x => exact .inr ⟨x.2, rfl⟩

theorem Unturn_any (s : ByteArray) (r : Int) (w : World) :
    Calls Try.prog 21 #[.string s, .int .i64 r] w fun e w' => e = .returned (.tuple #[S (uRes s r).1, .int .i64 (uRes s r).2]) ∧ Below w.heap.size w w' := by
  unfold uRes
  by_cases h1 : 120 < s.size
  · rw [if_pos h1]
    exact (Unturn_long s r w h1).mono fun e w' ⟨he, hw⟩ => ⟨he, by rw [hw]; exact Below.refl _ _⟩
  · rw [if_neg h1]
    by_cases h2 : r < 0 ∨ (s.size : Int) < r
    · rw [if_pos h2]
      exact (Unturn_out s r w (by omega) h2).mono fun e w' ⟨he, hw⟩ => ⟨he, by rw [hw]; exact Below.refl _ _⟩
    · rw [if_neg h2]
      obtain ⟨n, rfl⟩ := Int.eq_ofNat_of_zero_le (show 0 ≤ r by omega)
      rw [Int.toNat_natCast]
      rcases unRes_cases s.data.toList n with h3 | ⟨T, h3⟩
      · rw [h3]
        exact Unturn_no s n w (by omega) (by omega) h3
      · rw [h3]
        exact Unturn_yes s n T w (by omega) (by omega) h3

theorem rRes_eq (s : ByteArray) (n : Nat) (T X : List UInt8) (q : Nat) (hn : n ≤ s.size) (hT : (Fo.fw s.data.toList n s.size).2 = T) (hX : Fo.turn T = (X, q)) :
    rRes s n T X q = .tuple #[S (if (unRes s.data.toList n).2 then ((unRes s.data.toList n).1, (0 : Int)) else ([], 8)).1, .int .i64 (if (unRes s.data.toList n).2 then ((unRes s.data.toList n).1, (0 : Int)) else ([], 8)).2] := by
  by_cases hok : ∀ j, j < s.data.toList.length → Fo.pos s.data.toList n j ≠ n
  · have h1 := unRes_all s.data.toList n hok
    have h2 := Fo.turn_text s.data.toList n hn hok
    have h3 := Fo.fw_of_turn s.data.toList n _ h2
    rw [size_len, hT] at h3
    rw [h1, if_pos rfl]
    rw [← h3, hX] at h2
    simp only [Prod.mk.injEq] at h2
    unfold rRes
    rw [if_pos h2, h3]
  · have hno : unRes s.data.toList n = ([], false) := by
      rcases unRes_cases s.data.toList n with h3 | ⟨Tb, h3⟩
      · exact h3
      · exfalso
        apply hok
        unfold unRes at h3
        cases hu : Fo.un s.data.toList n s.data.toList.length with
        | none => rw [hu] at h3; simp at h3
        | some x => exact (Fo.un_some _ _ _ _ hu).1
    rw [hno]
    unfold rRes
    rw [if_neg (fun h => ?_)]
    · rfl
    · obtain ⟨rfl, rfl⟩ := h
      have := Fo.un_of_turn _ _ T hX
      unfold unRes at hno
      rw [this] at hno
      simp at hno

theorem rUnturn_any (s : ByteArray) (r : Int) (w : World) :
    Calls Try.prog 42 #[.string s, .int .i64 r] w fun e w' => e = .returned (.tuple #[S (uRes s r).1, .int .i64 (uRes s r).2]) ∧ Below w.heap.size w w' := by
  unfold uRes
  by_cases h1 : 120 < s.size
  · rw [if_pos h1]
    exact (rUnturn_long s r w h1).mono fun e w' ⟨he, hw⟩ => ⟨he, by rw [hw]; exact Below.refl _ _⟩
  · rw [if_neg h1]
    by_cases h2 : r < 0 ∨ (s.size : Int) < r
    · rw [if_pos h2]
      exact (rUnturn_out s r w (by omega) h2).mono fun e w' ⟨he, hw⟩ => ⟨he, by rw [hw]; exact Below.refl _ _⟩
    · rw [if_neg h2]
      obtain ⟨n, rfl⟩ := Int.eq_ofNat_of_zero_le (show 0 ≤ r by omega)
      rw [Int.toNat_natCast]
      have hl := Fo.fw_len s.data.toList n s.size
      rw [← rRes_eq s n _ _ _ (by omega) rfl rfl]
      exact rUnturn_in s n _ w (by omega) (by omega) rfl (by omega) _ _ rfl

theorem take_data (s : ByteArray) (k m : Nat) : (s.extract k (k + m)).toList = (s.data.toList.drop k).take m := by
  rw [ByteArray.toList_eq, Lib.extract_data, Nat.add_sub_cancel_left]
theorem pre_at (s b : ByteArray) (k : Nat) : Fo.pre s.data.toList b.data.toList k = ((s.extract k (k + b.size)).toList == b.toList) := by
  rw [take_data, ByteArray.toList_eq, Bool.eq_iff_iff]
  unfold Fo.pre
  rw [decide_eq_true_eq, beq_iff_eq, size_len]
theorem begTo_succ (t p : List UInt8) (k : Nat) : Fo.cnt (Fo.pre t p) (k + 1) = Fo.cnt (Fo.pre t p) k + (if Fo.pre t p k then 1 else 0) := rfl

set_option maxHeartbeats 400000 in
theorem stands_any (s b : ByteArray) (k : Nat) (w : World) (hs : s.size ≤ 1000000) (hk : k ≤ s.size) (hb : b.size ≤ 9223372036854775807) :
    Calls Try.prog 78 #[.string s, .string b, .int .i64 (k : Int)] w fun e w' => e = .returned (.bool (Fo.pre s.data.toList b.data.toList k)) ∧ w' = w := by
  have hk0 : decide ((k : Int) < 0) = false := by rw [decide_eq_false_iff_not]; omega
  by_cases hlen : s.size < k + b.size
  · have HB : Hid (Fo.pre s.data.toList b.data.toList k = false) := by
      rcases Fo.pre_short s.data.toList b.data.toList k (by rw [size_len, size_len]; exact hlen) with h | h
      · exact h
      · have : b.size = 0 := by rw [← size_len, h]; rfl
        omega
    have hd : decide ((s.size : Int) - (b.size : Int) < (k : Int)) = true := by rw [decide_eq_true_eq]; omega
    go_enter Try.func78, Try.ntmps78
    go_wp2
    go_ret
    exact ⟨by rw [HB.out]; rfl, rfl⟩
  · have HB : Hid (Fo.pre s.data.toList b.data.toList k = ((s.extract k (k + b.size)).toList == b.toList)) := pre_at s b k
    have hd : decide ((s.size : Int) - (b.size : Int) < (k : Int)) = false := by rw [decide_eq_false_iff_not]; omega
    go_enter Try.func78, Try.ntmps78
    go_wp2
    go_ret
    exact ⟨by rw [HB.out]; rfl, rfl⟩
theorem stands_at (s b : ByteArray) (k : Nat) (q : Bool) (h : Fo.pre s.data.toList b.data.toList k = q) (w : World) (hs : s.size ≤ 1000000) (hk : k ≤ s.size) (hb : b.size ≤ 9223372036854775807) :
    Calls Try.prog 78 #[.string s, .string b, .int .i64 (k : Int)] w fun e w' => e = .returned (.bool q) ∧ w' = w := by
  rw [← h]; exact stands_any s b k w hs hk hb

set_option maxHeartbeats 400000 in
theorem begun_any (s b : ByteArray) (w : World) (hs : s.size ≤ 1000000) (hb : b.size ≤ 9223372036854775807) :
    Calls Try.prog 66 #[.string s, .string b] w fun e w' => e = .returned (.int .i64 (Fo.begun s.data.toList b.data.toList : Nat)) ∧ w' = w := by
  have HB : Hid (Fo.begun s.data.toList b.data.toList = Fo.cnt (Fo.pre s.data.toList b.data.toList) (s.size + 1)) := by
    show Fo.cnt _ (s.data.toList.length + 1) = _
    rw [size_len]
  go_enter Try.func66, Try.ntmps66
  go_wp2
  go_loop [5, 6] (fun n i => ∃ k : Nat, k ≤ s.size + 1 ∧ i = .int .i64 k ∧ n = .int .i64 (Fo.cnt (Fo.pre s.data.toList b.data.toList) k : Nat)) (fun _ i => s.size + 1 - (intOf i).toNat)
  case atStart => exact ⟨0, Nat.zero_le _, rfl, rfl⟩
  case round =>
    obtain ⟨k, hk, rfl, rfl⟩ := hrel
    have hc := Fo.cnt_le (Fo.pre s.data.toList b.data.toList) k
    by_cases hlt : k ≤ s.size
    · have HS : Hid (Fo.cnt (Fo.pre s.data.toList b.data.toList) (k + 1) = Fo.cnt (Fo.pre s.data.toList b.data.toList) k + (if Fo.pre s.data.toList b.data.toList k then 1 else 0)) := begTo_succ s.data.toList b.data.toList k
      obtain ⟨q, hq⟩ : ∃ q, Fo.pre s.data.toList b.data.toList k = q := ⟨_, rfl⟩
      have HQ : Hid (Fo.pre s.data.toList b.data.toList k = q) := hq
      clear hq
      have hdk : decide ((k : Int) ≤ (s.size : Int)) = true := by rw [decide_eq_true_eq]; omega
      cases q
      all_goals
        go_wp2_with fail
        refine (stands_at s b k _ HQ.out _ hs hlt hb).mono ?_
        rintro e w1 ⟨rfl, hw1⟩; rw [hw1]; clear hw1
        go_wp2_with fail
        go_round
        case rel => exact ⟨k + 1, by omega, by go_num, by rw [HS.out, HQ.out]; simp⟩
        case measure => simp [intOf]; omega
    · go_wp2
      go_ret
      have e : k = s.size + 1 := by omega
      exact ⟨ret_int (by rw [HB.out, e]), rfl⟩

set_option maxHeartbeats 400000 in
theorem rows_any (s b : ByteArray) (w : World) (hs : s.size ≤ 1000000) (hb : b.size ≤ 9223372036854775807) :
    Calls Try.prog 47 #[.string s, .string b] w fun e w' => e = .returned (.tuple #[.int .i64 (Fo.ahead s.data.toList b.data.toList : Nat), .int .i64 ((Fo.ahead s.data.toList b.data.toList + Fo.begun s.data.toList b.data.toList : Nat) : Int)]) ∧ w' = w := by
  have h1 := Fo.ahead_le s.data.toList b.data.toList
  have h2 := Fo.cnt_le (Fo.pre s.data.toList b.data.toList) (s.data.toList.length + 1)
  rw [size_len] at h1 h2
  have h3 : Fo.begun s.data.toList b.data.toList ≤ s.size + 1 := h2
  clear h2
  go_enter Try.func47, Try.ntmps47
  go_wp2_with (first | (go_at_call 64; refine (ahead_any _ _ _ hs).mono ?_; rintro e w1 ⟨rfl, hw1⟩; rw [hw1]; clear hw1) | (go_at_call 66; refine (begun_any _ _ _ hs hb).mono ?_; rintro e w1 ⟨rfl, hw1⟩; rw [hw1]; clear hw1))
  go_ret2
  exact ⟨by simp, rfl⟩

/-- what Rows answers -/
def rowRes (s : ByteArray) (r : Int) (b : ByteArray) : Int × Int × Int :=
  if (uRes s r).2 = 0 then ((Fo.ahead (uRes s r).1 b.data.toList : Nat), ((Fo.ahead (uRes s r).1 b.data.toList + Fo.begun (uRes s r).1 b.data.toList : Nat) : Int), 0) else (0, 0, (uRes s r).2)

theorem uRes_len (s : ByteArray) (r : Int) : (uRes s r).1.length ≤ 120 := by
  unfold uRes
  by_cases h1 : 120 < s.size
  · rw [if_pos h1]; simp
  · rw [if_neg h1]
    by_cases h2 : r < 0 ∨ (s.size : Int) < r
    · rw [if_pos h2]; simp
    · rw [if_neg h2]
      unfold unRes
      cases hu : Fo.un s.data.toList r.toNat s.data.toList.length with
      | none => simp
      | some x =>
        have := (Fo.un_some _ _ _ _ hu).2
        simp only [if_true]
        rw [this]
        show (Fo.bytesTo _ _ _).length ≤ 120
        rw [Fo.bytesTo_len, size_len]; omega

set_option maxHeartbeats 1000000 in
theorem Rows_any (s b : ByteArray) (r : Int) (w : World) (hb : b.size ≤ 9223372036854775807) :
    Calls Try.prog 22 #[.string s, .int .i64 r, .string b] w fun e w' => e = .returned (.tuple #[.int .i64 (rowRes s r b).1, .int .i64 (rowRes s r b).2.1, .int .i64 (rowRes s r b).2.2]) ∧ Below w.heap.size w w' := by
  have hun := Unturn_any s r w
  have hlen := uRes_len s r
  unfold rowRes
  generalize (uRes s r).1 = T at *
  generalize (uRes s r).2 = q at *
  by_cases hq : q = 0
  · subst hq
    rw [if_pos rfl]
    have HU : Hid (Calls Try.prog 21 #[.string s, .int .i64 r] w fun e w' => e = .returned (.tuple #[S T, .int .i64 0]) ∧ Below w.heap.size w w') := hun
    clear hun
    go_enter Try.func22, Try.ntmps22
    go_wp2_with fail
    refine HU.out.mono ?_
    rintro e w1 ⟨rfl, hb1⟩
    unfold S
    go_wp2_with fail
    refine (rows_any ⟨T.toArray⟩ b _ (by show T.length ≤ 1000000; omega) hb).mono ?_
    rintro e w2 ⟨rfl, hw2⟩; rw [hw2]; clear hw2
    go_wp2_with fail
    go_ret3
    exact ⟨rfl, hb1⟩
  · rw [if_neg hq]
    have HU : Hid (Calls Try.prog 21 #[.string s, .int .i64 r] w fun e w' => e = .returned (.tuple #[S T, .int .i64 q]) ∧ Below w.heap.size w w') := hun
    clear hun
    have hq1 : (q != 0) = true := by rw [bne_iff_ne]; exact hq
    clear hq
    go_enter Try.func22, Try.ntmps22
    go_wp2_with fail
    refine HU.out.mono ?_
    rintro e w1 ⟨rfl, hb1⟩
    unfold S
    go_wp2_with fail
    go_ret3
    exact ⟨rfl, hb1⟩

set_option maxHeartbeats 400000 in
theorem begins_any (a b : ByteArray) (w : World) (ha : a.size ≤ 9223372036854775807) (_hb : b.size ≤ 9223372036854775807) :
    Calls Try.prog 62 #[.string a, .string b] w fun e w' => e = .returned (.bool (Fo.pre a.data.toList b.data.toList 0)) ∧ w' = w := by
  have hp := pre_at a b 0
  rw [Nat.zero_add] at hp
  by_cases h : b.size ≤ a.size
  · have HP : Hid (Fo.pre a.data.toList b.data.toList 0 = ((a.extract 0 b.size).toList == b.toList)) := hp
    clear hp
    go_enter Try.func62, Try.ntmps62
    go_wp2
    go_ret
    exact ⟨ret_bool (by rw [HP.out]), rfl⟩
  · have HP : Hid (Fo.pre a.data.toList b.data.toList 0 = false) := by
      rcases Fo.pre_short a.data.toList b.data.toList 0 (by rw [size_len, size_len]; omega) with h1 | h1
      · exact h1
      · have : b.data.toList.length = 0 := by rw [h1]; rfl
        rw [size_len] at this; omega
    clear hp
    go_enter Try.func62, Try.ntmps62
    go_wp2
    go_ret
    exact ⟨ret_bool (by rw [HP.out]), rfl⟩

theorem begins_at (a b : ByteArray) (q : Bool) (h : Fo.pre a.data.toList b.data.toList 0 = q) (w : World) (ha : a.size ≤ 9223372036854775807) (hb : b.size ≤ 9223372036854775807) :
    Calls Try.prog 62 #[.string a, .string b] w fun e w' => e = .returned (.bool q) ∧ w' = w := by
  rw [← h]; exact begins_any a b w ha hb
theorem pre_drop (t p : List UInt8) (k : Nat) : Fo.pre (t.drop k) p 0 = Fo.pre t p k := by unfold Fo.pre; rw [List.drop_zero]
theorem aheadTo_next (t p : List UInt8) (k : Nat) : Fo.aheadTo t p (k + 1) = Fo.aheadTo t p k + (if Op.bytesLess (t.drop k) p then 1 else 0) := rfl

set_option maxHeartbeats 1000000 in
theorem rRows_yes (s t b : ByteArray) (r : Int) (w : World) (hb : b.size ≤ 9223372036854775807) (ht : t.size ≤ 120)
    (hun : Calls Try.prog 42 #[.string s, .int .i64 r] w fun e w' => e = .returned (.tuple #[.string t, .int .i64 0]) ∧ Below w.heap.size w w') :
    Calls Try.prog 43 #[.string s, .int .i64 r, .string b] w fun e w' => e = .returned (.tuple #[.int .i64 (Fo.ahead t.data.toList b.data.toList : Nat), .int .i64 ((Fo.ahead t.data.toList b.data.toList + Fo.begun t.data.toList b.data.toList : Nat) : Int), .int .i64 0]) ∧ Below w.heap.size w w' := by
  have HU : Hid (Calls Try.prog 42 #[.string s, .int .i64 r] w fun e w' => e = .returned (.tuple #[.string t, .int .i64 0]) ∧ Below w.heap.size w w') := hun
  clear hun
  go_enter Try.func43, Try.ntmps43
  go_wp2_with fail
  refine HU.out.mono ?_
  rintro e w1 ⟨rfl, hb1⟩
  clear HU
  go_wp2_with fail
  go_loopw [11, 12, 13] (fun lo n i wr => ∃ k : Nat, k ≤ t.size + 1 ∧ i = .int .i64 k ∧ lo = .int .i64 (Fo.aheadTo t.data.toList b.data.toList k : Nat) ∧ n = .int .i64 (Fo.cnt (Fo.pre t.data.toList b.data.toList) k : Nat) ∧ Below w.heap.size w wr) (fun _ _ i _ => t.size + 1 - (intOf i).toNat)
  case atStart => exact ⟨0, Nat.zero_le _, rfl, rfl, rfl, hb1⟩
  case round =>
    obtain ⟨k, hk, rfl, rfl, rfl, hbw⟩ := hrel
    clear hb1
    have hA : Fo.aheadTo t.data.toList b.data.toList k ≤ k := Fo.cnt_le _ _
    have hC := Fo.cnt_le (Fo.pre t.data.toList b.data.toList) k
    by_cases hlt : k ≤ t.size
    · obtain ⟨q1, hq1⟩ : ∃ q, Fo.pre t.data.toList b.data.toList k = q := ⟨_, rfl⟩
      obtain ⟨q2, hq2⟩ : ∃ q, Op.bytesLess (t.data.toList.drop k) b.data.toList = q := ⟨_, rfl⟩
      have hex : q1 = true → q2 = false := fun h => by
        rw [h] at hq1
        unfold Fo.pre at hq1
        rw [decide_eq_true_eq] at hq1
        rw [← hq2]; exact Fo.lt_pre _ _ hq1
      have H1 : Hid (Fo.pre (t.extract k t.size).data.toList b.data.toList 0 = q1) := by show Fo.pre (t.extract k t.size).data.toList b.data.toList 0 = q1; rw [Lib.extract_to_end, pre_drop]; exact hq1
      have H2 : Hid (Op.bytesLess (t.extract k t.size).data.toList b.data.toList = q2) := by show Op.bytesLess (t.extract k t.size).data.toList b.data.toList = q2; rw [Lib.extract_to_end]; exact hq2
      have H3 : Hid (Fo.aheadTo t.data.toList b.data.toList (k + 1) = Fo.aheadTo t.data.toList b.data.toList k + (if q2 then 1 else 0)) := by have h := aheadTo_next t.data.toList b.data.toList k; rw [hq2] at h; exact h
      have H4 : Hid (Fo.cnt (Fo.pre t.data.toList b.data.toList) (k + 1) = Fo.cnt (Fo.pre t.data.toList b.data.toList) k + (if q1 then 1 else 0)) := by have h := begTo_succ t.data.toList b.data.toList k; rw [hq1] at h; exact h
      clear hq1 hq2
      go_wp2_with fail
      refine (begins_at _ _ q1 H1.out _ (ext_le t k (by omega)) hb).mono ?_
      rintro e w2 ⟨rfl, hw2⟩; rw [hw2]; clear hw2
      go_wp2_with fail
      refine (less_at _ _ q2 H2.out _ (ext_le t k (by omega)) hb).mono ?_
      rintro e w2 ⟨rfl, m, hw2⟩; rw [hw2]; clear hw2
      cases q1 with
      | true =>
        obtain rfl := hex rfl
        clear hex
        go_wp2_with fail
        go_roundw
        case rel => exact ⟨k + 1, by omega, by go_num, by rw [H3.out]; rfl, by rw [H4.out]; rfl, below_drewN hbw _⟩
        case measure => simp [intOf]; omega
      | false =>
        clear hex
        cases q2
        all_goals
          go_wp2_with fail
          go_roundw
          case rel => exact ⟨k + 1, by omega, by go_num, by rw [H3.out]; rfl, by rw [H4.out]; rfl, below_drewN hbw _⟩
          case measure => simp [intOf]; omega
    · go_wp2_with fail
      go_ret3
      have e : k = t.size + 1 := by omega
      subst e
      exact ⟨rfl, hbw⟩

end Go.Proofs.Ythkndfkkgncjfaa
