/- Walks: foliokeep's rises, stands, ahead. -/
import Derived.Test.YthkndfkkgncjfaaWalkM
namespace Go.Proofs.Ythkndfkkgncjfaa
open Go.RowKit
set_option maxRecDepth 100000

set_option maxHeartbeats 400000 in
theorem kahead_any (a b : ByteArray) (w : World) (hsa : a.size ≤ 9223372036854775807) (_hsb : b.size ≤ 9223372036854775807) :
    Calls Try.prog 24 #[.string a, .string b] w fun e w' => e = .returned (.bool (Op.bytesLess a.data.toList b.data.toList)) ∧ ∃ m, w' = w.drewN m := by
  go_enter Try.func24, Try.ntmps24
  go_wp2
  go_loopw [5] (fun i wr => ∃ k : Nat, k ≤ a.size ∧ k ≤ b.size ∧ i = .int .i64 k ∧ Op.bytesLess a.data.toList b.data.toList = Op.bytesLess (a.data.toList.drop k) (b.data.toList.drop k) ∧ ∃ m, wr = w.drewN m) (fun i _ => a.size - (intOf i).toNat)
  case atStart => exact ⟨0, Nat.zero_le _, Nat.zero_le _, rfl, rfl, 0, rfl⟩
  case round =>
    obtain ⟨k, hka, hkb, rfl, he, m, rfl⟩ := hrel
    have HE : Hid (Op.bytesLess a.data.toList b.data.toList = Op.bytesLess (a.data.toList.drop k) (b.data.toList.drop k)) := he
    clear he
    by_cases hla : k < a.size
    · by_cases hlb : k < b.size
      · go_wp2
        go_quiet (fail)
        go_wp2
        · go_quiet (fail)
          go_wp2
          go_ret
          exact ⟨ret_bool (by rw [HE.out, less_diff a b k hla hlb (by assumption)]), _, by rw [World.drewN_drewN, World.drewN_drewN]⟩
        · go_roundw
          case rel => exact ⟨k + 1, by omega, by omega, by go_num, by rw [HE.out, less_same a b k hla hlb (by assumption)], _, rfl⟩
          case measure => simp [intOf]; omega
      · go_wp2
        go_ret
        exact ⟨ret_bool (by rw [HE.out, less_end _ _ k hka hkb (fun h => hlb h.2)]; rfl), m, rfl⟩
    · go_wp2
      go_ret
      exact ⟨ret_bool (by rw [HE.out, less_end _ _ k hka hkb (fun h => hla h.1)]; rfl), m, rfl⟩


theorem kahead_at (a b : ByteArray) (q : Bool) (h : Op.bytesLess a.data.toList b.data.toList = q) (w : World) (hsa : a.size ≤ 9223372036854775807) (hsb : b.size ≤ 9223372036854775807) :
    Calls Try.prog 24 #[.string a, .string b] w fun e w' => e = .returned (.bool q) ∧ ∃ m, w' = w.drewN m := by
  rw [← h]; exact kahead_any a b w hsa hsb

theorem lt_step (t : List UInt8) (i j : Nat) (hi : i < t.length) (hj : j < t.length) :
    Op.bytesLess (t.drop i) (t.drop j) = (decide (t[i] < t[j]) || (t[i] == t[j] && Op.bytesLess (t.drop (i + 1)) (t.drop (j + 1)))) := by
  rw [List.drop_eq_getElem_cons hi, List.drop_eq_getElem_cons hj]; rfl
theorem lt_same (s : ByteArray) (i j : Nat) (hi : i < s.size) (hj : j < s.size) (h : (((s[i].toNat : Nat) : Int) != ((s[j].toNat : Nat) : Int)) = false) :
    Op.bytesLess (s.data.toList.drop i) (s.data.toList.drop j) = Op.bytesLess (s.data.toList.drop (i + 1)) (s.data.toList.drop (j + 1)) := by
  rw [lt_step _ i j hi hj, byte_at s i hi, byte_at s j hj]
  have e : s[i] = s[j] := by
    rw [bne_eq_false_iff_eq] at h
    exact UInt8.toNat_inj.1 (by omega)
  rw [e]; simp
theorem lt_diff (s : ByteArray) (i j : Nat) (hi : i < s.size) (hj : j < s.size) (h : (((s[i].toNat : Nat) : Int) != ((s[j].toNat : Nat) : Int)) = true) :
    Op.bytesLess (s.data.toList.drop i) (s.data.toList.drop j) = decide (s[i].toNat < s[j].toNat) := by
  rw [lt_step _ i j hi hj, byte_at s i hi, byte_at s j hj]
  have e : (s[i] == s[j]) = false := by
    rw [beq_eq_false_iff_ne]; intro e; rw [e] at h; simp at h
  rw [e]; simp [UInt8.lt_iff_toNat_lt]
theorem lt_first (s : ByteArray) (j : Nat) (hj : j < s.size) : Op.bytesLess (s.data.toList.drop s.size) (s.data.toList.drop j) = true := by
  rw [← size_len, List.drop_length, List.drop_eq_getElem_cons (show j < s.data.toList.length from hj)]; rfl
theorem lt_last (s : ByteArray) (i : Nat) : Op.bytesLess (s.data.toList.drop i) (s.data.toList.drop s.size) = false := by
  rw [← size_len, List.drop_length]; cases s.data.toList.drop i <;> rfl

set_option maxHeartbeats 1000000 in
theorem rises_any (s : ByteArray) (a b : Nat) (w : World) (hs : s.size ≤ 1000000) (ha : a ≤ s.size) (hb : b ≤ s.size) (hne : a ≠ b) :
    Calls Try.prog 20 #[.string s, .int .i64 (a : Int), .int .i64 (b : Int)] w fun e w' => e = .returned (.bool (Op.bytesLess (s.data.toList.drop a) (s.data.toList.drop b))) ∧ ∃ m, w' = w.drewN m := by
  go_enter Try.func20, Try.ntmps20
  go_wp2
  go_loopw [1, 2] (fun x y wr => ∃ i j : Nat, i ≤ s.size ∧ j ≤ s.size ∧ i ≠ j ∧ x = .int .i64 i ∧ y = .int .i64 j ∧ Op.bytesLess (s.data.toList.drop a) (s.data.toList.drop b) = Op.bytesLess (s.data.toList.drop i) (s.data.toList.drop j) ∧ ∃ m, wr = w.drewN m) (fun x _ _ => s.size - (intOf x).toNat)
  case atStart => exact ⟨a, b, ha, hb, hne, rfl, rfl, rfl, 0, rfl⟩
  case round =>
    obtain ⟨i, j, hi, hj, hij, rfl, rfl, he, hw⟩ := hrel
    have HE : Hid (Op.bytesLess (s.data.toList.drop a) (s.data.toList.drop b) = Op.bytesLess (s.data.toList.drop i) (s.data.toList.drop j)) := he
    have HW : Hid (∃ m, wr = w.drewN m) := hw
    clear he hw hne ha hb
    by_cases hil : i < s.size
    · by_cases hjl : j < s.size
      · go_wp2
        go_quiet (fail)
        go_wp2
        · go_quiet (fail)
          go_wp2
          go_ret
          exact ⟨ret_bool (by rw [HE.out, lt_diff s i j hil hjl (by assumption)]), by obtain ⟨m, hm⟩ := HW.out; exact ⟨_, by rw [hm, World.drewN_drewN, World.drewN_drewN]⟩⟩
        · go_roundw
          case rel => exact ⟨i + 1, j + 1, by omega, by omega, by omega, by go_num, by go_num, by rw [HE.out, lt_same s i j hil hjl (by assumption)], by obtain ⟨m, hm⟩ := HW.out; exact ⟨_, by rw [hm, World.drewN_drewN]⟩⟩
          case measure => simp [intOf]; omega
      · have hje : j = s.size := by omega
        subst hje
        have hb0 : ((i : Int) == (s.size : Int)) = false := by rw [beq_eq_false_iff_ne]; omega
        go_wp2
        go_ret
        exact ⟨ret_bool (by rw [HE.out, lt_last]), HW.out⟩
    · have hie : i = s.size := by omega
      subst hie
      go_wp2
      go_ret
      exact ⟨ret_bool (by rw [HE.out, lt_first s j (by omega)]), HW.out⟩

theorem rises_at (s : ByteArray) (a b : Nat) (q : Bool) (w : World) (h : Op.bytesLess (s.data.toList.drop a) (s.data.toList.drop b) = q) (hs : s.size ≤ 1000000) (ha : a ≤ s.size) (hb : b ≤ s.size) (hne : a ≠ b) :
    Calls Try.prog 20 #[.string s, .int .i64 (a : Int), .int .i64 (b : Int)] w fun e w' => e = .returned (.bool q) ∧ ∃ m, w' = w.drewN m := by
  rw [← h]; exact rises_any s a b w hs ha hb hne

set_option maxHeartbeats 400000 in
theorem kstands_any (s b : ByteArray) (k : Nat) (w : World) (hs : s.size ≤ 1000000) (hk : k ≤ s.size) (hb : b.size ≤ 140737488351232) :
    Calls Try.prog 23 #[.string s, .int .i64 (k : Int), .string b] w fun e w' => e = .returned (.bool (Fo.pre s.data.toList b.data.toList k)) ∧ w' = w := by
  have hp := pre_at s b k
  by_cases h : k + b.size ≤ s.size
  · have HP : Hid (Fo.pre s.data.toList b.data.toList k = ((s.extract k (k + b.size)).toList == b.toList)) := hp
    clear hp
    go_enter Try.func23, Try.ntmps23
    go_wp2
    go_ret
    exact ⟨ret_bool (by rw [HP.out]), rfl⟩
  · have HP : Hid (Fo.pre s.data.toList b.data.toList k = false) := by
      rcases Fo.pre_short s.data.toList b.data.toList k (by rw [size_len, size_len]; omega) with h1 | h1
      · exact h1
      · have : b.data.toList.length = 0 := by rw [h1]; rfl
        rw [size_len] at this; omega
    clear hp
    go_enter Try.func23, Try.ntmps23
    go_wp2
    go_ret
    exact ⟨ret_bool (by rw [HP.out]), rfl⟩

theorem kstands_at (s b : ByteArray) (k : Nat) (q : Bool) (w : World) (h : Fo.pre s.data.toList b.data.toList k = q) (hs : s.size ≤ 1000000) (hk : k ≤ s.size) (hb : b.size ≤ 140737488351232) :
    Calls Try.prog 23 #[.string s, .int .i64 (k : Int), .string b] w fun e w' => e = .returned (.bool q) ∧ w' = w := by
  rw [← h]; exact kstands_any s b k w hs hk hb

end Go.Proofs.Ythkndfkkgncjfaa
