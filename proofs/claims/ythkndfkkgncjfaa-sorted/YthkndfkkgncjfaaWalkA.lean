/- Walks: suffix.Ahead, folioref.less, foliokeep.ahead. -/
import Derived.Test.YthkndfkkgncjfaaProg
import Derived.Test.YthkndfkkgncjfaaMathA
import Derived.WalkKit
import Derived.WalkSpells
import Derived.WalkLawsBesides
import Derived.Deep.QuietTactic
import Derived.BigQuiet
import Derived.Lib.IndexBytes
namespace Go.Proofs.Ythkndfkkgncjfaa
open Go.RowKit
set_option maxRecDepth 100000

theorem ret_int {k : IntKind} {a b : Int} (h : a = b) : Ending.returned (.int k a) = .returned (.int k b) := by rw [h]
theorem ret_bool {a b : Bool} (h : a = b) : Ending.returned (.bool a) = .returned (.bool b) := by rw [h]
theorem ext_tl (s : ByteArray) (k : Nat) : (s.extract k s.size).toList = s.data.toList.drop k := by
  rw [ByteArray.toList_eq, Lib.extract_to_end]
theorem size_len (s : ByteArray) : s.data.toList.length = s.size := rfl

theorem aheadTo_succ (s b : ByteArray) (k : Nat) : Fo.aheadTo s.data.toList b.data.toList (k + 1) = Fo.aheadTo s.data.toList b.data.toList k + (if Op.bytesLess (s.extract k s.size).toList b.toList then 1 else 0) := by
  rw [ext_tl, ByteArray.toList_eq]; rfl

set_option maxHeartbeats 400000 in
theorem ahead_any (s b : ByteArray) (w : World) (hs : s.size ≤ 1000000) :
    Calls Try.prog 64 #[.string s, .string b] w fun e w' => e = .returned (.int .i64 (Fo.ahead s.data.toList b.data.toList)) ∧ w' = w := by
  go_enter Try.func64, Try.ntmps64
  go_wp2
  go_loop [5, 6] (fun n i => ∃ k : Nat, k ≤ s.size + 1 ∧ i = .int .i64 k ∧ n = .int .i64 (Fo.aheadTo s.data.toList b.data.toList k)) (fun _ i => s.size + 1 - (intOf i).toNat)
  case atStart => exact ⟨0, Nat.zero_le _, rfl, rfl⟩
  case round =>
    obtain ⟨k, hk, rfl, rfl⟩ := hrel
    have hd : Fo.aheadTo s.data.toList b.data.toList k ≤ k := Fo.cnt_le _ _
    by_cases hlt : k ≤ s.size
    · have HS : Hid (Fo.aheadTo s.data.toList b.data.toList (k + 1) = Fo.aheadTo s.data.toList b.data.toList k + (if Op.bytesLess (s.extract k s.size).toList b.toList then 1 else 0)) := aheadTo_succ s b k
      go_wp2
      all_goals
        go_round
        case rel =>
          refine ⟨k + 1, by omega, by go_num, ?_⟩
          first
            | (have hh : Op.bytesLess (s.extract k s.size).toList b.toList = true := by assumption
               rw [HS.out, hh]; simp)
            | (have hh : Op.bytesLess (s.extract k s.size).toList b.toList = false := by assumption
               rw [HS.out, hh]; simp)
        case measure => simp [intOf]; omega
    · go_wp2
      go_ret
      have e : k = s.size + 1 := by omega
      exact ⟨ret_int (by rw [e]; rfl), rfl⟩

theorem less_step (a b : List UInt8) (k : Nat) (ha : k < a.length) (hb : k < b.length) :
    Op.bytesLess (a.drop k) (b.drop k) = (decide (a[k] < b[k]) || (a[k] == b[k] && Op.bytesLess (a.drop (k + 1)) (b.drop (k + 1)))) := by
  rw [List.drop_eq_getElem_cons ha, List.drop_eq_getElem_cons hb]; rfl

theorem less_end (a b : List UInt8) (k : Nat) (ha : k ≤ a.length) (hb : k ≤ b.length) (h : ¬ (k < a.length ∧ k < b.length)) :
    Op.bytesLess (a.drop k) (b.drop k) = decide (a.length < b.length) := by
  by_cases h1 : k = a.length
  · subst h1
    rw [List.drop_length]
    by_cases h2 : a.length = b.length
    · rw [h2, List.drop_length]; simp [Op.bytesLess]
    · have : a.length < b.length := by omega
      rw [List.drop_eq_getElem_cons this]; simp [Op.bytesLess, this]
  · have : k = b.length := by omega
    subst this
    rw [List.drop_length]
    have : ¬ a.length < b.length := by omega
    simp [Op.bytesLess, this]

theorem byte_at (a : ByteArray) (k : Nat) (h : k < a.size) : a.data.toList[k]'h = a[k] := rfl

theorem less_same (a b : ByteArray) (k : Nat) (ha : k < a.size) (hb : k < b.size) (h : (((a[k].toNat : Nat) : Int) != ((b[k].toNat : Nat) : Int)) = false) :
    Op.bytesLess (a.data.toList.drop k) (b.data.toList.drop k) = Op.bytesLess (a.data.toList.drop (k + 1)) (b.data.toList.drop (k + 1)) := by
  rw [less_step _ _ k ha hb, byte_at a k ha, byte_at b k hb]
  have e : a[k] = b[k] := by
    rw [bne_eq_false_iff_eq] at h
    exact UInt8.toNat_inj.1 (by omega)
  rw [e]; simp

theorem less_diff (a b : ByteArray) (k : Nat) (ha : k < a.size) (hb : k < b.size) (h : (((a[k].toNat : Nat) : Int) != ((b[k].toNat : Nat) : Int)) = true) :
    Op.bytesLess (a.data.toList.drop k) (b.data.toList.drop k) = decide (a[k].toNat < b[k].toNat) := by
  rw [less_step _ _ k ha hb, byte_at a k ha, byte_at b k hb]
  have e : (a[k] == b[k]) = false := by
    rw [beq_eq_false_iff_ne]; intro e; rw [e] at h; simp at h
  rw [e]; simp [UInt8.lt_iff_toNat_lt]

set_option maxHeartbeats 400000 in
theorem less_any (a b : ByteArray) (w : World) (hsa : a.size ≤ 9223372036854775807) (_hsb : b.size ≤ 9223372036854775807) :
    Calls Try.prog 63 #[.string a, .string b] w fun e w' => e = .returned (.bool (Op.bytesLess a.data.toList b.data.toList)) ∧ ∃ m, w' = w.drewN m := by
  go_enter Try.func63, Try.ntmps63
  go_wp2
  go_loopw [5] (fun i wr => ∃ k : Nat, k ≤ a.size ∧ k ≤ b.size ∧ i = .int .i64 k ∧ Op.bytesLess a.data.toList b.data.toList = Op.bytesLess (a.data.toList.drop k) (b.data.toList.drop k) ∧ ∃ m, wr = w.drewN m) (fun i _ => a.size - (intOf i).toNat)
  case atStart => exact ⟨0, Nat.zero_le _, Nat.zero_le _, rfl, rfl, 0, rfl⟩
  case round =>
    obtain ⟨k, hka, hkb, rfl, he, m, rfl⟩ := hrel
    have HE : Hid (Op.bytesLess a.data.toList b.data.toList = Op.bytesLess (a.data.toList.drop k) (b.data.toList.drop k)) := he
    clear he
    by_cases hla : k < a.size
    · by_cases hlb : k < b.size
      · go_wp2
        go_quiet (fail)
        go_wp2
        · go_quiet (fail)
          go_wp2
          go_ret
          exact ⟨ret_bool (by rw [HE.out, less_diff a b k hla hlb (by assumption)]), _, by rw [World.drewN_drewN, World.drewN_drewN]⟩
        · go_roundw
          case rel => exact ⟨k + 1, by omega, by omega, by go_num, by rw [HE.out, less_same a b k hla hlb (by assumption)], _, rfl⟩
          case measure => simp [intOf]; omega
      · go_wp2
        go_ret
        exact ⟨ret_bool (by rw [HE.out, less_end _ _ k hka hkb (fun h => hlb h.2)]; rfl), m, rfl⟩
    · go_wp2
      go_ret
      exact ⟨ret_bool (by rw [HE.out, less_end _ _ k hka hkb (fun h => hla h.1)]; rfl), m, rfl⟩

end Go.Proofs.Ythkndfkkgncjfaa
