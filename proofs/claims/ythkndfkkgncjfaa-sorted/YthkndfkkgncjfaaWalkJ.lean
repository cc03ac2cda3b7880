/- Walk: folioref.Unturn. -/
import Derived.Test.YthkndfkkgncjfaaWalkI
import Derived.Deep.AppendLies
namespace Go.Proofs.Ythkndfkkgncjfaa
open Go.RowKit
set_option maxRecDepth 100000

/-- what the document's own way comes to -/
def rRes (s : ByteArray) (r : Nat) (T X : List UInt8) (q : Nat) : Value := if X = s.data.toList ∧ q = r then .tuple #[S T, .int .i64 0] else .tuple #[S [], .int .i64 8]
theorem rRes_yes {s : ByteArray} {r : Nat} {T X : List UInt8} {q : Nat} (h1 : X = s.toList) (h2 : ((q : Int) != (r : Int)) = false) : rRes s r T X q = .tuple #[S T, .int .i64 0] := by
  rw [ByteArray.toList_eq] at h1
  rw [bne_eq_false_iff_eq] at h2
  unfold rRes; rw [if_pos ⟨h1, by omega⟩]
theorem rRes_row {s : ByteArray} {r : Nat} {T X : List UInt8} {q : Nat} (h2 : ((q : Int) != (r : Int)) = true) : rRes s r T X q = .tuple #[S [], .int .i64 8] := by
  rw [bne_iff_ne] at h2
  unfold rRes; rw [if_neg (fun h => h2 (by omega))]
theorem rRes_bytes {s : ByteArray} {r : Nat} {T X : List UInt8} {q : Nat} (h1 : ¬ X = s.toList) : rRes s r T X q = .tuple #[S [], .int .i64 8] := by
  rw [ByteArray.toList_eq] at h1
  unfold rRes; rw [if_neg (fun h => h1 h.1)]

theorem rturn_T (T X : List UInt8) (q : Nat) (w : World) (h : T.length ≤ 120) (hX : Fo.turn T = (X, q)) :
    Calls Try.prog 60 #[.string ⟨T.toArray⟩] w fun e w' => e = .returned (.tuple #[.string ⟨X.toArray⟩, .int .i64 (q : Int)]) ∧ Below w.heap.size w w' := by
  have := ref_turn_any ⟨T.toArray⟩ w (by show T.length ≤ 1000000; omega)
  rw [show (⟨T.toArray⟩ : ByteArray).data.toList = T from rfl, hX] at this
  exact this

set_option maxRecDepth 100000 in
set_option maxHeartbeats 400000 in
theorem rUnturn_in (s : ByteArray) (r : Nat) (T : List UInt8) (w : World) (hs : s.size ≤ 120) (hr : r ≤ s.size) (hT : (Fo.fw s.data.toList r s.size).2 = T) (hTl : T.length ≤ 120)
    (X : List UInt8) (q : Nat) (hX : Fo.turn T = (X, q)) :
    Calls Try.prog 42 #[.string s, .int .i64 (r : Int)] w fun e w' => e = .returned (rRes s r T X q) ∧ Below w.heap.size w w' := by
  have HX : Hid (Fo.turn T = (X, q)) := hX
  clear hX
  obtain ⟨i0, hi, hz0, hz1, hz2⟩ := info_parts Try.info5
  have hr0 : decide ((r : Int) < 0) = false := by simp
  have h120 : decide ((120 : Int) < (s.size : Int)) = false := by simp; omega
  have HT : Hid ((Fo.fw s.data.toList r s.size).2 = T) := hT
  clear hT
  go_enter Try.func42, Try.ntmps42
  go_wp2_with fail
  refine (firsts_any s _ (by omega)).mono ?_
  rintro e w1 ⟨f, F, rfl, hF, hIF, hf1, hb1⟩
  rcases Nat.eq_zero_or_pos s.size with h0 | h0
  · have hT0 : T = [] := by rw [← HT.out, h0]; rfl
    have hn0 : OwnU w1 w.heap.size (.slice none 0 0) [] := World.ownsRow_nil _ _ _ _
    have hst := hn0.string
    clear hn0
    subst hT0
    clear HT
    have hc0 : decide ((0 : Int) < (s.size : Int)) = false := by rw [decide_eq_false_iff_not]; omega
    go_wp2_with fail
    refine wp_loop_rounds 1 ?_
    rw [rounds_succ]
    go_wp2_with fail
    refine (rturn_T [] X q _ hTl HX.out).mono ?_
    rintro e w3 ⟨rfl, hb3⟩
    have hz3 := hb1.size
    go_wp2_with fail
    · go_ret2
      exact ⟨by rw [rRes_row (by assumption)]; rfl, hb1.trans (hb3.mono (by omega))⟩
    · go_ret2
      exact ⟨by rw [rRes_yes (by assumption) (by assumption)]; rfl, hb1.trans (hb3.mono (by omega))⟩
    · go_ret2
      exact ⟨by rw [rRes_bytes (by assumption)]; rfl, hb1.trans (hb3.mono (by omega))⟩
  · obtain ⟨g, cap, hfv, _, _⟩ := World.ownsRow.form hf1 (by omega)
    rw [hF] at hfv
    rw [hfv]
    rw [hfv] at hf1
    clear hfv f
    have hzb := hb1.size
    go_wp2_with fail
    go_loopw [7, 8, 9] (fun v a i wr => ∃ j : Nat, j ≤ s.size ∧ i = .int .i64 j ∧ a = .int .i64 ((Fo.fw s.data.toList r j).1 : Nat) ∧ OwnU wr w.heap.size v (Fo.fw s.data.toList r j).2 ∧ OwnV wr w.heap.size (.slice (some ⟨g, 0, none⟩) s.size cap) F ∧ Below w.heap.size w wr) (fun _ _ i _ => s.size - (intOf i).toNat)
    case atStart => exact ⟨0, Nat.zero_le _, rfl, rfl, World.ownsRow_nil _ _ _ _, hf1, hb1⟩
    case round =>
      obtain ⟨j, hj, rfl, rfl, hu, hf, hb⟩ := hrel
      clear hf1 hb1
      have hle := Fo.fw_le s.data.toList r hr j
      have hln := Fo.fw_len s.data.toList r j
      rw [size_len] at hle
      by_cases hjn : j < s.size
      · obtain ⟨a, ha⟩ : ∃ a, (Fo.fw s.data.toList r j).1 = a := ⟨_, rfl⟩
        rw [ha] at hle
        rw [ha]
        have HA : Hid ((Fo.fw s.data.toList r j).1 = a) := ha
        clear ha
        cases a with
        | zero =>
          have hE : (Fo.fw s.data.toList r j).2 = T := by rw [← fw_zero _ r j HA.out hj]; exact HT.out
          rw [hE] at hu
          have hst := hu.string
          clear hE HA HT
          go_wp2_with fail
          refine (rturn_T T X q _ hTl HX.out).mono ?_
          rintro e w3 ⟨rfl, hb3⟩
          have hz3 := hb.size
          go_wp2_with fail
          · go_ret2
            exact ⟨by rw [rRes_row (by assumption)]; rfl, hb.trans (hb3.mono (by omega))⟩
          · go_ret2
            exact ⟨by rw [rRes_yes (by assumption) (by assumption)]; rfl, hb.trans (hb3.mono (by omega))⟩
          · go_ret2
            exact ⟨by rw [rRes_bytes (by assumption)]; rfl, hb.trans (hb3.mono (by omega))⟩
        | succ a =>
          have hga := hf.cell hF a (by omega)
          obtain ⟨k, hk⟩ : ∃ k, F.getD a 0 = k := ⟨_, rfl⟩
          have hkl : k < s.size := by rw [← hk, ← hIF.get a]; exact Fo.firsts_lt s.data.toList a (by rw [size_len]; omega)
          have HG : Hid (Fo.fw s.data.toList r (j + 1) = (Fo.seat r k, (Fo.fw s.data.toList r j).2 ++ [s[k]])) := by
            have h := fw_go s.data.toList F hIF r j a k HA.out hk
            rw [getD_byte s k hkl] at h; exact h
          rw [hk] at hga
          clear hk HA
          have e1 : ((a + 1 : Nat) : Int) = (a : Int) + 1 := by omega
          rw [e1]
          clear e1
          have hp1 : (0 : Int) < (a : Int) + 1 := by omega
          by_cases hkr : r ≤ k
          · go_wp2_with (at_builtin; refine wpList_append_own _ rfl _ _ 115 rfl w.heap.size 5 i0 (.int .u8 0) 1 1 Try.underlying115 hi hz0 hz1 hz2 rfl (by decide) _ _ _ rfl (World.ownsRow.alloc hu _) ⟨wr.heap.size, 0, none⟩ 1 1 [.int .u8 (s[k].toNat : Int)] rfl rfl (cell_one_new _ _ _) (by intro u hu2; simp at hu2; subst hu2; rfl) (by unfold maxLen; omega) (by omega) (by have := hb.size; simp; omega) ?_; intro v' w3 hown3 hgrow3 _)
            have R := fw_step hf hu hb hb.size hown3 hgrow3
            clear hown3 hgrow3 hu hb hf
            go_wp2
            go_roundw
            case rel => exact ⟨j + 1, by omega, by go_num, by rw [HG.out]; unfold Fo.seat; rw [if_neg (by omega)]; go_num, by rw [HG.out]; exact R.2.1, R.1, R.2.2⟩
            case measure => simp [intOf]; omega
          · go_wp2_with (at_builtin; refine wpList_append_own _ rfl _ _ 115 rfl w.heap.size 5 i0 (.int .u8 0) 1 1 Try.underlying115 hi hz0 hz1 hz2 rfl (by decide) _ _ _ rfl (World.ownsRow.alloc hu _) ⟨wr.heap.size, 0, none⟩ 1 1 [.int .u8 (s[k].toNat : Int)] rfl rfl (cell_one_new _ _ _) (by intro u hu2; simp at hu2; subst hu2; rfl) (by unfold maxLen; omega) (by omega) (by have := hb.size; simp; omega) ?_; intro v' w3 hown3 hgrow3 _)
            have R := fw_step hf hu hb hb.size hown3 hgrow3
            clear hown3 hgrow3 hu hb hf
            go_wp2
            go_roundw
            case rel => exact ⟨j + 1, by omega, by go_num, by rw [HG.out]; unfold Fo.seat; rw [if_pos (by omega)], by rw [HG.out]; exact R.2.1, R.1, R.2.2⟩
            case measure => simp [intOf]; omega
      · have hje : j = s.size := by omega
        subst hje
        rw [HT.out] at hu
        have hst := hu.string
        go_wp2_with fail
        refine (rturn_T T X q _ hTl HX.out).mono ?_
        rintro e w3 ⟨rfl, hb3⟩
        have hz3 := hb.size
        go_wp2_with fail
        · go_ret2
          exact ⟨by rw [rRes_row (by assumption)]; rfl, hb.trans (hb3.mono (by omega))⟩
        · go_ret2
          exact ⟨by rw [rRes_yes (by assumption) (by assumption)]; rfl, hb.trans (hb3.mono (by omega))⟩
        · go_ret2
          exact ⟨by rw [rRes_bytes (by assumption)]; rfl, hb.trans (hb3.mono (by omega))⟩

end Go.Proofs.Ythkndfkkgncjfaa
