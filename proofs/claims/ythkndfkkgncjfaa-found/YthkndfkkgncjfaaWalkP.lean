/- Walk: foliokeep's Found. -/
import Derived.Test.YthkndfkkgncjfaaWalkO
namespace Go.Proofs.Ythkndfkkgncjfaa
open Go.RowKit
set_option maxRecDepth 100000

theorem Rows_turn (t la b : ByteArray) (q : Nat) (w : World) (ht : t.size ≤ 120) (hla : la.data.toList = (Fo.turn t.data.toList).1) (hq : Fo.rank t.data.toList 0 = q) (hb : b.size ≤ 9223372036854775807) :
    Calls Try.prog 22 #[.string la, .int .i64 (q : Int), .string b] w fun e w' => e = .returned (.tuple #[.int .i64 (Fo.ahead t.data.toList b.data.toList : Nat), .int .i64 ((Fo.ahead t.data.toList b.data.toList + Fo.begun t.data.toList b.data.toList : Nat) : Int), .int .i64 0]) ∧ Below w.heap.size w w' := by
  have h := Rows_any la b q w hb
  have hl : la = ⟨(Fo.turn t.data.toList).1.toArray⟩ := by rw [← hla]
  have hu := uRes_turn t.data.toList ht
  rw [Fo.turn_row, hq, ← hl] at hu
  unfold rowRes at h
  rw [hu, if_pos rfl] at h
  exact h

/-- what a row is to a pattern -/
theorem found_row (t p : List UInt8) (k : Nat) (hk : k ≤ t.length) :
    (k < Fo.ahead t p → Fo.pre t p (Fo.off t k) = false ∧ Op.bytesLess (t.drop (Fo.off t k)) p = true) ∧
    (Fo.ahead t p ≤ k → k < Fo.ahead t p + Fo.begun t p → Fo.pre t p (Fo.off t k) = true) ∧
    (Fo.ahead t p + Fo.begun t p ≤ k → Fo.pre t p (Fo.off t k) = false ∧ Op.bytesLess p (t.drop (Fo.off t k)) = true) := by
  have h1 := Fo.row_ahead t p k hk
  have h2 := Fo.row_upto t p k hk
  refine ⟨fun h => ?_, fun ha hb => ?_, fun h => ?_⟩
  · have hlt := h1.2 h
    refine ⟨?_, hlt⟩
    unfold Fo.pre
    rw [decide_eq_false_iff_not]
    intro he
    rw [Fo.lt_pre _ _ he] at hlt; cases hlt
  · have h3 := h2.2 hb
    rw [Bool.or_eq_true] at h3
    rcases h3 with h3 | h3
    · have := h1.1 h3; omega
    · exact h3
  · have hn : ¬ (Op.bytesLess (t.drop (Fo.off t k)) p || Fo.pre t p (Fo.off t k)) = true := fun h3 => by have := h2.1 h3; omega
    rw [Bool.or_eq_true] at hn
    have hp : Fo.pre t p (Fo.off t k) = false := by
      cases hc : Fo.pre t p (Fo.off t k) with
      | false => rfl
      | true => exact absurd (.inr hc) hn
    refine ⟨hp, ?_⟩
    rcases Fo.part3 (t.drop (Fo.off t k)) p with h3 | h3 | h3
    · exact absurd (.inl h3) hn
    · unfold Fo.pre at hp
      rw [decide_eq_false_iff_not] at hp
      exact absurd h3 hp
    · exact h3.1

set_option maxRecDepth 100000 in
set_option maxHeartbeats 4000000 in
theorem found_law (a b : ByteArray) (ha : a.size ≤ maxLen) (hb : b.size ≤ 140737488351232) (w : World) :
    Calls Try.prog 7 #[.string a, .string b] w fun e w' => e = .returned (.bool true) ∧ Below w.heap.size w w' := by
  unfold maxLen at ha
  go_enter Try.func7, Try.ntmps7
  go_wp2_with fail
  refine (short_any a _ ha).mono ?_
  rintro e w1 ⟨t, rfl, ht, hw1⟩; rw [hw1]; clear hw1 ha
  go_wp2_with fail
  refine (Order_ok t _ ht).mono ?_
  rintro e w1 ⟨g, rfl, ho1, hb1⟩
  have hz1 := hb1.size
  go_wp2_with fail
  refine (Turn_ex t _ ht).mono ?_
  rintro e w2 ⟨la, rfl, hla, hls, hb2⟩
  have hz2 := hb2.size
  have ho2 := ho1.below hb2
  have hb02 : Below w.heap.size w w2 := hb1.trans (hb2.mono (by omega))
  obtain ⟨q, hqe⟩ : ∃ q, Fo.rank t.data.toList 0 = q := ⟨_, rfl⟩
  rw [hqe]
  have HR : Hid (Calls Try.prog 22 #[.string la, .int .i64 (q : Int), .string b] w2 fun e w' => e = .returned (.tuple #[.int .i64 (Fo.ahead t.data.toList b.data.toList : Nat), .int .i64 ((Fo.ahead t.data.toList b.data.toList + Fo.begun t.data.toList b.data.toList : Nat) : Int), .int .i64 0]) ∧ Below w2.heap.size w2 w') := Rows_turn t la b q w2 ht hla hqe (by omega)
  clear hla hls hqe ho1 hb1 hb2
  go_wp2_with fail
  refine HR.out.mono ?_
  rintro e w3 ⟨rfl, hb3⟩
  clear HR
  have ho3 := ho2.below hb3
  have hb03 : Below w.heap.size w w3 := hb02.trans (hb3.mono (by omega))
  clear ho2 hb02 hb3 hz1 hz2
  have hrl := Fo.rows_le t.data.toList b.data.toList
  have HF : Hid (∀ k, k ≤ t.data.toList.length → _) := fun k hk => found_row t.data.toList b.data.toList k hk
  have HL : Hid ((Fo.ord t.data.toList).length = t.size + 1) := Fo.ord_length _
  rw [size_len] at hrl
  generalize Fo.ahead t.data.toList b.data.toList = lo at *
  generalize Fo.begun t.data.toList b.data.toList = nn at *
  have hlo0 : decide ((lo : Int) < 0) = false := by simp
  have hlh : decide ((lo : Int) + (nn : Int) < (lo : Int)) = false := by rw [decide_eq_false_iff_not]; omega
  have hhn : decide ((t.size : Int) + 1 < (lo : Int) + (nn : Int)) = false := by rw [decide_eq_false_iff_not]; omega
  go_wp2_with fail
  go_loopw [14] (fun i wr => ∃ k : Nat, k ≤ t.size + 1 ∧ i = .int .i64 k ∧ OwnI wr w.heap.size g (Fo.ord t.data.toList) ∧ Below w.heap.size w wr) (fun i _ => t.size + 1 - (intOf i).toNat)
  case atStart => exact ⟨0, Nat.zero_le _, rfl, ho3, hb03⟩
  case round =>
    obtain ⟨k, hk, rfl, ho, hbw⟩ := hrel
    clear ho3 hb03
    by_cases hkn : k ≤ t.size
    · obtain ⟨x, hx⟩ : ∃ x, Fo.off t.data.toList k = x := ⟨_, rfl⟩
      have hxl := Fo.off_le t.data.toList k
      have hfr := HF.out k hkn
      rw [hx] at hfr
      rw [hx, size_len] at hxl
      have hcx := ho.cell k (by rw [HL.out]; omega)
      rw [show (Fo.ord t.data.toList).getD k 0 = x from hx] at hcx
      have hx0 : decide ((x : Int) < 0) = false := by simp
      clear hx
      obtain ⟨q1, hq1⟩ : ∃ z, Fo.pre t.data.toList b.data.toList x = z := ⟨_, rfl⟩
      obtain ⟨q2, hq2⟩ : ∃ z, Op.bytesLess (t.data.toList.drop x) b.data.toList = z := ⟨_, rfl⟩
      obtain ⟨q3, hq3⟩ : ∃ z, Op.bytesLess b.data.toList (t.data.toList.drop x) = z := ⟨_, rfl⟩
      have Q1 : Hid (Fo.pre t.data.toList b.data.toList x = q1) := hq1
      have Q2 : Hid (Op.bytesLess (t.extract x t.size).data.toList b.data.toList = q2) := by show Op.bytesLess (t.extract x t.size).data.toList b.data.toList = q2; rw [Lib.extract_to_end]; exact hq2
      have Q3 : Hid (Op.bytesLess b.data.toList (t.extract x t.size).data.toList = q3) := by show Op.bytesLess b.data.toList (t.extract x t.size).data.toList = q3; rw [Lib.extract_to_end]; exact hq3
      rw [hq1, hq2, hq3] at hfr
      clear hq1 hq2 hq3
      by_cases h1 : k < lo
      · obtain ⟨rfl, rfl⟩ := hfr.1 h1
        clear hfr
        go_wp2_with fail
        refine (kstands_at t b x _ _ Q1.out (by omega) hxl hb).mono ?_
        rintro e w4 ⟨rfl, hw4⟩; rw [hw4]; clear hw4
        go_wp2_with fail
        refine (kahead_at (t.extract x t.size) b _ Q2.out _ (ext_le t x (by omega)) (by omega)).mono ?_
        rintro e w4 ⟨rfl, m, hw4⟩; rw [hw4]; clear hw4
        go_wp2_with fail
        refine (kahead_at b (t.extract x t.size) _ Q3.out _ (by omega) (ext_le t x (by omega))).mono ?_
        rintro e w4 ⟨rfl, m2, hw4⟩; rw [hw4]; clear hw4
        go_wp2_with fail
        go_roundw
        case rel => exact ⟨k + 1, by omega, by go_num, ho.below (below_drewN (Below.refl _ _) _), below_drewN hbw _⟩
        case measure => simp [intOf]; omega
      · by_cases h2 : k < lo + nn
        · obtain rfl := hfr.2.1 (by omega) h2
          clear hfr
          go_wp2_with fail
          refine (kstands_at t b x _ _ Q1.out (by omega) hxl hb).mono ?_
          rintro e w4 ⟨rfl, hw4⟩; rw [hw4]; clear hw4
          go_wp2_with fail
          refine (kahead_at (t.extract x t.size) b _ Q2.out _ (ext_le t x (by omega)) (by omega)).mono ?_
          rintro e w4 ⟨rfl, m, hw4⟩; rw [hw4]; clear hw4
          go_wp2_with fail
          refine (kahead_at b (t.extract x t.size) _ Q3.out _ (by omega) (ext_le t x (by omega))).mono ?_
          rintro e w4 ⟨rfl, m2, hw4⟩; rw [hw4]; clear hw4
          go_wp2_with fail
          go_roundw
          case rel => exact ⟨k + 1, by omega, by go_num, ho.below (below_drewN (Below.refl _ _) _), below_drewN hbw _⟩
          case measure => simp [intOf]; omega
        · obtain ⟨rfl, rfl⟩ := hfr.2.2 (by omega)
          clear hfr
          go_wp2_with fail
          refine (kstands_at t b x _ _ Q1.out (by omega) hxl hb).mono ?_
          rintro e w4 ⟨rfl, hw4⟩; rw [hw4]; clear hw4
          go_wp2_with fail
          refine (kahead_at (t.extract x t.size) b _ Q2.out _ (ext_le t x (by omega)) (by omega)).mono ?_
          rintro e w4 ⟨rfl, m, hw4⟩; rw [hw4]; clear hw4
          go_wp2_with fail
          refine (kahead_at b (t.extract x t.size) _ Q3.out _ (by omega) (ext_le t x (by omega))).mono ?_
          rintro e w4 ⟨rfl, m2, hw4⟩; rw [hw4]; clear hw4
          go_wp2_with fail
          go_roundw
          case rel => exact ⟨k + 1, by omega, by go_num, ho.below (below_drewN (Below.refl _ _) _), below_drewN hbw _⟩
          case measure => simp [intOf]; omega
    · have hke : k = t.size + 1 := by omega
      subst hke
      go_wp2_with fail
      go_ret
      exact ⟨rfl, hbw⟩

end Go.Proofs.Ythkndfkkgncjfaa
