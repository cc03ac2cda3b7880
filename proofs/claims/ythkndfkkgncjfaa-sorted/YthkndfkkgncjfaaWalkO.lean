/- Walk: foliokeep's Sorted. -/
import Derived.Test.YthkndfkkgncjfaaWalkN
namespace Go.Proofs.Ythkndfkkgncjfaa
open Go.RowKit
set_option maxRecDepth 100000

theorem Turn_ex (t : ByteArray) (w : World) (ht : t.size ≤ 120) :
    Calls Try.prog 19 #[.string t] w fun e w' => ∃ la : ByteArray, e = .returned (.tuple #[.string la, .int .i64 (Fo.rank t.data.toList 0 : Nat), .int .i64 0]) ∧ la.data.toList = (Fo.turn t.data.toList).1 ∧ la.size = t.size ∧ Below w.heap.size w w' := by
  refine (Turn_ok t w ht).mono ?_
  rintro e w1 ⟨rfl, hb⟩
  refine ⟨⟨(Fo.turn t.data.toList).1.toArray⟩, ?_, rfl, Fo.turn_len t.data.toList, hb⟩
  rw [Fo.turn_row]; rfl

def strLen : Value → Nat
  | .string b => b.size
  | _ => 0

theorem place_next (q k : Nat) : Fo.place q (k + 1) = Fo.place q k + (if k = q then 0 else 1) := by
  unfold Fo.place; split <;> split <;> split <;> omega

/-- the byte ahead, as the turn has it -/
theorem turn_byte (t la : ByteArray) (k x : Nat) (hla : la.data.toList = (Fo.turn t.data.toList).1) (hk : k ≤ t.size) (hne : k ≠ Fo.rank t.data.toList 0) (hx : Fo.off t.data.toList k = x + 1) (hp : Fo.place (Fo.rank t.data.toList 0) k < la.size) (hxs : x < t.size) :
    la[Fo.place (Fo.rank t.data.toList 0) k] = t[x] := by
  have h := Fo.turn_at t.data.toList k hk hne
  rw [hx, Nat.add_sub_cancel, getD_byte t x hxs, ← hla, getD_byte la _ hp] at h
  exact h

set_option maxRecDepth 100000 in
set_option maxHeartbeats 4000000 in
theorem sorted_law (a : ByteArray) (ha : a.size ≤ maxLen) (w : World) :
    Calls Try.prog 5 #[.string a] w fun e w' => e = .returned (.bool true) ∧ Below w.heap.size w w' := by
  unfold maxLen at ha
  go_enter Try.func5, Try.ntmps5
  go_wp2_with fail
  refine (short_any a _ ha).mono ?_
  rintro e w1 ⟨t, rfl, ht, hw1⟩; rw [hw1]; clear hw1 ha
  go_wp2_with fail
  refine (Order_ok t _ ht).mono ?_
  rintro e w1 ⟨g, rfl, ho1, hb1⟩
  have hz1 := hb1.size
  go_wp2_with fail
  refine (Turn_ex t _ ht).mono ?_
  rintro e w2 ⟨la, rfl, hla, hls, hb2⟩
  have ho2 := ho1.below hb2
  have hb02 : Below w.heap.size w w2 := hb1.trans (hb2.mono (by omega))
  clear ho1 hb1 hb2 hz1
  have hq := Fo.row_le t.data.toList
  rw [size_len] at hq
  have hol : (Fo.ord t.data.toList).length = t.size + 1 := Fo.ord_length _
  have HL : Hid ((Fo.ord t.data.toList).length = t.size + 1) := hol
  have hc0 := ho2.cell (Fo.rank t.data.toList 0) (by omega)
  rw [show (Fo.ord t.data.toList).getD (Fo.rank t.data.toList 0) 0 = 0 from Fo.off_rank t.data.toList 0 (Nat.zero_le _)] at hc0
  have HLA : Hid (la.data.toList = (Fo.turn t.data.toList).1) := hla
  have hl1 : la.size ≤ t.size := by omega
  have hl2 : t.size ≤ la.size := by omega
  have hn1 : (((t.size : Int) + 1) != ((t.size : Int) + 1)) = false := by simp
  have hn2 : (((la.size : Int)) != ((t.size : Int))) = false := by rw [bne_eq_false_iff_eq]; omega
  clear hla hls hol
  obtain ⟨q, hqe⟩ : ∃ q, Fo.rank t.data.toList 0 = q := ⟨_, rfl⟩
  rw [hqe] at hq hc0
  rw [hqe]
  have HQ : Hid (Fo.rank t.data.toList 0 = q) := hqe
  clear hqe
  have hq0 : decide ((q : Int) < 0) = false := by simp
  have hqn : decide (t.size < q) = false := by rw [decide_eq_false_iff_not]; omega
  go_wp2_with fail
  clear hc0 hn1 hn2
  go_loopw [10, 11] (fun x i wr => ∃ k : Nat, k ≤ t.size + 1 ∧ i = .int .i64 k ∧ x = .int .i64 (Fo.place q k : Nat) ∧ OwnI wr w.heap.size g (Fo.ord t.data.toList) ∧ Below w.heap.size w wr) (fun _ i _ => t.size + 1 - (intOf i).toNat)
  case atStart => exact ⟨0, Nat.zero_le _, rfl, by unfold Fo.place; simp, ho2, hb02⟩
  case round =>
    obtain ⟨k, hk, rfl, rfl, ho, hb⟩ := hrel
    clear ho2 hb02
    by_cases hkn : k ≤ t.size
    · obtain ⟨x, hx⟩ : ∃ x, Fo.off t.data.toList k = x := ⟨_, rfl⟩
      have hxl := Fo.off_le t.data.toList k
      rw [hx, size_len] at hxl
      have hcx := ho.cell k (by rw [HL.out]; omega)
      rw [show (Fo.ord t.data.toList).getD k 0 = x from hx] at hcx
      have hx0 : decide ((x : Int) < 0) = false := by simp
      have HX : Hid (Fo.off t.data.toList k = x) := hx
      have HN : Hid (Fo.place q (k + 1) = Fo.place q k + (if k = q then 0 else 1)) := place_next q k
      clear hx
      cases k with
      | zero =>
        by_cases hkq : 0 = q
        · have hkq1 : ((0 : Int) == (q : Int)) = true := by rw [beq_iff_eq]; omega
          have HK : Hid (0 = q) := hkq
          clear hkq
          go_wp2_with fail
          go_roundw
          case rel => exact ⟨0 + 1, by omega, by go_num, by rw [HN.out, if_pos HK.out]; rfl, ho, hb⟩
          case measure => simp [intOf]
        · have hkq1 : ((0 : Int) == (q : Int)) = false := by rw [beq_eq_false_iff_ne]; omega
          obtain ⟨z, hz⟩ : ∃ z, x = z + 1 := ⟨x - 1, by
            have : x ≠ 0 := fun e => hkq (by have := (Fo.off_zero_iff t.data.toList (0) (by rw [size_len]; omega)).1 (by rw [HX.out, e]); rw [this]; exact HQ.out)
            omega⟩
          subst hz
          have hpl : Fo.place q (0) < t.size := Fo.place_lt q (0) t.size hkq (by omega) hq
          have hby : la[Fo.place q (0)]'(by omega) = t[z]'(by omega) := by
            have h1 := HQ.out
            subst h1
            exact turn_byte t la (0) z HLA.out (by omega) hkq HX.out (by omega) (by omega)
          obtain ⟨p, hp⟩ : ∃ p, Fo.place q (0) = p := ⟨_, rfl⟩
          have hpla : p < la.size := by rw [← hp]; omega
          have hzt : z < t.size := by omega
          have hbb : (((la[p]'hpla).toNat : Int) != (((t[z]'hzt).toNat : Nat) : Int)) = false := by
            subst hp
            rw [bne_eq_false_iff_eq, hby]
          rw [hp]
          have HP : Hid (Fo.place q (0) = p) := hp
          have HK : Hid (¬ 0 = q) := hkq
          rw [hp] at hpl
          clear hp hby
          have hz1 : (((z : Int) + 1) == 0) = false := by rw [beq_eq_false_iff_ne]; omega
          have hcx1 : wr.cell? ⟨g, 0, none⟩ = some (.int .i64 ((z : Int) + 1)) := by rw [hcx]; simp
          have hx01 : decide ((z : Int) + 1 < 0) = false := by rw [decide_eq_false_iff_not]; omega
          clear hcx hx0
          have hzi : (z : Int) < (t.size : Int) := by omega
          have hzw : IntKind.i64.wrap (z : Int) = (z : Int) := by rw [IntKind.wrap_i64]; omega
          have hpi : (p : Int) < (la.size : Int) := by omega
          have hpn : decide (t.size ≤ p) = false := by rw [decide_eq_false_iff_not]; omega
          clear hkq
          go_wp2_with fail
          go_quiet (fail)
          go_wp2_with fail
          go_roundw
          case rel => exact ⟨0 + 1, by omega, by go_num, by rw [HN.out, if_neg HK.out, HP.out]; go_num, ho.below (below_drewN (Below.refl _ _) _), below_drewN hb _⟩
          case measure => simp [intOf]
      | succ k =>
        obtain ⟨y, hy⟩ : ∃ y, Fo.off t.data.toList k = y := ⟨_, rfl⟩
        have hyl := Fo.off_le t.data.toList k
        rw [hy, size_len] at hyl
        have hcy := ho.cell k (by rw [HL.out]; omega)
        rw [show (Fo.ord t.data.toList).getD k 0 = y from hy] at hcy
        have hyx : y ≠ x := fun e => by
          have := Fo.off_inj t.data.toList k (k + 1) (by rw [size_len]; omega) (by rw [size_len]; omega) (by rw [hy, HX.out, e]); omega
        have hup : Op.bytesLess (t.data.toList.drop y) (t.data.toList.drop x) = true := by
          have := Fo.off_rises t.data.toList k (k + 1) (by rw [size_len]; omega) (by omega)
          rwa [hy, HX.out] at this
        have HUP : Hid (Op.bytesLess (t.data.toList.drop y) (t.data.toList.drop x) = true) := hup
        clear hup hy
        have hk1 : (0 : Int) < (k : Int) + 1 := by omega
        have hki : (k : Int) + 1 < (t.size : Int) + 1 := by omega
        by_cases hkq : k + 1 = q
        · have hkq1 : (((k : Int) + 1) == (q : Int)) = true := by rw [beq_iff_eq]; omega
          have HK : Hid (k + 1 = q) := hkq
          have hyx1 : ((y : Int) == (x : Int)) = false := by rw [beq_eq_false_iff_ne]; omega
          clear hkq
          go_wp2_with fail
          go_quiet ((go_at_call 20; exact Calls.quiet_of (rises_at t y x true _ HUP.out (by omega) hyl hxl hyx)))
          go_wp2_with fail
          go_quiet (fail)
          go_wp2_with fail
          go_roundw
          case rel => exact ⟨k + 1 + 1, by omega, by go_num, by rw [HN.out, if_pos HK.out]; rfl, ho.below (below_drewN (Below.refl _ _) _), below_drewN hb _⟩
          case measure => simp [intOf]; omega
        · have hkq1 : (((k : Int) + 1) == (q : Int)) = false := by rw [beq_eq_false_iff_ne]; omega
          obtain ⟨z, hz⟩ : ∃ z, x = z + 1 := ⟨x - 1, by
            have : x ≠ 0 := fun e => hkq (by have := (Fo.off_zero_iff t.data.toList (k + 1) (by rw [size_len]; omega)).1 (by rw [HX.out, e]); rw [this]; exact HQ.out)
            omega⟩
          subst hz
          have hpl : Fo.place q (k + 1) < t.size := Fo.place_lt q (k + 1) t.size hkq (by omega) hq
          have hby : la[Fo.place q (k + 1)]'(by omega) = t[z]'(by omega) := by
            have h1 := HQ.out
            subst h1
            exact turn_byte t la (k + 1) z HLA.out (by omega) hkq HX.out (by omega) (by omega)
          obtain ⟨p, hp⟩ : ∃ p, Fo.place q (k + 1) = p := ⟨_, rfl⟩
          have hpla : p < la.size := by rw [← hp]; omega
          have hzt : z < t.size := by omega
          have hbb : (((la[p]'hpla).toNat : Int) != (((t[z]'hzt).toNat : Nat) : Int)) = false := by
            subst hp
            rw [bne_eq_false_iff_eq, hby]
          rw [hp]
          have HP : Hid (Fo.place q (k + 1) = p) := hp
          have HK : Hid (¬ k + 1 = q) := hkq
          rw [hp] at hpl
          clear hp hby
          have hz1 : (((z : Int) + 1) == 0) = false := by rw [beq_eq_false_iff_ne]; omega
          have hcx1 : wr.cell? ⟨g, k + 1, none⟩ = some (.int .i64 ((z : Int) + 1)) := by rw [hcx]; simp
          have hx01 : decide ((z : Int) + 1 < 0) = false := by rw [decide_eq_false_iff_not]; omega
          clear hcx hx0
          have hzi : (z : Int) < (t.size : Int) := by omega
          have hzw : IntKind.i64.wrap (z : Int) = (z : Int) := by rw [IntKind.wrap_i64]; omega
          have hpi : (p : Int) < (la.size : Int) := by omega
          have hpn : decide (t.size ≤ p) = false := by rw [decide_eq_false_iff_not]; omega
          have hyx1 : ((y : Int) == ((z : Int) + 1)) = false := by rw [beq_eq_false_iff_ne]; omega
          clear hkq
          go_wp2_with fail
          go_quiet ((go_at_call 20; exact Calls.quiet_of (rises_at t y (z + 1) true _ HUP.out (by omega) hyl hxl hyx)))
          go_wp2_with fail
          go_quiet (fail)
          go_wp2_with fail
          go_quiet (fail)
          go_wp2_with fail
          go_roundw
          case rel => exact ⟨k + 1 + 1, by omega, by go_num, by rw [HN.out, if_neg HK.out, HP.out]; go_num, ho.below (below_drewN (Below.refl _ _) _), below_drewN hb _⟩
          case measure => simp [intOf]; omega
    · have hke : k = t.size + 1 := by omega
      subst hke
      have hpe : Fo.place q (t.size + 1) = t.size := by unfold Fo.place; rw [if_pos (by omega)]; omega
      rw [hpe]
      clear hpe
      obtain ⟨w1, hw1⟩ : ∃ w1, w1 = wr := ⟨_, rfl⟩
      subst hw1
      have hend : decide ((t.size : Int) + 1 ≤ (t.size : Int)) = false := by rw [decide_eq_false_iff_not]; omega
      go_wp2_with fail
      go_loop [13] (fun v => ∃ lb : ByteArray, v = .string lb ∧ lb.size ≤ 121) (fun v => 121 - strLen v)
      case atStart => exact ⟨t, rfl, by omega⟩
      case round =>
        obtain ⟨lb, rfl, hlb⟩ := hrel
        by_cases hle : lb.size ≤ 120
        · have hadd : (Op.stringOp .add lb ⟨#[120]⟩).run Try.prog w1 = .ok (.string (lb ++ ⟨#[120]⟩)) w1 := run_string_add_sum w1 lb ⟨#[120]⟩ (by show lb.size + 1 ≤ _; omega)
          have hsz : (lb ++ (⟨#[120]⟩ : ByteArray)).size = lb.size + 1 := by rw [ByteArray.size_append]; rfl
          have HZ : Hid ((lb ++ (⟨#[120]⟩ : ByteArray)).size = lb.size + 1) := hsz
          clear hsz
          go_wp2_with fail
          go_round
          case rel => exact ⟨_, rfl, by rw [HZ.out]; omega⟩
          case measure => simp [strLen, HZ.out]; omega
        · go_wp2_with fail
          refine (Order_long lb _ (by omega)).mono ?_
          rintro e w2 ⟨rfl, hw2⟩; rw [hw2]; clear hw2
          go_wp2_with fail
          refine (Turn_long lb _ (by omega)).mono ?_
          rintro e w2 ⟨rfl, hw2⟩; rw [hw2]; clear hw2
          unfold S
          go_wp2_with fail
          go_ret
          exact ⟨rfl, hb⟩

end Go.Proofs.Ythkndfkkgncjfaa
