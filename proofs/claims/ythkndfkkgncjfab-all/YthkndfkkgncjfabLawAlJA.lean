/- LawI0, LawAl. -/
import Derived.Test.YthkndfkkgncjfabLawQJA
import Derived.Test.YthkndfkkgncjfabRows
import Derived.ProofKit
import Derived.OpenShut
import Derived.Carry
import Derived.SizedLaws
import Derived.Test.YthkndfkkgncjfabLawVJA
namespace Go.Proofs.Ythkndfkkgncjfab
open Go.ChangeShapes Go.WideShapes Go.ChangeAt Go.RowKit
set_option linter.unusedVariables false
set_option maxRecDepth 100000

/-- a script's length, by its weight -/
theorem script_len {H : Type} {enc : TypeId × Value → H} {w : World} {base n : Nat} {spare : Nat → Bool} {held : Bool} {v : Value} {x : DataW H × List MemPlace} (h : DataW.trod enc Try.prog w base spare held n 46 [v] = some x)
    {ts : List TypeId} {ds : List (DataW H)} (hsz : (DataW.weightsEach Try.prog ts ds).all (· ≤ reachBytes) = true) {j : Nat} (ht : ts[j]? = some 46) (hd : ds[j]? = some x.1) : ∃ len os, Script w v len os ∧ len ≤ 1999999999999 := by
  obtain ⟨len, os, hs⟩ := open_script h
  refine ⟨len, os, hs, ?_⟩
  rcases Deep.open_slice Try.underlying46 h with ⟨h0, _⟩ | ⟨a, len', cap, m, n2, D, Pl, hv, hb, hl, hm, hmm, hx, _⟩
  · simp only [List.cons.injEq, and_true] at h0
    rcases hs with ⟨_, h2⟩ | ⟨a, cap, h1, _⟩
    · omega
    · rw [h0] at h1; cases h1
  · simp only [List.cons.injEq, and_true] at hv
    have hll : len = len' := by
      rcases hs with ⟨h1, h2⟩ | ⟨a, cap, h1, _⟩
      · rw [h1] at hv; cases hv
      · rw [h1] at hv; cases hv; rfl
    subst hll
    rw [hx] at hd
    have := sized_slice hsz ht hd Try.underlying46
    rw [show Try.prog.bytesOf 82 = 80 from by kernel_rfl] at this
    simp only [List.length_map, List.length_range] at this
    unfold reachBytes at this
    omega

theorem script_own : ownKnob Try.prog.godebug = none := by kernel_rfl
theorem script_laid : laidOutB Try.prog = true := by kernel_rfl

end Go.Proofs.Ythkndfkkgncjfab

namespace Go.Proofs.Ythkndfkkgncjfab
open Go.ChangeShapes Go.WideShapes Go.ChangeAt Go.RowKit
set_option maxRecDepth 100000

section
variable {At : World → Nat → Int → Int → Int → List Do.Chg → (Nat → Prop) → Prop}
variable {B G D m : Nat} {v : Value} {bs : List Bk}

set_option maxHeartbeats 1000000 in
theorem step_ord (Q : Ending → World → Prop) (o : OpV) (w : World) (hk : o.k = 10) (hc : Calls Try.prog 34 #[.pointer (some ⟨G, 0, none⟩), .string o.s] (w.alloc (opObj o)) fun e w' => e = .returned (.bool true) ∧ Q e w') :
    Calls Try.prog 25 #[.pointer (some ⟨G, 0, none⟩), opV o] w fun e w' => e = .returned (.bool true) ∧ Q e w' := by
  obtain ⟨ok, oon, oa, ob, oc, os, f0, f1, f2⟩ := o
  unfold opObj at hc
  dsimp only at *
  subst hk
  unfold opV
  dsimp only
  have y := World.news_of_block (heap_alloc_new w (.cells #[.int .i64 10, .int .i64 oon, .int .i64 oa, .int .i64 ob, .int .i64 oc, .string os, .int .i64 f0, .int .i64 f1, .int .i64 f2] 82))
  have y0 := y 0 _ rfl
  have y5 := y 5 _ rfl
  clear y
  go_enter Try.func25, Try.ntmps25
  go_wp2_with fail
  refine hc.mono ?_
  rintro e w2 ⟨rfl, hq⟩
  go_wp2_with fail
  go_ret
  exact ⟨rfl, hq⟩

/-- pick, of any count -/
theorem pick_wide (c : Int) (n : Int) (k : Int) (w : World) (hc : inR c) (hn0 : n ≠ 0) (hk : ((if c < 0 then -(c + 1) else c).tmod n) = k) (hkr : inR k) :
    Calls Try.prog 37 #[.int .i64 c, .int .i64 n] w fun e w' => e = .returned (.int .i64 k) ∧ w' = w := by
  obtain ⟨hc1, hc2⟩ := hc
  have hz : (n == 0) = false := by rw [beq_eq_false_iff_ne]; exact hn0
  have hwk : IntKind.i64.wrap k = k := by obtain ⟨a, b⟩ := hkr; rw [IntKind.wrap_i64]; omega
  by_cases h : c < 0
  · rw [if_pos h] at hk
    have hd : decide (c < 0) = true := by rw [decide_eq_true_eq]; exact h
    go_enter Try.func37, Try.ntmps37
    go_wp2
    go_ret
    exact ⟨rfl, rfl⟩
  · rw [if_neg h] at hk
    have hd : decide (c < 0) = false := by rw [decide_eq_false_iff_not]; exact h
    go_enter Try.func37, Try.ntmps37
    go_wp2
    go_ret
    exact ⟨rfl, rfl⟩

set_option maxHeartbeats 1000000 in
theorem tail_any (s : ByteArray) (c : Int) (w : World) (hc : inR c) (hs : s.size ≤ 9223372036854775807) :
    Calls Try.prog 35 #[.string s, .int .i64 c] w fun e w' => ∃ t : ByteArray, e = .returned (.string t) ∧ t.size ≤ 9223372036854775807 ∧ Below w.heap.size w w' := by
  have key : ∃ (n : Int) (k : Nat), IntKind.i64.wrap ((s.size : Int) + 1) = n ∧ k ≤ s.size ∧ (∀ w, Calls Try.prog 37 #[.int .i64 c, .int .i64 n] w fun e w' => e = .returned (.int .i64 (k : Int)) ∧ w' = w) := by
    rcases Nat.lt_or_ge s.size 9223372036854775807 with h | h
    · obtain ⟨k, hk, he⟩ := pick_lt c (s.size + 1) (by omega)
      refine ⟨((s.size + 1 : Nat) : Int), k, by rw [IntKind.wrap_i64]; omega, by omega, fun w => ?_⟩
      exact pick_wide c _ _ w hc (by omega) he (by unfold inR; omega)
    · have hz : s.size = 9223372036854775807 := by omega
      have h0 : 0 ≤ (if c < 0 then -(c + 1) else c) := by split <;> omega
      have h1 : (if c < 0 then -(c + 1) else c) ≤ 9223372036854775807 := by unfold inR at hc; split <;> omega
      obtain ⟨d, hd⟩ := Int.eq_ofNat_of_zero_le h0
      refine ⟨-9223372036854775808, d, by rw [hz]; decide, by omega, fun w => ?_⟩
      refine pick_wide c _ _ w hc (by decide) ?_ (by unfold inR; omega)
      rw [hd, Int.tmod_neg]
      exact Int.tmod_eq_of_lt (by omega) (by omega)
  obtain ⟨n, k, hn, hk, hp⟩ := key
  have HP : Hid (∀ w, Calls Try.prog 37 #[.int .i64 c, .int .i64 n] w fun e w' => e = .returned (.int .i64 (k : Int)) ∧ w' = w) := hp
  have hw1 : IntKind.i64.wrap ((s.size : Int) - (k : Int)) = (s.size : Int) - (k : Int) := by rw [IntKind.wrap_i64]; omega
  clear hp
  go_enter Try.func35, Try.ntmps35
  go_wp2_with fail
  refine (HP.out _).mono ?_
  rintro e w1 ⟨rfl, hw⟩; rw [hw]; clear hw
  go_wp2_with fail
  go_ret
  exact ⟨_, rfl, by rw [ByteArray.size_extract]; omega, Below.refl _ _⟩

set_option maxHeartbeats 1000000 in
theorem step_trn (o : OpV) (w : World) (hk : o.k = 11) (hb : inR o.b) (hs : o.s.size ≤ 9223372036854775807) :
    Calls Try.prog 25 #[.pointer (some ⟨G, 0, none⟩), opV o] w fun e w' => e = .returned (.bool true) ∧ Below w.heap.size w w' := by
  obtain ⟨ok, oon, oa, ob, oc, os, f0, f1, f2⟩ := o
  dsimp only at *
  subst hk
  unfold opV
  dsimp only
  have y := World.news_of_block (heap_alloc_new w (.cells #[.int .i64 11, .int .i64 oon, .int .i64 oa, .int .i64 ob, .int .i64 oc, .string os, .int .i64 f0, .int .i64 f1, .int .i64 f2] 82))
  have y0 := y 0 _ rfl
  have y2 := y 2 _ rfl
  have y3 := y 3 _ rfl
  have y5 := y 5 _ rfl
  have hb0 : Below w.heap.size w (w.alloc (.cells #[.int .i64 11, .int .i64 oon, .int .i64 oa, .int .i64 ob, .int .i64 oc, .string os, .int .i64 f0, .int .i64 f1, .int .i64 f2] 82)) := (Below.refl _ _).alloc (Nat.le_refl _) _
  have hsz : (w.alloc (.cells #[.int .i64 11, .int .i64 oon, .int .i64 oa, .int .i64 ob, .int .i64 oc, .string os, .int .i64 f0, .int .i64 f1, .int .i64 f2] 82)).heap.size = w.heap.size + 1 := by simp
  clear y
  go_enter Try.func25, Try.ntmps25
  go_wp2_with fail
  generalize w.alloc (.cells #[.int .i64 11, .int .i64 oon, .int .i64 oa, .int .i64 ob, .int .i64 oc, .string os, .int .i64 f0, .int .i64 f1, .int .i64 f2] 82) = w1 at *
  refine (tail_any os ob _ hb hs).mono ?_
  rintro e w2 ⟨t, rfl, ht, hb2⟩
  have s2 := hb2.size
  have hlw : w.heap.size < w1.heap.size := by omega
  have z2 : w2.cell? ⟨w.heap.size, 2, none⟩ = some (.int .i64 oa) := (hb2.cell (p := ⟨w.heap.size, 2, none⟩) hlw).trans (by simpa [Addr.add] using y2)
  have z5 : w2.cell? ⟨w.heap.size, 5, none⟩ = some (.string os) := (hb2.cell (p := ⟨w.heap.size, 5, none⟩) hlw).trans (by simpa [Addr.add] using y5)
  clear y0 y2 y3 y5
  go_wp2_with fail
  refine (turned_any os t oa w2 ht).mono ?_
  rintro e w3 ⟨rfl, hb3⟩
  clear z2 z5
  go_wp2_with fail
  go_ret
  exact ⟨rfl, (hb0.trans (hb2.mono (by omega))).trans (hb3.mono (by omega))⟩

/-- every step -/
theorem steps_all (hC : Serves At 28 21 23 60 62 20 58 11) (hS : Says At 16) : StepsTo 1999999999999 At DS 4 11 := by
  intro B G D m n v bs own o w hm hI hB hg hn ho hk
  have hs : o.s.size ≤ 9223372036854775807 := by
    have := ho.2.2.2.2.2.2.2.2
    unfold maxLen at this; omega
  have hD := drawn_some m
  by_cases h5 : o.k = 5
  · refine step_lays hC B G D m n v bs own o w hm hI hB hg (by omega) ho (by omega) (by omega) (by omega) (by omega) (by omega) ?_
    intro k b w1 hi hcx hl hI1 hB1
    exact asked_lst hC own k b o w1 (by omega) hI1 hB1 hi hcx hl h5 ho.2.2.1 ho.2.2.2.1
  · by_cases h8 : o.k = 8
    · refine step_lays hC B G D m n v bs own o w hm hI hB hg (by omega) ho (by omega) (by omega) (by omega) (by omega) (by omega) ?_
      intro k b w1 hi hcx hl hI1 hB1
      exact asked_loc hC own k b o w1 (by omega) hI1 hB1 hi hcx hl h8 ho.2.2.1 ho.2.2.2.1 ho.2.2.2.2.1 hs
    · by_cases h9 : o.k = 9
      · refine (step_sta hC hS hD own n o w hI hB hg (by omega) ho h9).mono ?_
        rintro e w' ⟨he, v', bs', own', q1, q2, q3⟩
        exact ⟨he, m, v', bs', own', by omega, q1, q2, q3⟩
      · by_cases h10 : o.k = 10
        · refine step_ord (fun _ w' => Left At DS B G D (n + 1) w w') o w h10 ?_
          have hb : Below w.heap.size w (w.alloc (opObj o)) := (Below.refl _ _).alloc (Nat.le_refl _) _
          have hB' : B ≤ (w.alloc (opObj o)).heap.size := Nat.le_trans hB hb.size
          refine (sorted_lays hC own o.s _ (by omega) (hI.quiet hC hD hb) hB').mono ?_
          rintro e w' ⟨he, ⟨own', hI'⟩, hb'⟩
          exact ⟨he, m + 1, v, bs, own', by omega, hI', hg.mono (Nat.le_succ _), (hb.mono hB).trans hb'⟩
        · by_cases h11 : o.k = 11
          · refine (step_trn o w h11 ho.2.2.2.1 hs).mono ?_
            rintro e w' ⟨he, hb⟩
            exact ⟨he, m, v, bs, own, by omega, hI.quiet hC hD hb, hg.mono (Nat.le_succ _), hb.mono hB⟩
          · refine (step_inv hC hD own n o w hI hB hg (by omega) ho h5 h8 h9 h10 h11).mono ?_
            rintro e w' ⟨he, v', bs', own', q1, q2, q3⟩
            exact ⟨he, m, v', bs', own', by omega, q1, q2, q3⟩

theorem all_law (hC : Serves At 28 21 23 60 62 20 58 11) (hS : Says At 16) (sv : Value) (len : Nat) (os : Nat → OpV) (w : World) (hsc : Script w sv len os) (hlen : len ≤ 1999999999999) :
    Calls Try.prog 6 #[sv] w fun e w' => e = .returned (.bool true) ∧ Below w.heap.size w w' := by
  go_enter Try.func6, Try.ntmps6
  go_wp2_with fail
  refine (plays_to (M := 1999999999999) (by omega) hC drawn_some drawn_start 4 11 (steps_all hC hS) sv len os w hsc hlen).mono ?_
  rintro e w1 ⟨rfl, hb⟩
  go_wp2_with fail
  go_ret
  exact ⟨rfl, hb⟩
end

end Go.Proofs.Ythkndfkkgncjfab
