/- Walks of the law: opened, pick. -/
import Derived.Test.YtpikkedeoebiaaaLawC
namespace Go.Proofs.Ytpikkedeoebiaaa
open Go.RowKit
set_option maxRecDepth 100000

section
variable {At : World → Nat → Int → Int → Int → List Do.Chg → (Nat → Prop) → Prop} {DP : World → Nat → (Nat → Prop) → Prop}
variable {B G D : Nat} {v : Value} {bs : List Bk}

set_option maxHeartbeats 1000000 in
theorem opened_no (hC : Serves At 67 73 74 28 34 36 56 35) (a b p : Int) (w : World) (hn : ¬ okc a b p) :
    Calls Try.prog 48 #[.pointer (some ⟨G, 0, none⟩), .agg #[.int .i64 a, .int .i64 b, .int .i64 p]] w fun e w' => e = .returned (.bool true) ∧ Below w.heap.size w w' := by
  have y := World.news_of_block (heap_alloc_new w (.cells #[.int .i64 a, .int .i64 b, .int .i64 p] 51))
  have hb0 : Below w.heap.size w (w.alloc (.cells #[.int .i64 a, .int .i64 b, .int .i64 p] 51)) := (Below.refl _ _).alloc (Nat.le_refl _) _
  have hsz : (w.alloc (.cells #[.int .i64 a, .int .i64 b, .int .i64 p] 51)).heap.size = w.heap.size + 1 := by simp
  have z0 := y 0 _ rfl
  have z1 := y 1 _ rfl
  have z2 := y 2 _ rfl
  clear y
  go_enter Try.func48, Try.ntmps48
  go_wp2_with fail
  generalize w.alloc (.cells #[.int .i64 a, .int .i64 b, .int .i64 p] 51) = w1 at *
  refine (hC.new_no a b p w1 hn).mono ?_
  rintro e w2 ⟨rfl, hb2⟩
  have s2 := hb2.size
  have x0 : w2.cell? ⟨w.heap.size, 0, none⟩ = some (.int .i64 a) := by rw [hb2.cell (by show w.heap.size < w1.heap.size; omega)]; simpa [Addr.add] using z0
  have x1 : w2.cell? ⟨w.heap.size, 1, none⟩ = some (.int .i64 b) := by rw [hb2.cell (by show w.heap.size < w1.heap.size; omega)]; simpa [Addr.add] using z1
  have x2 : w2.cell? ⟨w.heap.size, 2, none⟩ = some (.int .i64 p) := by rw [hb2.cell (by show w.heap.size < w1.heap.size; omega)]; simpa [Addr.add] using z2
  clear z0 z1 z2
  go_wp2_with fail
  refine (ref_serves.new_no a b p w2 hn).mono ?_
  rintro e w3 ⟨rfl, hb3⟩
  clear x0 x1 x2
  go_wp2_with fail
  refine (num_any _ _).mono ?_
  rintro e w4 ⟨rfl, hw4⟩; rw [hw4]; clear hw4
  go_wp2_with fail
  go_ret
  exact ⟨rfl, (hb0.trans (hb2.mono (by omega))).trans (hb3.mono (by omega))⟩

set_option maxHeartbeats 1000000 in
theorem opened_ok (hC : Serves At 67 73 74 28 34 36 56 35) (hD : Drawn DP) (own : Nat → Nat) (a b p : Int) (w : World) (hn : okc a b p) (h : Inv At DP w B G D v bs own) (hB : B ≤ w.heap.size) (hl : bs.length ≤ 2000000000000) :
    Calls Try.prog 48 #[.pointer (some ⟨G, 0, none⟩), .agg #[.int .i64 a, .int .i64 b, .int .i64 p]] w fun e w' => e = .returned (.bool true) ∧ ∃ x r v' own', Inv At DP w' B G D v' (bs ++ [⟨x, r, a, b, p, [], []⟩]) own' ∧ Only (fun k => own k ≠ 0) w w' := by
  obtain ⟨i0, hi, hz0, hz1, hz2⟩ := info_parts Try.info121
  have y := World.news_of_block (heap_alloc_new w (.cells #[.int .i64 a, .int .i64 b, .int .i64 p] 51))
  have hb0 : Below w.heap.size w (w.alloc (.cells #[.int .i64 a, .int .i64 b, .int .i64 p] 51)) := (Below.refl _ _).alloc (Nat.le_refl _) _
  have hsz : (w.alloc (.cells #[.int .i64 a, .int .i64 b, .int .i64 p] 51)).heap.size = w.heap.size + 1 := by simp
  have z0 := y 0 _ rfl
  have z1 := y 1 _ rfl
  have z2 := y 2 _ rfl
  clear y
  go_enter Try.func48, Try.ntmps48
  go_wp2_with fail
  generalize w.alloc (.cells #[.int .i64 a, .int .i64 b, .int .i64 p] 51) = w1 at *
  refine (hC.new_ok a b p w1 hn).mono ?_
  rintro e w2 ⟨x, FX, rfl, hx, hFX, hb2⟩
  have s2 := hb2.size
  have x0 : w2.cell? ⟨w.heap.size, 0, none⟩ = some (.int .i64 a) := by rw [hb2.cell (by show w.heap.size < w1.heap.size; omega)]; simpa [Addr.add] using z0
  have x1 : w2.cell? ⟨w.heap.size, 1, none⟩ = some (.int .i64 b) := by rw [hb2.cell (by show w.heap.size < w1.heap.size; omega)]; simpa [Addr.add] using z1
  have x2 : w2.cell? ⟨w.heap.size, 2, none⟩ = some (.int .i64 p) := by rw [hb2.cell (by show w.heap.size < w1.heap.size; omega)]; simpa [Addr.add] using z2
  clear z0 z1 z2
  go_wp2_with fail
  refine (ref_serves.new_ok a b p w2 hn).mono ?_
  rintro e w3 ⟨r, FR, rfl, hr, hFR, hb3⟩
  have s3 := hb3.size
  have hx3 : At w3 x a b p [] FX := hC.frame hx hb3.size (fun k hk => hb3.block k (hC.lt hx k hk))
  have hb03 : Below w.heap.size w w3 := (hb0.trans (hb2.mono (by omega))).trans (hb3.mono (by omega))
  have hI3 := h.quiet hC hD hb03
  have hdis : ∀ k, FX k → ¬ FR k := fun k hk hf => by have h1 := hC.lt hx k hk; have h2 := hFR k hf; omega
  have hFX' : ∀ k, FX k → w.heap.size ≤ k := fun k hk => by have := hFX k hk; omega
  have hFR' : ∀ k, FR k → w.heap.size ≤ k := fun k hk => by have := hFR k hk; omega
  have HX : Hid (At w3 x a b p [] FX ∧ RIdx w3 r a b p [] FR ∧ (∀ k, FX k → ¬ FR k) ∧ (∀ k, FX k → w.heap.size ≤ k) ∧ (∀ k, FR k → w.heap.size ≤ k)) := ⟨hx3, hr, hdis, hFX', hFR'⟩
  have HI : Hid (Inv At DP w B G D v bs own) := h
  have HB : Hid (Below w.heap.size w w3) := hb03
  clear x0 x1 x2 hx hx3 hr hdis hFX hFR hFX' hFR' h hb0 hb2 hb3 hb03
  have cG : w3.cell? ⟨G, 0, none⟩ = some v := by rw [cell_of_row w3 G 0 _ 31 (0, 0) hI3.wo]; rfl
  have hrow := hI3.row
  have hwo := hI3.wo
  have hGl := lt_of_block hwo
  have hGv : v.ownBlock ≠ some G := fun e => by
    rcases hrow.2 with ⟨h2', _⟩ | ⟨g2, cap2, cur2, h2', _, hg2, _⟩
    · rw [h2'] at e; simp [Value.ownBlock] at e
    · rw [h2'] at e
      simp [Value.ownBlock] at e
      rw [e, hwo] at hg2
      simp at hg2
  obtain ⟨av, capv, hv⟩ : ∃ av capv, v = .slice av bs.length capv := by
    rcases hrow.2 with ⟨rfl, h0⟩ | ⟨g, cap, cur, rfl, _⟩
    · exact ⟨none, 0, by rw [h0]⟩
    · exact ⟨_, cap, rfl⟩
  subst hv
  clear hI3
  go_wp2_with fail
  refine (num_any _ _).mono ?_
  rintro e w4 ⟨rfl, hw4⟩; rw [hw4]; clear hw4
  go_wp2_with (at_builtin; refine wpList_append_lies _ rfl _ _ 29 rfl 0 121 i0 (.agg #[.pointer none, .pointer none]) 2 16 Try.underlying29 hi hz0 hz1 hz2 rfl (by decide) _ _ _ rfl (World.ownsRow.alloc hrow _) ⟨w3.heap.size, 0, none⟩ 1 1 (bk1 ⟨x, r, a, b, p, [], []⟩) rfl rfl (World.news_of_block (cs := #[.pointer (some ⟨x, 0, none⟩), .pointer (some ⟨r, 0, none⟩)]) (heap_alloc_new w3 _)) (by intro u hu2; simp [bk1] at hu2; rcases hu2 with rfl | rfl <;> rfl) (by decide) (by unfold maxLen; omega) (by omega) (Nat.zero_le _) (w3.heap.size + 1) (by simp) ?_; intro g' cap' w5 hown5 hgrow5 hat5 hlt5; have c5 := (hgrow5.block G (by simp; omega) (fun e => hGv e.symm)).trans ((Below.heap_alloc w3 _ G hGl).trans hwo); have cG5 : w5.cell? ⟨G, 0, none⟩ = some (.slice av bs.length capv) := (by rw [cell_of_row w5 G 0 _ 31 (0, 0) c5]; rfl); have fG5 : w5.frozen? ⟨G, 0, none⟩ = false := frozen_of_row w5 G 0 _ 31 c5)
  obtain ⟨own', hI, hO⟩ := Inv.opened hC hD HI.out hB HB.out HX.out.1 HX.out.2.1 HX.out.2.2.2.1 HX.out.2.2.2.2 HX.out.2.2.1 hown5 hgrow5 hat5 hlt5
  go_ret
  exact ⟨rfl, x, r, _, own', hI, hO⟩

/-- pick gives one of n -/
theorem pick_lt (c : Int) (n : Nat) (hn : 0 < n) : ∃ k : Nat, k < n ∧ ((if c < 0 then -(c + 1) else c).tmod n) = (k : Int) := by
  have h0 : 0 ≤ (if c < 0 then -(c + 1) else c) := by split <;> omega
  generalize (if c < 0 then -(c + 1) else c) = d at *
  obtain ⟨m, rfl⟩ := Int.eq_ofNat_of_zero_le h0
  refine ⟨m % n, Nat.mod_lt _ hn, ?_⟩
  rw [Int.tmod_eq_emod_of_nonneg (by omega)]; rfl

set_option maxHeartbeats 400000 in
theorem pick_any (c : Int) (n : Nat) (w : World) (hc : inR c) (hn : 0 < n) (hn2 : n ≤ 2000000000000) :
    Calls Try.prog 70 #[.int .i64 c, .int .i64 (n : Int)] w fun e w' => ∃ k : Nat, k < n ∧ e = .returned (.int .i64 (k : Int)) ∧ w' = w := by
  obtain ⟨hc1, hc2⟩ := hc
  obtain ⟨k, hk, he⟩ := pick_lt c n hn
  by_cases h : c < 0
  · rw [if_pos h] at he
    go_enter Try.func70, Try.ntmps70
    go_wp2
    go_ret
    exact ⟨k, hk, rfl, rfl⟩
  · rw [if_neg h] at he
    go_enter Try.func70, Try.ntmps70
    go_wp2
    go_ret
    exact ⟨k, hk, rfl, rfl⟩
end

end Go.Proofs.Ytpikkedeoebiaaa
