/- A script, played, of at most so many steps. -/
import Derived.Test.YtpikkedeoebiaaaLawH
namespace Go.Proofs.Ytpikkedeoebiaaa
open Go.RowKit
set_option maxRecDepth 100000

section
variable {At : World → Nat → Int → Int → Int → List Do.Chg → (Nat → Prop) → Prop}

/-- a law's steps: the kinds that are asked go as they should -/
def StepsTo (M : Nat) (At : World → Nat → Int → Int → Int → List Do.Chg → (Nat → Prop) → Prop) (DS : Nat → World → Nat → (Nat → Prop) → Prop) (lo hi : Int) : Prop :=
  ∀ (B G D m n : Nat) (v : Value) (bs : List Bk) (own : Nat → Nat) (o : OpV) (w : World), m ≤ n → Inv At (DS m) w B G D v bs own → B ≤ w.heap.size → Good bs n → n < M → o.ok → (o.k ≤ 3 ∨ lo ≤ o.k ∧ o.k ≤ hi) →
    Calls Try.prog 49 #[.pointer (some ⟨G, 0, none⟩), opV o] w fun e w' => e = .returned (.bool true) ∧ Left At DS B G D (n + 1) w w'

set_option maxHeartbeats 4000000 in
theorem plays_to {M : Nat} (hM : M ≤ 1999999999999) {DS : Nat → World → Nat → (Nat → Prop) → Prop} (hC : Serves At 67 73 74 28 34 36 56 35) (hD : ∀ m, Drawn (DS m)) (hz : ∀ w D, w.heap[D]? = some (.cells #[.int .i64 0, .slice none 0 0, .slice none 0 0, .slice none 0 0, .slice none 0 0] 28 (0, 0)) → DS 0 w D (fun k => k = D))
    (lo hi : Int) (hst : StepsTo M At DS lo hi) (sv : Value) (len : Nat) (os : Nat → OpV) (w : World) (hsc : Script w sv len os) (hlen : len ≤ M) :
    Calls Try.prog 25 #[sv, .int .i64 lo, .int .i64 hi] w fun e w' => e = .returned (.bool true) ∧ Below w.heap.size w w' := by
  obtain ⟨a0, cap, rfl, hsv⟩ : ∃ a0 cap, sv = .slice a0 len cap ∧ (∀ {k : Nat}, k < len → ∃ gb off, a0 = some ⟨gb, off, none⟩ ∧ ∀ i, i < len → (os i).ok ∧ ∀ j u, (opCells (os i))[j]? = some u → w.cell? ⟨gb, off + i * 9 + j, none⟩ = some u) := by
    rcases hsc with ⟨h1, h2⟩ | ⟨a, cap, h1, _, h2⟩
    · exact ⟨none, 0, by rw [h2]; exact h1, fun h => by omega⟩
    · refine ⟨some a, cap, h1, fun {k} hk => ?_⟩
      have hsp := (h2 0 (by omega)).2 0 _ rfl
      obtain ⟨gb, off, spot⟩ := a
      have hs0 : spot = none := by
        cases spot with
        | none => rfl
        | some n =>
          exfalso
          simp [Addr.add, World.cell?] at hsp
          split at hsp <;> simp at hsp
      subst hs0
      refine ⟨gb, off, rfl, fun i hi => ⟨(h2 i hi).1, fun j u hu => ?_⟩⟩
      have := (h2 i hi).2 j u hu
      rw [Nat.add_assoc]
      generalize i * 9 + j = q at *
      by_cases hq : q = 0
      · subst hq; simpa [Addr.add] using this
      · simpa [Addr.add, hq] using this
  clear hsc
  go_enter Try.func25, Try.ntmps25
  go_wp2_with fail
  have hb0 : Below w.heap.size w ((w.alloc (.cells #[.int .i64 0, .slice none 0 0, .slice none 0 0, .slice none 0 0, .slice none 0 0] 28)).alloc (.cells #[.slice none 0 0, .pointer (some ⟨w.heap.size, 0, none⟩)] 31)) := ((Below.refl _ _).alloc (Nat.le_refl _) _).alloc (by simp) _
  have hsz : ((w.alloc (.cells #[.int .i64 0, .slice none 0 0, .slice none 0 0, .slice none 0 0, .slice none 0 0] 28)).alloc (.cells #[.slice none 0 0, .pointer (some ⟨w.heap.size, 0, none⟩)] 31)).heap.size = w.heap.size + 2 := by simp
  have hGo : ((w.alloc (.cells #[.int .i64 0, .slice none 0 0, .slice none 0 0, .slice none 0 0, .slice none 0 0] 28)).alloc (.cells #[.slice none 0 0, .pointer (some ⟨w.heap.size, 0, none⟩)] 31)).heap[w.heap.size + 1]? = some (.cells #[.slice none 0 0, .pointer (some ⟨w.heap.size, 0, none⟩)] 31 (0, 0)) := by
    have := heap_alloc_new (w.alloc (.cells #[.int .i64 0, .slice none 0 0, .slice none 0 0, .slice none 0 0, .slice none 0 0] 28)) (.cells #[.slice none 0 0, .pointer (some ⟨w.heap.size, 0, none⟩)] 31)
    simpa using this
  have hDo : ((w.alloc (.cells #[.int .i64 0, .slice none 0 0, .slice none 0 0, .slice none 0 0, .slice none 0 0] 28)).alloc (.cells #[.slice none 0 0, .pointer (some ⟨w.heap.size, 0, none⟩)] 31)).heap[w.heap.size]? = some (.cells #[.int .i64 0, .slice none 0 0, .slice none 0 0, .slice none 0 0, .slice none 0 0] 28 (0, 0)) := by
    rw [Below.heap_alloc _ _ w.heap.size (by simp)]
    exact heap_alloc_new w _
  generalize (w.alloc (.cells #[.int .i64 0, .slice none 0 0, .slice none 0 0, .slice none 0 0, .slice none 0 0] 28)).alloc (.cells #[.slice none 0 0, .pointer (some ⟨w.heap.size, 0, none⟩)] 31) = w1 at *
  obtain ⟨own1, hI1⟩ := Inv.start (At := At) (DP := DS 0) (B := w.heap.size) hGo (hz w1 w.heap.size hDo) (by omega) (Nat.le_refl _) (Nat.le_succ _) (by omega)
  refine (opened_ok hC (hD 0) own1 400 8 3 w1 (by unfold okc; omega) hI1 (by omega) (by simp)).mono ?_
  rintro e w2 ⟨rfl, x, r, v2, own2, hI2, ho2⟩
  have hb2 : Below w.heap.size w w2 := hb0.trans (hI1.low (by omega) ho2)
  obtain ⟨g2, cap2, hv2⟩ : ∃ g cap, v2 = .slice (some ⟨g, 0, none⟩) 1 cap := by
    rcases hI2.row.2 with ⟨_, h0⟩ | ⟨g, cap, cur, rfl, _⟩
    · simp at h0
    · exact ⟨g, cap, rfl⟩
  subst hv2
  have cG2 : w2.cell? ⟨w.heap.size + 1, 0, none⟩ = some (.slice (some ⟨g2, 0, none⟩) 1 cap2) := by rw [cell_of_row w2 _ 0 _ 31 (0, 0) hI2.wo]; rfl
  have fG2 : w2.frozen? ⟨w.heap.size + 1, 0, none⟩ = false := frozen_of_row w2 _ 0 _ 31 hI2.wo
  have hI3 := hI2.reset (hD 0)
  have hb3 : Below w.heap.size w (w2.setCell ⟨w.heap.size + 1, 0, none⟩ (.slice none 0 0)) := hb2.setCell (p := ⟨w.heap.size + 1, 0, none⟩) (Nat.le_succ _) _
  have HI3 : Hid (Inv At (DS 0) (w2.setCell ⟨w.heap.size + 1, 0, none⟩ (.slice none 0 0)) w.heap.size (w.heap.size + 1) w.heap.size (.slice none 0 0) [] own2) := hI3
  clear hI1 hI2 hI3 ho2 hGo hDo hb0 hb2
  go_wp2_with fail
  generalize w2.setCell ⟨w.heap.size + 1, 0, none⟩ (.slice none 0 0) = w3 at *
  clear cG2 fG2
  go_loopw [9] (fun i wr => ∃ k : Nat, k ≤ len ∧ i = .int .i64 k ∧ (∃ m v bs own, m ≤ k ∧ Inv At (DS m) wr w.heap.size (w.heap.size + 1) w.heap.size v bs own ∧ Good bs k) ∧ Below w.heap.size w wr) (fun i _ => len - (intOf i).toNat)
  case atStart => exact ⟨0, Nat.zero_le _, rfl, ⟨0, _, _, _, Nat.le_refl _, HI3.out, ⟨Nat.le_refl _, by simp⟩⟩, hb3⟩
  case round =>
    obtain ⟨k, hk, rfl, hinv, hb⟩ := hrel
    clear HI3 hb3
    by_cases hlt : k < len
    · obtain ⟨gb, off, rfl, hcell⟩ := hsv hlt
      obtain ⟨hok, hcs⟩ := hcell k hlt
      have hal : gb < w.heap.size := World.block_lt_of_cell? w ⟨gb, off + k * 9 + 0, none⟩ (hcs 0 _ rfl)
      have cs : ∀ (j : Nat) (u : Value), (opCells (os k))[j]? = some u → wr.cell? ⟨gb, off + k * 9 + j, none⟩ = some u := fun j u hu => (hb.cell (p := ⟨gb, off + k * 9 + j, none⟩) hal).trans (hcs j u hu)
      have c0 : wr.cell? ⟨gb, off + k * 9, none⟩ = _ := cs 0 _ rfl
      have c1 := cs 1 _ rfl
      have c2 := cs 2 _ rfl
      have c3 := cs 3 _ rfl
      have c4 := cs 4 _ rfl
      have c5 := cs 5 _ rfl
      have c6 := cs 6 _ rfl
      have c7 := cs 7 _ rfl
      have c8 := cs 8 _ rfl
      clear cs hcs hcell hsv
      obtain ⟨m, v, bs, own, hm, hI, hgd⟩ := hinv
      have HR : (os k).k ≤ 3 ∨ lo ≤ (os k).k ∧ (os k).k ≤ hi → Calls Try.prog 49 #[.pointer (some ⟨w.heap.size + 1, 0, none⟩), opV (os k)] wr fun e w' => e = .returned (.bool true) ∧ Left At DS w.heap.size (w.heap.size + 1) w.heap.size (k + 1) wr w' := fun hkk => hst _ _ _ m k v bs own (os k) wr hm hI hb.size hgd (by omega) hok hkk
      have HS : Hid (∃ m v bs own, m ≤ k + 1 ∧ Inv At (DS m) wr w.heap.size (w.heap.size + 1) w.heap.size v bs own ∧ Good bs (k + 1)) := ⟨m, v, bs, own, by omega, hI, hgd.mono (Nat.le_succ _)⟩
      have HB : Hid (Below w.heap.size w wr) := hb
      have HD : Hid (∀ m, Drawn (DS m)) := hD
      have HC : Hid (Serves At 67 73 74 28 34 36 56 35) := hC
      clear hI hgd hst hb hok hz hD hC
      rcases Int.lt_or_le 3 (os k).k with q3 | q3
      · rcases Int.lt_or_le (os k).k lo with ql | ql
        · have d3 : decide (3 < (os k).k) = true := by simpa using q3
          have dl : decide ((os k).k < lo) = true := by simpa using ql
          clear HR
          go_wp2_with fail
          exact ⟨⟨k + 1, by omega, by go_num, HS.out, HB.out⟩, by simp [intOf]; omega⟩
        · rcases Int.lt_or_le hi (os k).k with qh | qh
          · have d3 : decide (3 < (os k).k) = true := by simpa using q3
            have dl : decide ((os k).k < lo) = false := by simpa using ql
            have dh : decide (hi < (os k).k) = true := by simpa using qh
            clear HR
            go_wp2_with fail
            exact ⟨⟨k + 1, by omega, by go_num, HS.out, HB.out⟩, by simp [intOf]; omega⟩
          · have d3 : decide (3 < (os k).k) = true := by simpa using q3
            have dl : decide ((os k).k < lo) = false := by simpa using ql
            have dh : decide (hi < (os k).k) = false := by simpa using qh
            have HRR : Hid (Calls Try.prog 49 #[.pointer (some ⟨w.heap.size + 1, 0, none⟩), opV (os k)] wr fun e w' => e = .returned (.bool true) ∧ Left At DS w.heap.size (w.heap.size + 1) w.heap.size (k + 1) wr w') := HR (.inr ⟨ql, qh⟩)
            clear HR
            go_wp2_with fail
            refine HRR.out.mono ?_
            rintro e w4 ⟨rfl, m4, v4, bs4, own4, hm4, hI4, hg4, hb4⟩
            clear HRR c0 c1 c2 c3 c4 c5 c6 c7 c8 HS
            have cD : w4.cell? ⟨w.heap.size + 1, 1, none⟩ = some (.pointer (some ⟨w.heap.size, 0, none⟩)) := by rw [cell_of_row w4 _ 1 _ 31 (0, 0) hI4.wo]; rfl
            have HL := (HD.out m4).looks hI4.dr
            have HI4 : Hid (Inv At (DS m4) w4 w.heap.size (w.heap.size + 1) w.heap.size v4 bs4 own4) := hI4
            have HB4 : Hid (Below w.heap.size w w4) := HB.out.trans hb4
            clear hI4 hb4 HB
            go_wp2_with fail
            refine HL.mono ?_
            rintro e w5 ⟨rfl, hb5⟩
            have HI5 : Hid (Inv At (DS m4) w5 w.heap.size (w.heap.size + 1) w.heap.size v4 bs4 own4) := HI4.out.quiet HC.out (HD.out m4) hb5
            have HB5 : Hid (Below w.heap.size w w5) := HB4.out.trans (hb5.mono HB4.out.size)
            clear HL HI4 HB4 hb5 cD
            go_wp2_with fail
            exact ⟨⟨k + 1, by omega, by go_num, ⟨m4, v4, bs4, own4, hm4, HI5.out, hg4⟩, HB5.out⟩, by simp [intOf]; omega⟩
      · have d3 : decide (3 < (os k).k) = false := by simpa using q3
        have HRR : Hid (Calls Try.prog 49 #[.pointer (some ⟨w.heap.size + 1, 0, none⟩), opV (os k)] wr fun e w' => e = .returned (.bool true) ∧ Left At DS w.heap.size (w.heap.size + 1) w.heap.size (k + 1) wr w') := HR (.inl q3)
        clear HR
        go_wp2_with fail
        refine HRR.out.mono ?_
        rintro e w4 ⟨rfl, m4, v4, bs4, own4, hm4, hI4, hg4, hb4⟩
        clear HRR c0 c1 c2 c3 c4 c5 c6 c7 c8 HS
        have cD : w4.cell? ⟨w.heap.size + 1, 1, none⟩ = some (.pointer (some ⟨w.heap.size, 0, none⟩)) := by rw [cell_of_row w4 _ 1 _ 31 (0, 0) hI4.wo]; rfl
        have HL := (HD.out m4).looks hI4.dr
        have HI4 : Hid (Inv At (DS m4) w4 w.heap.size (w.heap.size + 1) w.heap.size v4 bs4 own4) := hI4
        have HB4 : Hid (Below w.heap.size w w4) := HB.out.trans hb4
        clear hI4 hb4 HB
        go_wp2_with fail
        refine HL.mono ?_
        rintro e w5 ⟨rfl, hb5⟩
        have HI5 : Hid (Inv At (DS m4) w5 w.heap.size (w.heap.size + 1) w.heap.size v4 bs4 own4) := HI4.out.quiet HC.out (HD.out m4) hb5
        have HB5 : Hid (Below w.heap.size w w5) := HB4.out.trans (hb5.mono HB4.out.size)
        clear HL HI4 HB4 hb5 cD
        go_wp2_with fail
        exact ⟨⟨k + 1, by omega, by go_num, ⟨m4, v4, bs4, own4, hm4, HI5.out, hg4⟩, HB5.out⟩, by simp [intOf]; omega⟩
    · go_wp2_with fail
      go_ret
      exact ⟨rfl, hb⟩
end

end Go.Proofs.Ytpikkedeoebiaaa
