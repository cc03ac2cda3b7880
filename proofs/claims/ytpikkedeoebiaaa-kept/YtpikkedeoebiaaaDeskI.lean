/- Walks of the desk: listed. -/
import Derived.Test.YtpikkedeoebiaaaDeskE
import Derived.Test.YtpikkedeoebiaaaDocH
namespace Go.Proofs.Ytpikkedeoebiaaa
open Go.RowKit
set_option maxRecDepth 100000

theorem OwnV.any {w : World} {B : Nat} {v : Value} {l : List Nat} (h : OwnV w B v l) : ∃ ao cap, v = .slice ao l.length cap ∧ ∀ (k m : Nat), l[k]? = some m → ∃ g, ao = some ⟨g, 0, none⟩ ∧ w.cell? ⟨g, k, none⟩ = some (.int .i64 (m : Int)) := by
  obtain ⟨ao, cap, rfl, hc⟩ := row_any h
  exact ⟨ao, cap, rfl, fun k m hk => hc k _ (by simp [I, hk])⟩

section
variable {M : Nat} {At : World → Nat → Int → Int → Int → List Do.Chg → (Nat → Prop) → Prop} {w w' : World} {dk x : Nat} {a b p : Int} {cs : List Do.Chg} {mv : Int} {vi vd : Value} {F G : Nat → Prop}

set_option maxHeartbeats 2000000 in
theorem dListed_in (hC : Keeps M At 67 73 74 28 34 36 56 35) (n : Nat) (hn : 1 ≤ n ∧ n ≤ 8) (hm : cs.length ≤ M) (hM : M ≤ 9000000000000000) (h : DeskIn At w dk x a b p cs mv vi vd F G) :
    Calls Try.prog 30 #[.pointer (some ⟨dk, 0, none⟩), .int .i64 (n : Int)] w fun e w' => e = .returned (.bool true) ∧ Below w.heap.size w w' := by
  obtain ⟨hn1, hn8⟩ := hn
  have HDK : Hid (∀ W, Below w.heap.size w W → W.cell? ⟨dk, 0, none⟩ = some (.pointer (some ⟨x, 0, none⟩)) ∧ W.cell? ⟨dk, 4, none⟩ = some vi) := fun W hW => ⟨(h.quiet hC hW).blk.c0, (h.quiet hC hW).blk.c4⟩
  have HLI : Hid (∀ W (t : Int) (j : Nat), Below w.heap.size w W → inR t → Do.above (Do.there cs) t = (Do.there cs).drop j → Calls Try.prog 56 #[.pointer (some ⟨x, 0, none⟩), .int .i64 t, .int .i64 (n : Int)] W fun e w' => ∃ v, e = .returned (.tuple #[v, .int .i64 0]) ∧ OwnV w' W.heap.size v ((((Do.there cs).drop j).map (·.id)).take n) ∧ Below W.heap.size W w') := fun W t j hW ht hab => by
    have := hC.list t (n : Int) hm ht (by unfold inR; omega) (h.quiet hC hW).idx
    rw [show lstRes cs t (n : Int) = ((((Do.there cs).drop j).map (·.id)).take n, 0) from by unfold lstRes; rw [if_neg (by omega), Int.toNat_natCast, Do.ids_eq, hab]] at this
    exact this
  obtain ⟨ai, ci, hvi, hri⟩ := row_any h.ri
  have hfew := h.fair.few
  have HRI : Hid (∀ W k c, Below w.heap.size w W → (Do.there cs)[k]? = some c → ∃ g, ai = some ⟨g, 0, none⟩ ∧ W.cell? ⟨g, k, none⟩ = some (.int .i64 (c.id : Int))) := fun W k c hW hc => by
    obtain ⟨g, e1, e2⟩ := hri k _ (show (ID (Do.there cs))[k]? = some (.int .i64 (c.id : Int)) by simp [ID, hc])
    exact ⟨g, e1, (hW.cell (p := ⟨g, k, none⟩) (World.block_lt_of_cell? w _ e2)).trans e2⟩
  have HNX : Hid (∀ j c, (Do.there cs)[j]? = some c → Do.above (Do.there cs) (c.id : Int) = (Do.there cs).drop (j + 1) ∧ c.id ≤ 9000000000000000) := fun j c hc => by
    refine ⟨Do.above_next _ h.fair.rise j c hc, ?_⟩
    have h1 := h.fair.next c (List.mem_of_getElem? hc)
    have h3 := insTo_le cs cs.length
    omega
  have HST : Hid (Do.above (Do.there cs) (-1) = (Do.there cs).drop 0) := by show _ = _; rw [Do.above_start, List.drop_zero]
  rw [hvi] at HDK
  clear h hri hvi
  generalize Do.there cs = L at *
  go_enter Try.func30, Try.ntmps30
  go_wp2_with fail
  go_loopw [5, 6] (fun t at' wr => ∃ (tv : Int) (j : Nat), t = .int .i64 tv ∧ at' = .int .i64 j ∧ j ≤ L.length ∧ inR tv ∧ Do.above L tv = L.drop j ∧ Below w.heap.size w wr) (fun _ at' _ => L.length - (intOf at').toNat)
  case atStart => exact ⟨-1, 0, rfl, rfl, Nat.zero_le _, by unfold inR; omega, HST.out, Below.refl _ _⟩
  case round =>
    obtain ⟨tv, j, rfl, rfl, hj, htv, hab, hb⟩ := hrel
    clear HST
    obtain ⟨c0, c4⟩ := HDK.out wr hb
    have HL1 : Hid (Calls Try.prog 56 #[.pointer (some ⟨x, 0, none⟩), .int .i64 tv, .int .i64 (n : Int)] wr fun e w' => ∃ v, e = .returned (.tuple #[v, .int .i64 0]) ∧ OwnV w' wr.heap.size v (((L.drop j).map (·.id)).take n) ∧ Below wr.heap.size wr w') := HLI.out wr tv j hb htv hab
    have sw := hb.size
    have HAB : Hid (Do.above L tv = L.drop j) := hab
    clear hab
    by_cases hjl : j < L.length
    · have hd1 : decide ((j : Int) < (L.length : Int)) = true := by rw [decide_eq_true_eq]; omega
      go_wp2_with fail
      refine HL1.out.mono ?_
      rintro e w2 ⟨lv, rfl, hl, hb2⟩
      have s2 := hb2.size
      have hbw2 := hb.trans (hb2.mono sw)
      obtain ⟨al, cl, rfl, hlc⟩ := hl.any
      have hq : (((L.drop j).map (·.id)).take n).length = min n (L.length - j) := by rw [List.length_take, List.length_map, List.length_drop]
      have HLC : Hid (∀ i c, i < min n (L.length - j) → L[j + i]? = some c → ∃ g, al = some ⟨g, 0, none⟩ ∧ w2.cell? ⟨g, i, none⟩ = some (.int .i64 (c.id : Int))) := fun i c hi hc => hlc i c.id (by
        rw [List.getElem?_take, if_pos (by omega), List.getElem?_map, List.getElem?_drop, hc]; rfl)
      rw [hq]
      obtain ⟨_, c42⟩ := HDK.out w2 hbw2
      clear hl hlc hq HL1 c0 c4
      generalize hqq : min n (L.length - j) = q at *
      have hq1 : 1 ≤ q := by omega
      have hq2 : q ≤ n := by omega
      have hq3 : j + q ≤ L.length := by omega
      have hd2 : ((q : Int) == 0) = false := by rw [beq_eq_false_iff_ne]; omega
      have hd3 : decide ((n : Int) < (q : Int)) = false := by rw [decide_eq_false_iff_not]; omega
      have hd4 : decide (n < q) = false := by rw [decide_eq_false_iff_not]; omega
      clear hqq
      go_wp2_with fail
      go_loopw [5, 6, 9] (fun t at' i' wr => ∃ (tv : Int) (i : Nat), t = .int .i64 tv ∧ at' = .int .i64 ((j + i : Nat) : Int) ∧ i' = .int .i64 i ∧ i ≤ q ∧ inR tv ∧ Do.above L tv = L.drop (j + i) ∧ ∃ m, wr = w2.drewN m) (fun _ _ i' _ => q - (intOf i').toNat)
      case atStart => exact ⟨tv, 0, rfl, rfl, rfl, Nat.zero_le _, htv, HAB.out, 0, rfl⟩
      case round =>
        obtain ⟨tv2, i, rfl, rfl, rfl, hi, htv2, hab2, m, rfl⟩ := hrel
        have HA2 : Hid (Do.above L tv2 = L.drop (j + i)) := hab2
        clear hab2
        by_cases hiq : i < q
        · obtain ⟨c, hc⟩ : ∃ c, L[j + i]? = some c := ⟨L[j + i]'(by omega), List.getElem?_eq_getElem _⟩
          obtain ⟨gl, rfl, e1⟩ := HLC.out i c hiq hc
          obtain ⟨gi, rfl, e2⟩ := HRI.out w2 (j + i) c hbw2 hc
          obtain ⟨hnx, hcid⟩ := HNX.out (j + i) c hc
          have HN : Hid (Do.above L (c.id : Int) = L.drop (j + i + 1)) := hnx
          have hnn : ((c.id : Int) != (c.id : Int)) = false := by simp
          have hjj : (((j + i : Nat) : Int)) = (j : Int) + (i : Int) := by omega
          have hge : decide ((L.length : Int) ≤ ((j + i : Nat) : Int)) = false := by rw [decide_eq_false_iff_not]; omega
          clear hc hnx HLC HRI HNX HAB HA2 HLI HDK hjj
          generalize hji : j + i = ji at *
          have hjil : ji < L.length := by omega
          go_wp2
          go_quiet (fail)
          go_wp2
          go_roundw
          case rel => exact ⟨(c.id : Int), i + 1, rfl, by rw [← Nat.add_assoc, hji]; go_num, by go_num, by omega, by unfold inR; omega, by rw [← Nat.add_assoc, hji]; exact HN.out, _, rfl⟩
          case measure => simp [intOf]; omega
        · have hie : i = q := by omega
          subst hie
          have HBD : Hid (Below w.heap.size w (w2.drewN m)) := below_drewN hbw2 m
          go_wp2
          go_roundw
          case rel => exact ⟨tv2, j + i, rfl, rfl, by omega, htv2, HA2.out, HBD.out⟩
          case measure => simp [intOf]; omega
    · have hje : j = L.length := by omega
      subst hje
      have hd1 : decide ((L.length : Int) < (L.length : Int)) = false := by simp
      go_wp2_with fail
      refine HL1.out.mono ?_
      rintro e w2 ⟨lv, rfl, hl, hb2⟩
      have e0 : ((L.drop L.length).map (·.id)).take n = [] := by simp
      rw [e0] at hl
      obtain ⟨al, cl, rfl, _⟩ := hl.any
      have hbw2 := hb.trans (hb2.mono sw)
      clear hl
      go_wp2
      go_ret
      exact ⟨by first | rfl | simp, hbw2⟩

theorem dListed_any (hC : Keeps M At 67 73 74 28 34 36 56 35) (n : Nat) (hn : 1 ≤ n ∧ n ≤ 8) (hm : cs.length ≤ M) (hM : M ≤ 9000000000000000) (h : Desk At w dk a b p cs mv G) :
    Calls Try.prog 30 #[.pointer (some ⟨dk, 0, none⟩), .int .i64 (n : Int)] w fun e w' => e = .returned (.bool true) ∧ Below w.heap.size w w' := by
  obtain ⟨x, vi, vd, F, h⟩ := h
  exact dListed_in hC n hn hm hM h
end

end Go.Proofs.Ytpikkedeoebiaaa
