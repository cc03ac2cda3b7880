/- DeskI, KeepE. -/
import Derived.Test.YthkndfkkgncjfaaKeepAJA
import Derived.Test.YthkndfkkgncjfaaFolGJB
namespace Go.Proofs.Ythkndfkkgncjfaa
open Go.RowKit
set_option maxRecDepth 100000

theorem OwnV.any {w : World} {B : Nat} {v : Value} {l : List Nat} (h : OwnV w B v l) : ∃ ao cap, v = .slice ao l.length cap ∧ ∀ (k m : Nat), l[k]? = some m → ∃ g, ao = some ⟨g, 0, none⟩ ∧ w.cell? ⟨g, k, none⟩ = some (.int .i64 (m : Int)) := by
  obtain ⟨ao, cap, rfl, hc⟩ := row_any h
  exact ⟨ao, cap, rfl, fun k m hk => hc k _ (by simp [I, hk])⟩

section
variable {M : Nat} {At : World → Nat → Int → Int → Int → List Do.Chg → (Nat → Prop) → Prop} {w w' : World} {dk x : Nat} {a b p : Int} {cs : List Do.Chg} {mv : Int} {vi vd : Value} {F G : Nat → Prop}

set_option maxHeartbeats 2000000 in
theorem dListed_in (hC : Keeps M At 67 73 74 28 34 36 56 35) (n : Nat) (hn : 1 ≤ n ∧ n ≤ 8) (hm : cs.length ≤ M) (hM : M ≤ 9000000000000000) (h : DeskIn At w dk x a b p cs mv vi vd F G) :
    Calls Try.prog 30 #[.pointer (some ⟨dk, 0, none⟩), .int .i64 (n : Int)] w fun e w' => e = .returned (.bool true) ∧ Below w.heap.size w w' := by
  obtain ⟨hn1, hn8⟩ := hn
  have HDK : Hid (∀ W, Below w.heap.size w W → W.cell? ⟨dk, 0, none⟩ = some (.pointer (some ⟨x, 0, none⟩)) ∧ W.cell? ⟨dk, 4, none⟩ = some vi) := fun W hW => ⟨(h.quiet hC hW).blk.c0, (h.quiet hC hW).blk.c4⟩
  have HLI : Hid (∀ W (t : Int) (j : Nat), Below w.heap.size w W → inR t → Do.above (Do.there cs) t = (Do.there cs).drop j → Calls Try.prog 56 #[.pointer (some ⟨x, 0, none⟩), .int .i64 t, .int .i64 (n : Int)] W fun e w' => ∃ v, e = .returned (.tuple #[v, .int .i64 0]) ∧ OwnV w' W.heap.size v ((((Do.there cs).drop j).map (·.id)).take n) ∧ Below W.heap.size W w') := fun W t j hW ht hab => by
    have := hC.list t (n : Int) hm ht (by unfold inR; omega) (h.quiet hC hW).idx
    rw [show lstRes cs t (n : Int) = ((((Do.there cs).drop j).map (·.id)).take n, 0) from by unfold lstRes; rw [if_neg (by omega), Int.toNat_natCast, Do.ids_eq, hab]] at this
    exact this
  obtain ⟨ai, ci, hvi, hri⟩ := row_any h.ri
  have hfew := h.fair.few
  have HRI : Hid (∀ W k c, Below w.heap.size w W → (Do.there cs)[k]? = some c → ∃ g, ai = some ⟨g, 0, none⟩ ∧ W.cell? ⟨g, k, none⟩ = some (.int .i64 (c.id : Int))) := fun W k c hW hc => by
    obtain ⟨g, e1, e2⟩ := hri k _ (show (ID (Do.there cs))[k]? = some (.int .i64 (c.id : Int)) by simp [ID, hc])
    exact ⟨g, e1, (hW.cell (p := ⟨g, k, none⟩) (World.block_lt_of_cell? w _ e2)).trans e2⟩
  have HNX : Hid (∀ j c, (Do.there cs)[j]? = some c → Do.above (Do.there cs) (c.id : Int) = (Do.there cs).drop (j + 1) ∧ c.id ≤ 9000000000000000) := fun j c hc => by
    refine ⟨Do.above_next _ h.fair.rise j c hc, ?_⟩
    have h1 := h.fair.next c (List.mem_of_getElem? hc)
    have h3 := insTo_le cs cs.length
    omega
  have HST : Hid (Do.above (Do.there cs) (-1) = (Do.there cs).drop 0) := by show _ = _; rw [Do.above_start, List.drop_zero]
  rw [hvi] at HDK
  clear h hri hvi
  generalize Do.there cs = L at *
  go_enter Try.func30, Try.ntmps30
  go_wp2_with fail
  go_loopw [5, 6] (fun t at' wr => ∃ (tv : Int) (j : Nat), t = .int .i64 tv ∧ at' = .int .i64 j ∧ j ≤ L.length ∧ inR tv ∧ Do.above L tv = L.drop j ∧ Below w.heap.size w wr) (fun _ at' _ => L.length - (intOf at').toNat)
  case atStart => exact ⟨-1, 0, rfl, rfl, Nat.zero_le _, by unfold inR; omega, HST.out, Below.refl _ _⟩
  case round =>
    obtain ⟨tv, j, rfl, rfl, hj, htv, hab, hb⟩ := hrel
    clear HST
    obtain ⟨c0, c4⟩ := HDK.out wr hb
    have HL1 : Hid (Calls Try.prog 56 #[.pointer (some ⟨x, 0, none⟩), .int .i64 tv, .int .i64 (n : Int)] wr fun e w' => ∃ v, e = .returned (.tuple #[v, .int .i64 0]) ∧ OwnV w' wr.heap.size v (((L.drop j).map (·.id)).take n) ∧ Below wr.heap.size wr w') := HLI.out wr tv j hb htv hab
    have sw := hb.size
    have HAB : Hid (Do.above L tv = L.drop j) := hab
    clear hab
    by_cases hjl : j < L.length
    · have hd1 : decide ((j : Int) < (L.length : Int)) = true := by rw [decide_eq_true_eq]; omega
      go_wp2_with fail
      refine HL1.out.mono ?_
      rintro e w2 ⟨lv, rfl, hl, hb2⟩
      have s2 := hb2.size
      have hbw2 := hb.trans (hb2.mono sw)
      obtain ⟨al, cl, rfl, hlc⟩ := hl.any
      have hq : (((L.drop j).map (·.id)).take n).length = min n (L.length - j) := by rw [List.length_take, List.length_map, List.length_drop]
      have HLC : Hid (∀ i c, i < min n (L.length - j) → L[j + i]? = some c → ∃ g, al = some ⟨g, 0, none⟩ ∧ w2.cell? ⟨g, i, none⟩ = some (.int .i64 (c.id : Int))) := fun i c hi hc => hlc i c.id (by
        rw [List.getElem?_take, if_pos (by omega), List.getElem?_map, List.getElem?_drop, hc]; rfl)
      rw [hq]
      obtain ⟨_, c42⟩ := HDK.out w2 hbw2
      clear hl hlc hq HL1 c0 c4
      generalize hqq : min n (L.length - j) = q at *
      have hq1 : 1 ≤ q := by omega
      have hq2 : q ≤ n := by omega
      have hq3 : j + q ≤ L.length := by omega
      have hd2 : ((q : Int) == 0) = false := by rw [beq_eq_false_iff_ne]; omega
      have hd3 : decide ((n : Int) < (q : Int)) = false := by rw [decide_eq_false_iff_not]; omega
      have hd4 : decide (n < q) = false := by rw [decide_eq_false_iff_not]; omega
      clear hqq
      go_wp2_with fail
      go_loopw [5, 6, 9] (fun t at' i' wr => ∃ (tv : Int) (i : Nat), t = .int .i64 tv ∧ at' = .int .i64 ((j + i : Nat) : Int) ∧ i' = .int .i64 i ∧ i ≤ q ∧ inR tv ∧ Do.above L tv = L.drop (j + i) ∧ ∃ m, wr = w2.drewN m) (fun _ _ i' _ => q - (intOf i').toNat)
      case atStart => exact ⟨tv, 0, rfl, rfl, rfl, Nat.zero_le _, htv, HAB.out, 0, rfl⟩
      case round =>
        obtain ⟨tv2, i, rfl, rfl, rfl, hi, htv2, hab2, m, rfl⟩ := hrel
        have HA2 : Hid (Do.above L tv2 = L.drop (j + i)) := hab2
        clear hab2
        by_cases hiq : i < q
        · obtain ⟨c, hc⟩ : ∃ c, L[j + i]? = some c := ⟨L[j + i]'(by omega), List.getElem?_eq_getElem _⟩
          obtain ⟨gl, rfl, e1⟩ := HLC.out i c hiq hc
          obtain ⟨gi, rfl, e2⟩ := HRI.out w2 (j + i) c hbw2 hc
          obtain ⟨hnx, hcid⟩ := HNX.out (j + i) c hc
          have HN : Hid (Do.above L (c.id : Int) = L.drop (j + i + 1)) := hnx
          have hnn : ((c.id : Int) != (c.id : Int)) = false := by simp
          have hjj : (((j + i : Nat) : Int)) = (j : Int) + (i : Int) := by omega
          have hge : decide ((L.length : Int) ≤ ((j + i : Nat) : Int)) = false := by rw [decide_eq_false_iff_not]; omega
          clear hc hnx HLC HRI HNX HAB HA2 HLI HDK hjj
          generalize hji : j + i = ji at *
          have hjil : ji < L.length := by omega
          go_wp2
          go_quiet (fail)
          go_wp2
          go_roundw
          case rel => exact ⟨(c.id : Int), i + 1, rfl, by rw [← Nat.add_assoc, hji]; go_num, by go_num, by omega, by unfold inR; omega, by rw [← Nat.add_assoc, hji]; exact HN.out, _, rfl⟩
          case measure => simp [intOf]; omega
        · have hie : i = q := by omega
          subst hie
          have HBD : Hid (Below w.heap.size w (w2.drewN m)) := below_drewN hbw2 m
          go_wp2
          go_roundw
          case rel => exact ⟨tv2, j + i, rfl, rfl, by omega, htv2, HA2.out, HBD.out⟩
          case measure => simp [intOf]; omega
    · have hje : j = L.length := by omega
      subst hje
      have hd1 : decide ((L.length : Int) < (L.length : Int)) = false := by simp
      go_wp2_with fail
      refine HL1.out.mono ?_
      rintro e w2 ⟨lv, rfl, hl, hb2⟩
      have e0 : ((L.drop L.length).map (·.id)).take n = [] := by simp
      rw [e0] at hl
      obtain ⟨al, cl, rfl, _⟩ := hl.any
      have hbw2 := hb.trans (hb2.mono sw)
      clear hl
      go_wp2
      go_ret
      exact ⟨by first | rfl | simp, hbw2⟩

theorem dListed_any (hC : Keeps M At 67 73 74 28 34 36 56 35) (n : Nat) (hn : 1 ≤ n ∧ n ≤ 8) (hm : cs.length ≤ M) (hM : M ≤ 9000000000000000) (h : Desk At w dk a b p cs mv G) :
    Calls Try.prog 30 #[.pointer (some ⟨dk, 0, none⟩), .int .i64 (n : Int)] w fun e w' => e = .returned (.bool true) ∧ Below w.heap.size w w' := by
  obtain ⟨x, vi, vd, F, h⟩ := h
  exact dListed_in hC n hn hm hM h
end

end Go.Proofs.Ythkndfkkgncjfaa

namespace Go.Proofs.Ythkndfkkgncjfaa
open Go.RowKit
set_option maxRecDepth 100000

section
variable {M : Nat} {At : World → Nat → Int → Int → Int → List Do.Chg → (Nat → Prop) → Prop}

theorem one_step' {B dk : Nat} {w w1 : World} {a b p : Int} {cs' : List Do.Chg} {mv' : Int} {G : Nat → Prop} (hB : B ≤ w.heap.size) (hG : ∀ k, G k → B ≤ k) (hm : Moved At dk a b p cs' mv' G w w1) : (∃ G', Desk At w1 dk a b p cs' mv' G' ∧ ∀ k, G' k → B ≤ k) ∧ Below B w w1 := by
  obtain ⟨ho, G', hd, hk⟩ := hm
  exact ⟨⟨G', hd, fun k h => (hk k h).elim (hG k) (fun h => by omega)⟩, ho.os, ho.tape, ho.output, ho.size, fun k hk' => ho.block k (by omega) (fun h => by have := hG k h; omega)⟩

/-- what Extract answers of a document that is there -/
theorem ex_there (cs : List Do.Chg) (hf : Fair cs) (i : Nat) (c : Do.Chg) (hc : (Do.there cs)[i]? = some c) (f t : Int) : exRes (Do.there cs) (c.id : Int) f t = if f < 0 ∨ t < f ∨ (c.doc.size : Int) < t then (⟨#[]⟩, 7) else (c.doc.extract f.toNat t.toNat, 0) := by
  unfold exRes
  rw [Do.at_rise _ hf.rise i c hc]
  simp only [hc]
theorem ex_none (cs : List Do.Chg) (hf : Fair cs) (f t : Int) : exRes (Do.there cs) ((insTo cs cs.length : Nat) : Int) f t = (⟨#[]⟩, 4) := by
  unfold exRes
  rw [Do.at_next _ _ hf.next]
theorem ext_whole (s : ByteArray) : s.extract 0 s.size = s := by
  have h := Lib.extract_data s 0 s.size
  have : (s.extract 0 s.size).data.toList = s.data.toList := by
    rw [h, List.drop_zero, Nat.sub_zero, List.take_of_length_le (by rw [size_len]; omega)]
  cases s with
  | mk d =>
    cases hx : (ByteArray.mk d).extract 0 (ByteArray.mk d).size with
    | mk e =>
      rw [hx] at this
      simp at this
      rw [this]

set_option maxHeartbeats 4000000 in
theorem kept_law (hC : Keeps M At 67 73 74 28 34 36 56 35) (hM : M ≤ 9000000000000000) (a b p n : Int) (ha : inR a) (hb : inR b) (hp : inR p) (hn : inR n) (sv : Value) (len : Nat) (os : Nat → StV) (w : World) (hsc : Steps3 w sv len os) (hlen : len < M) :
    Calls Try.prog 12 #[.agg #[.int .i64 a, .int .i64 b, .int .i64 p], sv, .int .i64 n] w fun e w' => e = .returned (.bool true) ∧ Below w.heap.size w w' := by
  obtain ⟨a0, cap, rfl, hst⟩ := hsc
  have HST : Hid (∀ k, k < len → ∃ gb off, a0 = some ⟨gb, off, none⟩ ∧ (os k).ok ∧ ∀ j u, (stCells (os k))[j]? = some u → w.cell? ⟨gb, off + k * 3 + j, none⟩ = some u) := hst
  clear hst
  go_enter Try.func12, Try.ntmps12
  go_wp2_with fail
  have hb0 : Below w.heap.size w (w.alloc (.cells #[.int .i64 a, .int .i64 b, .int .i64 p] 51)) := (Below.refl _ _).alloc (Nat.le_refl _) _
  have hs0 : (w.alloc (.cells #[.int .i64 a, .int .i64 b, .int .i64 p] 51)).heap.size = w.heap.size + 1 := by simp
  generalize w.alloc (.cells #[.int .i64 a, .int .i64 b, .int .i64 p] 51) = w0 at *
  refine (kseated_any hC a b p ha hb hp _).mono ?_
  rintro e w1 ⟨dk, G, rfl, hd, hG, hb1⟩
  have s1 := hb1.size
  have HD0 : Hid (∃ mv G, Desk At w1 dk (cA a) (cB b) (cP p) (csAt (cA a) os 0) mv G ∧ ∀ k, G k → w.heap.size ≤ k) := ⟨0, G, hd, fun k hk => by have := hG k hk; omega⟩
  have HB1 : Hid (Below w.heap.size w w1) := hb0.trans (hb1.mono (by omega))
  clear hd hG hb0 hb1
  generalize cA a = A at *
  generalize cB b = b1 at *
  generalize cP p = p1 at *
  go_wp2_with fail
  go_loopw [8] (fun i wr => ∃ k : Nat, k ≤ len ∧ i = .int .i64 k ∧ (∃ mv G, Desk At wr dk A b1 p1 (csAt A os k) mv G ∧ ∀ k, G k → w.heap.size ≤ k) ∧ Below w.heap.size w wr) (fun i _ => len - (intOf i).toNat)
  case atStart => exact ⟨0, Nat.zero_le _, rfl, HD0.out, HB1.out⟩
  case round =>
    obtain ⟨k, hk, rfl, hdd, hbw⟩ := hrel
    clear HD0 HB1
    have hcl := csAt_len A os k
    have sw := hbw.size
    obtain ⟨mv, G1, hd, hG⟩ := hdd
    by_cases hlt : k < len
    · obtain ⟨gb, off, rfl, hok, hcs⟩ := HST.out k hlt
      have hal : gb < w.heap.size := World.block_lt_of_cell? w ⟨gb, off + k * 3 + 0, none⟩ (hcs 0 _ rfl)
      have y0 : wr.cell? ⟨gb, off + k * 3, none⟩ = some (.int .i64 (os k).k) := (hbw.cell (p := ⟨gb, off + k * 3 + 0, none⟩) hal).trans (hcs 0 _ rfl)
      have y1 : wr.cell? ⟨gb, off + k * 3 + 1, none⟩ = some (.int .i64 (os k).a) := (hbw.cell (p := ⟨gb, off + k * 3 + 1, none⟩) hal).trans (hcs 1 _ rfl)
      have y2 : wr.cell? ⟨gb, off + k * 3 + 2, none⟩ = some (.string (os k).s) := (hbw.cell (p := ⟨gb, off + k * 3 + 2, none⟩) hal).trans (hcs 2 _ rfl)
      have HS1 : Hid (Calls Try.prog 27 #[.pointer (some ⟨dk, 0, none⟩), .agg #[.int .i64 (os k).k, .int .i64 (os k).a, .string (os k).s]] wr fun e w' => e = .returned (.bool true) ∧ ∃ mv', Moved At dk A b1 p1 (csAt A os (k + 1)) mv' G1 wr w') := dStep_any hC (os k) hok (by omega) hM hd
      clear hcs hd
      go_wp2_with fail
      refine HS1.out.mono ?_
      rintro e wa ⟨rfl, mv1, hmo⟩
      obtain ⟨hd2, hb2⟩ := one_step' sw hG hmo
      have HN : Hid (∃ mv G, Desk At wa dk A b1 p1 (csAt A os (k + 1)) mv G ∧ ∀ k, G k → w.heap.size ≤ k) := by
        obtain ⟨G2, q1, q2⟩ := hd2
        exact ⟨mv1, G2, q1, q2⟩
      have HB2 : Hid (Below w.heap.size w wa) := hbw.trans hb2
      clear HS1 hmo hd2 hb2 y0 y1 y2 hbw
      go_wp2_with fail
      exact ⟨⟨k + 1, by omega, by go_num, HN.out, HB2.out⟩, by simp [intOf]; omega⟩
    · have hke : k = len := by omega
      subst hke
      have hkl : decide ((k : Int) < (k : Int)) = false := by simp
      obtain ⟨x, vi, vd, F, hI⟩ := hd
      have HDK : Hid (∀ W, Below wr.heap.size wr W → DeskIn At W dk x A b1 p1 (csAt A os k) mv vi vd F G1) := fun W hW => hI.quiet hC hW
      have HBW : Hid (Below w.heap.size w wr) := hbw
      have hfew := hI.fair.few
      have HFA : Hid (Fair (csAt A os k)) := hI.fair
      have hit := insTo_le (csAt A os k) (csAt A os k).length
      clear hI hG hbw
      generalize csAt A os k = cs at *
      obtain ⟨wo, hwo⟩ : ∃ wo, wo = wr := ⟨_, rfl⟩
      subst hwo
      go_wp2_with fail
      go_loopw [10] (fun i wr => ∃ j : Nat, j ≤ (Do.there cs).length ∧ i = .int .i64 j ∧ Below wo.heap.size wo wr) (fun i _ => (Do.there cs).length - (intOf i).toNat)
      case atStart => exact ⟨0, Nat.zero_le _, rfl, Below.refl _ _⟩
      case round =>
        obtain ⟨j, hj, rfl, hb1⟩ := hrel
        have hI := HDK.out wr hb1
        have sw1 := hb1.size
        obtain ⟨ai, ci, hvi, hri⟩ := row_any hI.ri
        obtain ⟨ad, cd, hvd, hrd⟩ := row_any hI.rd
        have c0 := hI.blk.c0
        have c4 := hI.blk.c4
        have c5 := hI.blk.c5
        rw [hvi] at c4
        rw [hvd] at c5
        by_cases hjl : j < (Do.there cs).length
        · obtain ⟨c, hc⟩ : ∃ c, (Do.there cs)[j]? = some c := ⟨(Do.there cs)[j], List.getElem?_eq_getElem hjl⟩
          obtain ⟨gi, rfl, e4⟩ := hri j (.int .i64 (c.id : Int)) (by simp [ID, hc])
          obtain ⟨gd, rfl, e5⟩ := hrd j (.string c.doc) (by simp [SD, hc])
          have hcd := hI.fair.docs c (List.mem_of_getElem? hc)
          have hcid := hI.fair.next c (List.mem_of_getElem? hc)
          have HCE : Hid (∀ W, Below wr.heap.size wr W → W.cell? ⟨dk, 0, none⟩ = some (.pointer (some ⟨x, 0, none⟩)) ∧ W.cell? ⟨dk, 4, none⟩ = some (.slice (some ⟨gi, 0, none⟩) (Do.there cs).length ci) ∧ W.cell? ⟨dk, 5, none⟩ = some (.slice (some ⟨gd, 0, none⟩) (Do.there cs).length cd) ∧ W.cell? ⟨gi, j, none⟩ = some (.int .i64 (c.id : Int)) ∧ W.cell? ⟨gd, j, none⟩ = some (.string c.doc)) := fun W hW =>
            ⟨(hW.cell (p := ⟨dk, 0, none⟩) (World.block_lt_of_cell? wr _ c0)).trans c0, (hW.cell (p := ⟨dk, 4, none⟩) (World.block_lt_of_cell? wr _ c4)).trans c4, (hW.cell (p := ⟨dk, 5, none⟩) (World.block_lt_of_cell? wr _ c5)).trans c5, (hW.cell (p := ⟨gi, j, none⟩) (World.block_lt_of_cell? wr _ e4)).trans e4, (hW.cell (p := ⟨gd, j, none⟩) (World.block_lt_of_cell? wr _ e5)).trans e5⟩
          have HEX : Hid (∀ (f t : Int) W, inR f → inR t → Below wr.heap.size wr W → Calls Try.prog 28 #[.pointer (some ⟨x, 0, none⟩), .int .i64 (c.id : Int), .int .i64 f, .int .i64 t] W fun e w' => e = .returned (.tuple #[.string (exRes (Do.there cs) (c.id : Int) f t).1, .int .i64 (exRes (Do.there cs) (c.id : Int) f t).2]) ∧ Below W.heap.size W w') := fun f t W h1 h2 hW => hC.extract (c.id : Int) f t (by omega) (by unfold inR; omega) h1 h2 (HDK.out W (hb1.trans (hW.mono sw1))).idx
          have HEQ : Hid (∀ f t : Int, exRes (Do.there cs) (c.id : Int) f t = if f < 0 ∨ t < f ∨ (c.doc.size : Int) < t then (⟨#[]⟩, 7) else (c.doc.extract f.toNat t.toNat, 0)) := fun f t => ex_there cs HFA.out j c hc f t
          have HX1 : Hid (∀ W, Below wr.heap.size wr W → Calls Try.prog 28 #[.pointer (some ⟨x, 0, none⟩), .int .i64 (c.id : Int), .int .i64 0, .int .i64 (c.doc.size : Int)] W fun e w' => e = .returned (.tuple #[.string c.doc, .int .i64 0]) ∧ Below W.heap.size W w') := fun W hW => by
            have := HEX.out 0 (c.doc.size : Int) W (by unfold inR; omega) (by unfold inR; omega) hW
            rw [HEQ.out, if_neg (by omega), Int.toNat_natCast, Int.toNat_zero, ext_whole] at this
            exact this
          have HX2 : Hid (∀ W, Below wr.heap.size wr W → Calls Try.prog 28 #[.pointer (some ⟨x, 0, none⟩), .int .i64 (c.id : Int), .int .i64 0, .int .i64 ((c.doc.size : Int) + 1)] W fun e w' => e = .returned (.tuple #[.string ⟨#[]⟩, .int .i64 7]) ∧ Below W.heap.size W w') := fun W hW => by
            have := HEX.out 0 ((c.doc.size : Int) + 1) W (by unfold inR; omega) (by unfold inR; omega) hW
            rw [HEQ.out, if_pos (by omega)] at this
            exact this
          have hwr : IntKind.i64.wrap ((c.doc.size : Int) + 1) = (c.doc.size : Int) + 1 := by rw [IntKind.wrap_i64]; omega
          have hdj : decide ((j : Int) < ((Do.there cs).length : Int)) = true := by rw [decide_eq_true_eq]; omega
          have hjl' : (j : Int) < ((Do.there cs).length : Int) := by omega
          clear hri hrd hvi hvd hI hc
          go_wp2_with fail
          refine wp_region_held_drew (S := fun w' => w'.cell? ⟨dk, 0, none⟩ = some (.pointer (some ⟨x, 0, none⟩)) ∧ w'.cell? ⟨dk, 4, none⟩ = some (.slice (some ⟨gi, 0, none⟩) (Do.there cs).length ci) ∧ w'.cell? ⟨dk, 5, none⟩ = some (.slice (some ⟨gd, 0, none⟩) (Do.there cs).length cd) ∧ w'.cell? ⟨gi, j, none⟩ = some (.int .i64 (c.id : Int)) ∧ w'.cell? ⟨gd, j, none⟩ = some (.string c.doc)) (by kernel_rfl) ⟨c0, c4, c5, e4, e5⟩ (fun hHeld => ?_)
          refine wpAnyH_take (i := 0) (v := ?t1_0) rfl (by kernel_rfl) (by kernel_rfl) (by kernel_rfl) (fun _ _ _ h => h) (Or.inl ⟨by rfl, ?hyt1_0⟩) (by assumption) ?restt1_0
          case hyt1_0 => intro w hSw; (try dsimp only at hSw); go_simp; (try with_reducible rfl)
          simp only [Act.put]
          refine wpAnyH_take (i := 1) (v := ?t1_1) rfl (by kernel_rfl) (by kernel_rfl) (by kernel_rfl) (fun _ _ _ h => h) (Or.inl ⟨by rfl, ?hyt1_1⟩) (by assumption) ?restt1_1
          case hyt1_1 => intro w hSw; (try dsimp only at hSw); go_simp; (try with_reducible rfl)
          simp only [Act.put]
          refine wpAnyH_take (i := 2) (v := ?t1_2) rfl (by kernel_rfl) (by kernel_rfl) (by kernel_rfl) (fun _ _ _ h => h) (Or.inl ⟨by rfl, ?hyt1_2⟩) (by assumption) ?restt1_2
          case hyt1_2 => intro w hSw; (try dsimp only at hSw); go_simp; (try with_reducible rfl)
          simp only [Act.put]
          refine wpAnyH_take (i := 3) (v := ?t1_3) rfl (by kernel_rfl) (by kernel_rfl) (by kernel_rfl) (fun _ _ _ h => h) (Or.inl ⟨by rfl, ?hyt1_3⟩) (by assumption) ?restt1_3
          case hyt1_3 => intro w hSw; (try dsimp only at hSw); go_simp; (try with_reducible rfl)
          simp only [Act.put]
          refine wpAnyH_take (i := 4) (v := ?t1_4) rfl (by kernel_rfl) (by kernel_rfl) (by kernel_rfl) (fun _ _ _ h => h) (Or.inl ⟨by rfl, ?hyt1_4⟩) (by assumption) ?restt1_4
          case hyt1_4 => intro w hSw; (try dsimp only at hSw); go_simp; (try with_reducible rfl)
          simp only [Act.put]
          refine wpAnyH_take (i := 5) (v := ?t1_5) rfl (by kernel_rfl) (by kernel_rfl) (by kernel_rfl) (fun _ _ _ h => h) (Or.inl ⟨by rfl, ?hyt1_5⟩) (by assumption) ?restt1_5
          case hyt1_5 => intro w hSw; (try dsimp only at hSw); go_simp; (try with_reducible rfl)
          simp only [Act.put]
          refine wpAnyH_take (i := 6) (v := ?t1_6) rfl (by kernel_rfl) (by kernel_rfl) (by kernel_rfl) (fun _ _ _ h => h) (Or.inl ⟨by rfl, ?hyt1_6⟩) (by assumption) ?restt1_6
          case hyt1_6 => intro w hSw; (try dsimp only at hSw); go_simp; (try with_reducible rfl)
          simp only [Act.put]
          refine wpAnyH_take (i := 7) (v := ?t1_7) rfl (by kernel_rfl) (by kernel_rfl) (by kernel_rfl) (fun _ _ _ h => h) (Or.inl ⟨by rfl, ?hyt1_7⟩) (by assumption) ?restt1_7
          case hyt1_7 => intro w hSw; (try dsimp only at hSw); go_simp; (try with_reducible rfl)
          simp only [Act.put]
          refine wpAnyH_take (i := 8) (v := ?t1_8) rfl (by kernel_rfl) (by kernel_rfl) (by kernel_rfl) (fun _ _ _ h => h) (Or.inl ⟨by rfl, ?hyt1_8⟩) (by assumption) ?restt1_8
          case hyt1_8 => intro w hSw; (try dsimp only at hSw); go_simp; (try with_reducible rfl)
          simp only [Act.put]
          refine wpAnyH_take (i := 9) (v := ?t1_9) rfl (by kernel_rfl) (by kernel_rfl) (by kernel_rfl) (fun _ _ _ h => h) (Or.inl ⟨by rfl, ?hyt1_9⟩) (by assumption) ?restt1_9
          case hyt1_9 => intro w hSw; (try dsimp only at hSw); go_simp; (try with_reducible rfl)
          simp only [Act.put]
          refine wpAnyH_take (i := 10) (v := ?t1_10) rfl (by kernel_rfl) (by kernel_rfl) (by kernel_rfl) (fun _ _ _ h => h) (Or.inl ⟨by rfl, ?hyt1_10⟩) (by assumption) ?restt1_10
          case hyt1_10 => intro w hSw; (try dsimp only at hSw); go_simp; (try with_reducible rfl)
          simp only [Act.put]
          refine wpAnyH_take (i := 11) (v := ?t1_11) rfl (by kernel_rfl) (by kernel_rfl) (by kernel_rfl) (fun _ _ _ h => h) (Or.inl ⟨by rfl, ?hyt1_11⟩) (by assumption) ?restt1_11
          case hyt1_11 => intro w hSw; (try dsimp only at hSw); go_simp; (try with_reducible rfl)
          simp only [Act.put]
          refine wpAnyH_take (i := 12) (v := ?t1_12) rfl (by kernel_rfl) (by kernel_rfl) (by kernel_rfl) (fun _ _ _ h => h) (Or.inl ⟨by rfl, ?hyt1_12⟩) (by assumption) ?restt1_12
          case hyt1_12 => intro w hSw; (try dsimp only at hSw); go_simp; (try with_reducible rfl)
          simp only [Act.put]
          refine wpAnyH_take (i := 13) (v := ?t1_13) rfl (by kernel_rfl) (by kernel_rfl) (by kernel_rfl) (fun _ _ _ h => h) (Or.inl ⟨by rfl, ?hyt1_13⟩) (by assumption) ?restt1_13
          case hyt1_13 => intro w hSw; (try dsimp only at hSw); go_simp; (try with_reducible rfl)
          simp only [Act.put]
          refine wpAnyH_take (i := 14) (v := ?t1_14) rfl (by kernel_rfl) (by kernel_rfl) (by kernel_rfl) (fun _ _ _ h => h) (Or.inl ⟨by rfl, ?hyt1_14⟩) (by assumption) ?restt1_14
          case hyt1_14 => intro w hSw; (try dsimp only at hSw); go_simp; (try with_reducible rfl)
          simp only [Act.put]
          refine wpAnyH_take (i := 15) (v := ?t1_15) rfl (by kernel_rfl) (by kernel_rfl) (by kernel_rfl) (fun _ _ _ h => h) (Or.inl ⟨by rfl, ?hyt1_15⟩) (by assumption) ?restt1_15
          case hyt1_15 => intro w hSw; (try dsimp only at hSw); go_simp; (try with_reducible rfl)
          simp only [Act.put]
          refine wpAnyH_take (i := 16) (v := ?t1_16) rfl (by kernel_rfl) (by kernel_rfl) (by kernel_rfl) (fun _ _ _ h => h) (Or.inl ⟨by rfl, ?hyt1_16⟩) (by assumption) ?restt1_16
          case hyt1_16 => intro w hSw; (try dsimp only at hSw); go_simp; (try with_reducible rfl)
          simp only [Act.put]
          refine wpAnyH_take (i := 17) (v := ?t1_17) rfl (by kernel_rfl) (by kernel_rfl) (by kernel_rfl) (fun _ _ _ h => h) (Or.inl ⟨by rfl, ?hyt1_17⟩) (by assumption) ?restt1_17
          case hyt1_17 => intro w hSw; (try dsimp only at hSw); go_simp; (try with_reducible rfl)
          simp only [Act.put]
          refine wpAnyH_take (i := 18) (v := ?t1_18) rfl (by kernel_rfl) (by kernel_rfl) (by kernel_rfl) (fun _ _ _ h => h) (Or.inl ⟨by rfl, ?hyt1_18⟩) (by assumption) ?restt1_18
          case hyt1_18 => intro w hSw; (try dsimp only at hSw); go_simp; (try with_reducible rfl)
          simp only [Act.put]
          refine wpAnyH_ready (rs := [19]) (by kernel_rfl) (by simp) ?_
          refine AllReadyH.cons rfl (fun K hK => ?_) AllReadyH.nil
          go_simp
          refine (HX1.out _ ((Below.refl _ _).drew)).mono ?_
          rintro e wa ⟨rfl, ba'⟩
          have ba : Below wr.heap.size wr wa := ((Below.refl wr.heap.size wr).drew).trans ba'
          have sa := ba.size
          refine hK.out _ _ (HCE.out wa ba) (fun hHeld => ?_)
          clear hK K ba'
          refine wpAnyH_take (i := 20) (v := ?t2_20) rfl (by kernel_rfl) (by kernel_rfl) (by kernel_rfl) (fun _ _ _ h => h) (Or.inl ⟨by rfl, ?hyt2_20⟩) (by assumption) ?restt2_20
          case hyt2_20 => intro w hSw; (try dsimp only at hSw); go_simp; (try with_reducible rfl)
          simp only [Act.put]
          refine wpAnyH_take (i := 21) (v := ?t2_21) rfl (by kernel_rfl) (by kernel_rfl) (by kernel_rfl) (fun _ _ _ h => h) (Or.inl ⟨by rfl, ?hyt2_21⟩) (by assumption) ?restt2_21
          case hyt2_21 => intro w hSw; (try dsimp only at hSw); go_simp; (try with_reducible rfl)
          simp only [Act.put]
          refine wpAnyH_take (i := 22) (v := ?t2_22) rfl (by kernel_rfl) (by kernel_rfl) (by kernel_rfl) (fun _ _ _ h => h) (Or.inl ⟨by rfl, ?hyt2_22⟩) (by assumption) ?restt2_22
          case hyt2_22 => intro w hSw; (try dsimp only at hSw); go_simp; (try with_reducible rfl)
          simp only [Act.put]
          refine wpAnyH_ready (rs := [23]) (by kernel_rfl) (by simp) ?_
          refine AllReadyH.cons rfl (fun K hK => ?_) AllReadyH.nil
          go_simp
          refine hK.out _ _ hHeld (fun hHeld => ?_)
          clear hK K
          refine wpAnyH_ready (rs := [24]) (by kernel_rfl) (by simp) ?_
          refine AllReadyH.cons rfl (fun K hK => ?_) AllReadyH.nil
          go_simp
          refine hK.out _ _ hHeld (fun hHeld => ?_)
          clear hK K
          refine wpAnyH_done (by kernel_rfl) ?_ _
          clear c0 c4 c5 e4 e5 hHeld
          go_wp2_with fail
          refine wp_region_held_drew (S := fun w' => w'.cell? ⟨dk, 0, none⟩ = some (.pointer (some ⟨x, 0, none⟩)) ∧ w'.cell? ⟨dk, 4, none⟩ = some (.slice (some ⟨gi, 0, none⟩) (Do.there cs).length ci) ∧ w'.cell? ⟨dk, 5, none⟩ = some (.slice (some ⟨gd, 0, none⟩) (Do.there cs).length cd) ∧ w'.cell? ⟨gi, j, none⟩ = some (.int .i64 (c.id : Int)) ∧ w'.cell? ⟨gd, j, none⟩ = some (.string c.doc)) (by kernel_rfl) (HCE.out wa ba) (fun hHeld => ?_)
          refine wpAnyH_take (i := 0) (v := ?t101_0) rfl (by kernel_rfl) (by kernel_rfl) (by kernel_rfl) (fun _ _ _ h => h) (Or.inl ⟨by rfl, ?hyt101_0⟩) (by assumption) ?restt101_0
          case hyt101_0 => intro w hSw; (try dsimp only at hSw); go_simp; (try with_reducible rfl)
          simp only [Act.put]
          refine wpAnyH_take (i := 1) (v := ?t101_1) rfl (by kernel_rfl) (by kernel_rfl) (by kernel_rfl) (fun _ _ _ h => h) (Or.inl ⟨by rfl, ?hyt101_1⟩) (by assumption) ?restt101_1
          case hyt101_1 => intro w hSw; (try dsimp only at hSw); go_simp; (try with_reducible rfl)
          simp only [Act.put]
          refine wpAnyH_take (i := 2) (v := ?t101_2) rfl (by kernel_rfl) (by kernel_rfl) (by kernel_rfl) (fun _ _ _ h => h) (Or.inl ⟨by rfl, ?hyt101_2⟩) (by assumption) ?restt101_2
          case hyt101_2 => intro w hSw; (try dsimp only at hSw); go_simp; (try with_reducible rfl)
          simp only [Act.put]
          refine wpAnyH_take (i := 3) (v := ?t101_3) rfl (by kernel_rfl) (by kernel_rfl) (by kernel_rfl) (fun _ _ _ h => h) (Or.inl ⟨by rfl, ?hyt101_3⟩) (by assumption) ?restt101_3
          case hyt101_3 => intro w hSw; (try dsimp only at hSw); go_simp; (try with_reducible rfl)
          simp only [Act.put]
          refine wpAnyH_take (i := 4) (v := ?t101_4) rfl (by kernel_rfl) (by kernel_rfl) (by kernel_rfl) (fun _ _ _ h => h) (Or.inl ⟨by rfl, ?hyt101_4⟩) (by assumption) ?restt101_4
          case hyt101_4 => intro w hSw; (try dsimp only at hSw); go_simp; (try with_reducible rfl)
          simp only [Act.put]
          refine wpAnyH_take (i := 5) (v := ?t101_5) rfl (by kernel_rfl) (by kernel_rfl) (by kernel_rfl) (fun _ _ _ h => h) (Or.inl ⟨by rfl, ?hyt101_5⟩) (by assumption) ?restt101_5
          case hyt101_5 => intro w hSw; (try dsimp only at hSw); go_simp; (try with_reducible rfl)
          simp only [Act.put]
          refine wpAnyH_take (i := 6) (v := ?t101_6) rfl (by kernel_rfl) (by kernel_rfl) (by kernel_rfl) (fun _ _ _ h => h) (Or.inl ⟨by rfl, ?hyt101_6⟩) (by assumption) ?restt101_6
          case hyt101_6 => intro w hSw; (try dsimp only at hSw); go_simp; (try with_reducible rfl)
          simp only [Act.put]
          refine wpAnyH_take (i := 7) (v := ?t101_7) rfl (by kernel_rfl) (by kernel_rfl) (by kernel_rfl) (fun _ _ _ h => h) (Or.inl ⟨by rfl, ?hyt101_7⟩) (by assumption) ?restt101_7
          case hyt101_7 => intro w hSw; (try dsimp only at hSw); go_simp; (try with_reducible rfl)
          simp only [Act.put]
          refine wpAnyH_take (i := 8) (v := ?t101_8) rfl (by kernel_rfl) (by kernel_rfl) (by kernel_rfl) (fun _ _ _ h => h) (Or.inl ⟨by rfl, ?hyt101_8⟩) (by assumption) ?restt101_8
          case hyt101_8 => intro w hSw; (try dsimp only at hSw); go_simp; (try with_reducible rfl)
          simp only [Act.put]
          refine wpAnyH_take (i := 9) (v := ?t101_9) rfl (by kernel_rfl) (by kernel_rfl) (by kernel_rfl) (fun _ _ _ h => h) (Or.inl ⟨by rfl, ?hyt101_9⟩) (by assumption) ?restt101_9
          case hyt101_9 => intro w hSw; (try dsimp only at hSw); go_simp; (try with_reducible rfl)
          simp only [Act.put]
          refine wpAnyH_take (i := 10) (v := ?t101_10) rfl (by kernel_rfl) (by kernel_rfl) (by kernel_rfl) (fun _ _ _ h => h) (Or.inl ⟨by rfl, ?hyt101_10⟩) (by assumption) ?restt101_10
          case hyt101_10 => intro w hSw; (try dsimp only at hSw); go_simp; (try with_reducible rfl)
          simp only [Act.put]
          refine wpAnyH_take (i := 11) (v := ?t101_11) rfl (by kernel_rfl) (by kernel_rfl) (by kernel_rfl) (fun _ _ _ h => h) (Or.inl ⟨by rfl, ?hyt101_11⟩) (by assumption) ?restt101_11
          case hyt101_11 => intro w hSw; (try dsimp only at hSw); go_simp; (try with_reducible rfl)
          simp only [Act.put]
          refine wpAnyH_take (i := 12) (v := ?t101_12) rfl (by kernel_rfl) (by kernel_rfl) (by kernel_rfl) (fun _ _ _ h => h) (Or.inl ⟨by rfl, ?hyt101_12⟩) (by assumption) ?restt101_12
          case hyt101_12 => intro w hSw; (try dsimp only at hSw); go_simp; (try with_reducible rfl)
          simp only [Act.put]
          refine wpAnyH_take (i := 13) (v := ?t101_13) rfl (by kernel_rfl) (by kernel_rfl) (by kernel_rfl) (fun _ _ _ h => h) (Or.inl ⟨by rfl, ?hyt101_13⟩) (by assumption) ?restt101_13
          case hyt101_13 => intro w hSw; (try dsimp only at hSw); go_simp; (try with_reducible rfl)
          simp only [Act.put]
          refine wpAnyH_take (i := 14) (v := ?t101_14) rfl (by kernel_rfl) (by kernel_rfl) (by kernel_rfl) (fun _ _ _ h => h) (Or.inl ⟨by rfl, ?hyt101_14⟩) (by assumption) ?restt101_14
          case hyt101_14 => intro w hSw; (try dsimp only at hSw); go_simp; (try with_reducible rfl)
          simp only [Act.put]
          refine wpAnyH_take (i := 15) (v := ?t101_15) rfl (by kernel_rfl) (by kernel_rfl) (by kernel_rfl) (fun _ _ _ h => h) (Or.inl ⟨by rfl, ?hyt101_15⟩) (by assumption) ?restt101_15
          case hyt101_15 => intro w hSw; (try dsimp only at hSw); go_simp; (try with_reducible rfl)
          simp only [Act.put]
          refine wpAnyH_take (i := 16) (v := ?t101_16) rfl (by kernel_rfl) (by kernel_rfl) (by kernel_rfl) (fun _ _ _ h => h) (Or.inl ⟨by rfl, ?hyt101_16⟩) (by assumption) ?restt101_16
          case hyt101_16 => intro w hSw; (try dsimp only at hSw); go_simp; (try with_reducible rfl)
          simp only [Act.put]
          refine wpAnyH_take (i := 17) (v := ?t101_17) rfl (by kernel_rfl) (by kernel_rfl) (by kernel_rfl) (fun _ _ _ h => h) (Or.inl ⟨by rfl, ?hyt101_17⟩) (by assumption) ?restt101_17
          case hyt101_17 => intro w hSw; (try dsimp only at hSw); go_simp; (try with_reducible rfl)
          simp only [Act.put]
          refine wpAnyH_take (i := 18) (v := ?t101_18) rfl (by kernel_rfl) (by kernel_rfl) (by kernel_rfl) (fun _ _ _ h => h) (Or.inl ⟨by rfl, ?hyt101_18⟩) (by assumption) ?restt101_18
          case hyt101_18 => intro w hSw; (try dsimp only at hSw); go_simp; (try with_reducible rfl)
          simp only [Act.put]
          refine wpAnyH_take (i := 19) (v := ?t101_19) rfl (by kernel_rfl) (by kernel_rfl) (by kernel_rfl) (fun _ _ _ h => h) (Or.inl ⟨by rfl, ?hyt101_19⟩) (by assumption) ?restt101_19
          case hyt101_19 => intro w hSw; (try dsimp only at hSw); go_simp; (try with_reducible rfl)
          simp only [Act.put]
          refine wpAnyH_ready (rs := [20]) (by kernel_rfl) (by simp) ?_
          refine AllReadyH.cons rfl (fun K hK => ?_) AllReadyH.nil
          go_simp
          refine (HX2.out _ (ba.drew)).mono ?_
          rintro e wb ⟨rfl, bb'⟩
          have bb : Below wr.heap.size wr wb := (ba.drew).trans (bb'.mono sa)
          have sb := bb.size
          refine hK.out _ _ (HCE.out wb bb) (fun hHeld => ?_)
          clear hK K bb'
          refine wpAnyH_take (i := 21) (v := ?t102_21) rfl (by kernel_rfl) (by kernel_rfl) (by kernel_rfl) (fun _ _ _ h => h) (Or.inl ⟨by rfl, ?hyt102_21⟩) (by assumption) ?restt102_21
          case hyt102_21 => intro w hSw; (try dsimp only at hSw); go_simp; (try with_reducible rfl)
          simp only [Act.put]
          refine wpAnyH_take (i := 22) (v := ?t102_22) rfl (by kernel_rfl) (by kernel_rfl) (by kernel_rfl) (fun _ _ _ h => h) (Or.inl ⟨by rfl, ?hyt102_22⟩) (by assumption) ?restt102_22
          case hyt102_22 => intro w hSw; (try dsimp only at hSw); go_simp; (try with_reducible rfl)
          simp only [Act.put]
          refine wpAnyH_take (i := 23) (v := ?t102_23) rfl (by kernel_rfl) (by kernel_rfl) (by kernel_rfl) (fun _ _ _ h => h) (Or.inl ⟨by rfl, ?hyt102_23⟩) (by assumption) ?restt102_23
          case hyt102_23 => intro w hSw; (try dsimp only at hSw); go_simp; (try with_reducible rfl)
          simp only [Act.put]
          refine wpAnyH_ready (rs := [24]) (by kernel_rfl) (by simp) ?_
          refine AllReadyH.cons rfl (fun K hK => ?_) AllReadyH.nil
          go_simp
          refine hK.out _ _ hHeld (fun hHeld => ?_)
          clear hK K
          refine wpAnyH_ready (rs := [25]) (by kernel_rfl) (by simp) ?_
          refine AllReadyH.cons rfl (fun K hK => ?_) AllReadyH.nil
          go_simp
          refine hK.out _ _ hHeld (fun hHeld => ?_)
          clear hK K
          refine wpAnyH_done (by kernel_rfl) ?_ _
          clear hHeld
          obtain ⟨c0, c4, c5, e4, e5⟩ := HCE.out wb bb
          have hff := pickN_lt n (c.doc.size + 1) (by omega)
          have hgg := pickN_lt (n.tdiv 7) (c.doc.size - pickN n (c.doc.size + 1) + 1) (by omega)
          have HP1 : Hid (∀ W, Calls Try.prog 29 #[.int .i64 n, .int .i64 ((c.doc.size : Int) + 1)] W fun e w' => e = .returned (.int .i64 (pickN n (c.doc.size + 1) : Int)) ∧ w' = W) := fun W => kpick_any n (c.doc.size + 1) hn (by omega) (by omega) W
          have h7 : inR (n.tdiv 7) := by
            unfold inR at *
            rcases Int.lt_or_le n 0 with h | h
            · have e : n.tdiv 7 = -((-n).tdiv 7) := by rw [Int.neg_tdiv]; omega
              have e2 : (-n).tdiv 7 = (-n) / 7 := Int.tdiv_eq_ediv_of_nonneg (by omega)
              rw [e, e2]; omega
            · rw [Int.tdiv_eq_ediv_of_nonneg h]; omega
          have HP2 : Hid (∀ W, Calls Try.prog 29 #[.int .i64 (n.tdiv 7), .int .i64 ((c.doc.size : Int) - (pickN n (c.doc.size + 1) : Int) + 1)] W fun e w' => e = .returned (.int .i64 (pickN (n.tdiv 7) (c.doc.size - pickN n (c.doc.size + 1) + 1) : Int)) ∧ w' = W) := fun W => by
            have := kpick_any (n.tdiv 7) (c.doc.size - pickN n (c.doc.size + 1) + 1) h7 (by omega) (by omega) W
            rw [show ((c.doc.size - pickN n (c.doc.size + 1) + 1 : Nat) : Int) = (c.doc.size : Int) - (pickN n (c.doc.size + 1) : Int) + 1 from by omega] at this
            exact this
          generalize pickN (n.tdiv 7) (c.doc.size - pickN n (c.doc.size + 1) + 1) = gg at *
          generalize pickN n (c.doc.size + 1) = ff at *
          have HX3 : Hid (∀ W, Below wr.heap.size wr W → Calls Try.prog 28 #[.pointer (some ⟨x, 0, none⟩), .int .i64 (c.id : Int), .int .i64 (ff : Int), .int .i64 ((ff : Int) + (gg : Int))] W fun e w' => e = .returned (.tuple #[.string (c.doc.extract ff (ff + gg)), .int .i64 0]) ∧ Below W.heap.size W w') := fun W hW => by
            have := HEX.out (ff : Int) ((ff : Int) + (gg : Int)) W (by unfold inR; omega) (by unfold inR; omega) hW
            rw [HEQ.out, if_neg (by omega), Int.toNat_natCast, show ((ff : Int) + (gg : Int)).toNat = ff + gg from by omega] at this
            exact this
          have hdd : (c.doc.toList != c.doc.toList) = false := by simp
          have hfg : ff + gg ≤ c.doc.size := by omega
          have hff2 : ff ≤ c.doc.size := by omega
          have hw64 : wrap64 (n.tdiv 7) = n.tdiv 7 := by unfold wrap64; unfold inR at h7; omega
          clear HX1 HX2 HEX HEQ h7 hff hgg
          go_wp2_with fail
          refine (HP1.out _).mono ?_
          rintro e w5 ⟨rfl, hw5⟩; rw [hw5]; clear hw5
          go_wp2_with fail
          refine (HP2.out _).mono ?_
          rintro e w6 ⟨rfl, hw6⟩; rw [hw6]; clear hw6
          have hwg : IntKind.i64.wrap ((ff : Int) + (gg : Int)) = (ff : Int) + (gg : Int) := by rw [IntKind.wrap_i64]; omega
          go_wp2_with fail
          refine wp_region_held_drew (S := fun w' => w'.cell? ⟨dk, 0, none⟩ = some (.pointer (some ⟨x, 0, none⟩)) ∧ w'.cell? ⟨dk, 4, none⟩ = some (.slice (some ⟨gi, 0, none⟩) (Do.there cs).length ci) ∧ w'.cell? ⟨dk, 5, none⟩ = some (.slice (some ⟨gd, 0, none⟩) (Do.there cs).length cd) ∧ w'.cell? ⟨gi, j, none⟩ = some (.int .i64 (c.id : Int)) ∧ w'.cell? ⟨gd, j, none⟩ = some (.string c.doc)) (by kernel_rfl) (HCE.out wb bb) (fun hHeld => ?_)
          refine wpAnyH_take (i := 0) (v := ?t301_0) rfl (by kernel_rfl) (by kernel_rfl) (by kernel_rfl) (fun _ _ _ h => h) (Or.inl ⟨by rfl, ?hyt301_0⟩) (by assumption) ?restt301_0
          case hyt301_0 => intro w hSw; (try dsimp only at hSw); go_simp; (try with_reducible rfl)
          simp only [Act.put]
          refine wpAnyH_take (i := 1) (v := ?t301_1) rfl (by kernel_rfl) (by kernel_rfl) (by kernel_rfl) (fun _ _ _ h => h) (Or.inl ⟨by rfl, ?hyt301_1⟩) (by assumption) ?restt301_1
          case hyt301_1 => intro w hSw; (try dsimp only at hSw); go_simp; (try with_reducible rfl)
          simp only [Act.put]
          refine wpAnyH_take (i := 2) (v := ?t301_2) rfl (by kernel_rfl) (by kernel_rfl) (by kernel_rfl) (fun _ _ _ h => h) (Or.inl ⟨by rfl, ?hyt301_2⟩) (by assumption) ?restt301_2
          case hyt301_2 => intro w hSw; (try dsimp only at hSw); go_simp; (try with_reducible rfl)
          simp only [Act.put]
          refine wpAnyH_take (i := 3) (v := ?t301_3) rfl (by kernel_rfl) (by kernel_rfl) (by kernel_rfl) (fun _ _ _ h => h) (Or.inl ⟨by rfl, ?hyt301_3⟩) (by assumption) ?restt301_3
          case hyt301_3 => intro w hSw; (try dsimp only at hSw); go_simp; (try with_reducible rfl)
          simp only [Act.put]
          refine wpAnyH_take (i := 4) (v := ?t301_4) rfl (by kernel_rfl) (by kernel_rfl) (by kernel_rfl) (fun _ _ _ h => h) (Or.inl ⟨by rfl, ?hyt301_4⟩) (by assumption) ?restt301_4
          case hyt301_4 => intro w hSw; (try dsimp only at hSw); go_simp; (try with_reducible rfl)
          simp only [Act.put]
          refine wpAnyH_take (i := 5) (v := ?t301_5) rfl (by kernel_rfl) (by kernel_rfl) (by kernel_rfl) (fun _ _ _ h => h) (Or.inl ⟨by rfl, ?hyt301_5⟩) (by assumption) ?restt301_5
          case hyt301_5 => intro w hSw; (try dsimp only at hSw); go_simp; (try with_reducible rfl)
          simp only [Act.put]
          refine wpAnyH_take (i := 6) (v := ?t301_6) rfl (by kernel_rfl) (by kernel_rfl) (by kernel_rfl) (fun _ _ _ h => h) (Or.inl ⟨by rfl, ?hyt301_6⟩) (by assumption) ?restt301_6
          case hyt301_6 => intro w hSw; (try dsimp only at hSw); go_simp; (try with_reducible rfl)
          simp only [Act.put]
          refine wpAnyH_take (i := 7) (v := ?t301_7) rfl (by kernel_rfl) (by kernel_rfl) (by kernel_rfl) (fun _ _ _ h => h) (Or.inl ⟨by rfl, ?hyt301_7⟩) (by assumption) ?restt301_7
          case hyt301_7 => intro w hSw; (try dsimp only at hSw); go_simp; (try with_reducible rfl)
          simp only [Act.put]
          refine wpAnyH_take (i := 8) (v := ?t301_8) rfl (by kernel_rfl) (by kernel_rfl) (by kernel_rfl) (fun _ _ _ h => h) (Or.inl ⟨by rfl, ?hyt301_8⟩) (by assumption) ?restt301_8
          case hyt301_8 => intro w hSw; (try dsimp only at hSw); go_simp; (try with_reducible rfl)
          simp only [Act.put]
          refine wpAnyH_take (i := 9) (v := ?t301_9) rfl (by kernel_rfl) (by kernel_rfl) (by kernel_rfl) (fun _ _ _ h => h) (Or.inl ⟨by rfl, ?hyt301_9⟩) (by assumption) ?restt301_9
          case hyt301_9 => intro w hSw; (try dsimp only at hSw); go_simp; (try with_reducible rfl)
          simp only [Act.put]
          refine wpAnyH_take (i := 10) (v := ?t301_10) rfl (by kernel_rfl) (by kernel_rfl) (by kernel_rfl) (fun _ _ _ h => h) (Or.inl ⟨by rfl, ?hyt301_10⟩) (by assumption) ?restt301_10
          case hyt301_10 => intro w hSw; (try dsimp only at hSw); go_simp; (try with_reducible rfl)
          simp only [Act.put]
          refine wpAnyH_take (i := 11) (v := ?t301_11) rfl (by kernel_rfl) (by kernel_rfl) (by kernel_rfl) (fun _ _ _ h => h) (Or.inl ⟨by rfl, ?hyt301_11⟩) (by assumption) ?restt301_11
          case hyt301_11 => intro w hSw; (try dsimp only at hSw); go_simp; (try with_reducible rfl)
          simp only [Act.put]
          refine wpAnyH_take (i := 12) (v := ?t301_12) rfl (by kernel_rfl) (by kernel_rfl) (by kernel_rfl) (fun _ _ _ h => h) (Or.inl ⟨by rfl, ?hyt301_12⟩) (by assumption) ?restt301_12
          case hyt301_12 => intro w hSw; (try dsimp only at hSw); go_simp; (try with_reducible rfl)
          simp only [Act.put]
          refine wpAnyH_ready (rs := [13]) (by kernel_rfl) (by simp) ?_
          refine AllReadyH.cons rfl (fun K hK => ?_) AllReadyH.nil
          go_simp
          refine (HX3.out _ (bb.drew)).mono ?_
          rintro e wd ⟨rfl, bd'⟩
          have bd : Below wr.heap.size wr wd := (bb.drew).trans (bd'.mono sb)
          have sd := bd.size
          refine hK.out _ _ (HCE.out wd bd) (fun hHeld => ?_)
          clear hK K bd'
          refine wpAnyH_take (i := 14) (v := ?t302_14) rfl (by kernel_rfl) (by kernel_rfl) (by kernel_rfl) (fun _ _ _ h => h) (Or.inl ⟨by rfl, ?hyt302_14⟩) (by assumption) ?restt302_14
          case hyt302_14 => intro w hSw; (try dsimp only at hSw); go_simp; (try with_reducible rfl)
          simp only [Act.put]
          refine wpAnyH_take (i := 15) (v := ?t302_15) rfl (by kernel_rfl) (by kernel_rfl) (by kernel_rfl) (fun _ _ _ h => h) (Or.inl ⟨by rfl, ?hyt302_15⟩) (by assumption) ?restt302_15
          case hyt302_15 => intro w hSw; (try dsimp only at hSw); go_simp; (try with_reducible rfl)
          simp only [Act.put]
          refine wpAnyH_take (i := 16) (v := ?t302_16) rfl (by kernel_rfl) (by kernel_rfl) (by kernel_rfl) (fun _ _ _ h => h) (Or.inl ⟨by rfl, ?hyt302_16⟩) (by assumption) ?restt302_16
          case hyt302_16 => intro w hSw; (try dsimp only at hSw); go_simp; (try with_reducible rfl)
          simp only [Act.put]
          refine wpAnyH_ready (rs := [17]) (by kernel_rfl) (by simp) ?_
          refine AllReadyH.cons rfl (fun K hK => ?_) AllReadyH.nil
          go_simp
          refine hK.out _ _ hHeld (fun hHeld => ?_)
          clear hK K
          refine wpAnyH_ready (rs := [18]) (by kernel_rfl) (by simp) ?_
          refine AllReadyH.cons rfl (fun K hK => ?_) AllReadyH.nil
          go_simp
          refine hK.out _ _ hHeld (fun hHeld => ?_)
          clear hK K
          refine wpAnyH_done (by kernel_rfl) ?_ _
          clear hHeld c0 c4 c5 e4 e5
          have hxx : ((c.doc.extract ff (ff + gg)).toList != (c.doc.extract ff (ff + gg)).toList) = false := by simp
          have HBD : Hid (Below wo.heap.size wo wd) := hb1.trans (bd.mono sw1)
          clear HCE HX3 HP1 HP2 ba bb bd hb1
          go_wp2_with fail
          exact ⟨⟨j + 1, by omega, by go_num, HBD.out⟩, by simp [intOf]; omega⟩
        · have hje : j = (Do.there cs).length := by omega
          subst hje
          have hdj : decide (((Do.there cs).length : Int) < ((Do.there cs).length : Int)) = false := by simp
          have c6 := hI.blk.c6
          have HXD : Hid (Calls Try.prog 28 #[.pointer (some ⟨x, 0, none⟩), .int .i64 ((insTo cs cs.length : Nat) : Int), .int .i64 0, .int .i64 0] wr.drew fun e w' => e = .returned (.tuple #[.string ⟨#[]⟩, .int .i64 4]) ∧ Below wr.heap.size wr.drew w') := by
            have := hC.extract ((insTo cs cs.length : Nat) : Int) 0 0 (by omega) (by unfold inR; omega) (by unfold inR; omega) (by unfold inR; omega) (hI.quiet hC ((Below.refl _ _).drew)).idx
            rw [ex_none cs HFA.out] at this
            exact this
          have hpl := pickN_lt n 8 (by omega)
          have HPP := kpick_any n 8 hn (by omega) (by omega)
          have HLS : Hid (∀ W, Below wo.heap.size wo W → Calls Try.prog 30 #[.pointer (some ⟨dk, 0, none⟩), .int .i64 (1 + (pickN n 8 : Int))] W fun e w' => e = .returned (.bool true) ∧ Below W.heap.size W w') := fun W hW => by
            have := dListed_in hC (1 + pickN n 8) (by omega) (by omega) hM (HDK.out W hW)
            rw [show ((1 + pickN n 8 : Nat) : Int) = 1 + (pickN n 8 : Int) from by omega] at this
            exact this
          generalize pickN n 8 = pk at *
          clear hri hrd hvi hvd hI
          go_wp2_with fail
          refine wp_region_held_drew (S := fun w' => w'.cell? ⟨dk, 0, none⟩ = some (.pointer (some ⟨x, 0, none⟩)) ∧ w'.cell? ⟨dk, 6, none⟩ = some (.int .i64 ((insTo cs cs.length : Nat) : Int))) (by kernel_rfl) ⟨c0, c6⟩ (fun hHeld => ?_)
          refine wpAnyH_take (i := 0) (v := ?t401_0) rfl (by kernel_rfl) (by kernel_rfl) (by kernel_rfl) (fun _ _ _ h => h) (Or.inl ⟨by rfl, ?hyt401_0⟩) (by assumption) ?restt401_0
          case hyt401_0 => intro w hSw; (try dsimp only at hSw); go_simp; (try with_reducible rfl)
          simp only [Act.put]
          refine wpAnyH_take (i := 1) (v := ?t401_1) rfl (by kernel_rfl) (by kernel_rfl) (by kernel_rfl) (fun _ _ _ h => h) (Or.inl ⟨by rfl, ?hyt401_1⟩) (by assumption) ?restt401_1
          case hyt401_1 => intro w hSw; (try dsimp only at hSw); go_simp; (try with_reducible rfl)
          simp only [Act.put]
          refine wpAnyH_take (i := 2) (v := ?t401_2) rfl (by kernel_rfl) (by kernel_rfl) (by kernel_rfl) (fun _ _ _ h => h) (Or.inl ⟨by rfl, ?hyt401_2⟩) (by assumption) ?restt401_2
          case hyt401_2 => intro w hSw; (try dsimp only at hSw); go_simp; (try with_reducible rfl)
          simp only [Act.put]
          refine wpAnyH_take (i := 3) (v := ?t401_3) rfl (by kernel_rfl) (by kernel_rfl) (by kernel_rfl) (fun _ _ _ h => h) (Or.inl ⟨by rfl, ?hyt401_3⟩) (by assumption) ?restt401_3
          case hyt401_3 => intro w hSw; (try dsimp only at hSw); go_simp; (try with_reducible rfl)
          simp only [Act.put]
          refine wpAnyH_take (i := 4) (v := ?t401_4) rfl (by kernel_rfl) (by kernel_rfl) (by kernel_rfl) (fun _ _ _ h => h) (Or.inl ⟨by rfl, ?hyt401_4⟩) (by assumption) ?restt401_4
          case hyt401_4 => intro w hSw; (try dsimp only at hSw); go_simp; (try with_reducible rfl)
          simp only [Act.put]
          refine wpAnyH_take (i := 5) (v := ?t401_5) rfl (by kernel_rfl) (by kernel_rfl) (by kernel_rfl) (fun _ _ _ h => h) (Or.inl ⟨by rfl, ?hyt401_5⟩) (by assumption) ?restt401_5
          case hyt401_5 => intro w hSw; (try dsimp only at hSw); go_simp; (try with_reducible rfl)
          simp only [Act.put]
          refine wpAnyH_take (i := 6) (v := ?t401_6) rfl (by kernel_rfl) (by kernel_rfl) (by kernel_rfl) (fun _ _ _ h => h) (Or.inl ⟨by rfl, ?hyt401_6⟩) (by assumption) ?restt401_6
          case hyt401_6 => intro w hSw; (try dsimp only at hSw); go_simp; (try with_reducible rfl)
          simp only [Act.put]
          refine wpAnyH_take (i := 7) (v := ?t401_7) rfl (by kernel_rfl) (by kernel_rfl) (by kernel_rfl) (fun _ _ _ h => h) (Or.inl ⟨by rfl, ?hyt401_7⟩) (by assumption) ?restt401_7
          case hyt401_7 => intro w hSw; (try dsimp only at hSw); go_simp; (try with_reducible rfl)
          simp only [Act.put]
          refine wpAnyH_ready (rs := [8]) (by kernel_rfl) (by simp) ?_
          refine AllReadyH.cons rfl (fun K hK => ?_) AllReadyH.nil
          go_simp
          refine HXD.out.mono ?_
          rintro e wa ⟨rfl, ba'⟩
          have ba : Below wr.heap.size wr wa := ((Below.refl wr.heap.size wr).drew).trans ba'
          have bwa : Below wo.heap.size wo wa := hb1.trans (ba.mono sw1)
          refine hK.out _ _ ⟨(HDK.out wa bwa).blk.c0, (HDK.out wa bwa).blk.c6⟩ (fun hHeld => ?_)
          clear hK K ba'
          refine wpAnyH_take (i := 9) (v := ?t402_9) rfl (by kernel_rfl) (by kernel_rfl) (by kernel_rfl) (fun _ _ _ h => h) (Or.inl ⟨by rfl, ?hyt402_9⟩) (by assumption) ?restt402_9
          case hyt402_9 => intro w hSw; (try dsimp only at hSw); go_simp; (try with_reducible rfl)
          simp only [Act.put]
          refine wpAnyH_take (i := 10) (v := ?t402_10) rfl (by kernel_rfl) (by kernel_rfl) (by kernel_rfl) (fun _ _ _ h => h) (Or.inl ⟨by rfl, ?hyt402_10⟩) (by assumption) ?restt402_10
          case hyt402_10 => intro w hSw; (try dsimp only at hSw); go_simp; (try with_reducible rfl)
          simp only [Act.put]
          refine wpAnyH_take (i := 11) (v := ?t402_11) rfl (by kernel_rfl) (by kernel_rfl) (by kernel_rfl) (fun _ _ _ h => h) (Or.inl ⟨by rfl, ?hyt402_11⟩) (by assumption) ?restt402_11
          case hyt402_11 => intro w hSw; (try dsimp only at hSw); go_simp; (try with_reducible rfl)
          simp only [Act.put]
          refine wpAnyH_ready (rs := [12]) (by kernel_rfl) (by simp) ?_
          refine AllReadyH.cons rfl (fun K hK => ?_) AllReadyH.nil
          go_simp
          refine hK.out _ _ hHeld (fun hHeld => ?_)
          clear hK K
          refine wpAnyH_ready (rs := [13]) (by kernel_rfl) (by simp) ?_
          refine AllReadyH.cons rfl (fun K hK => ?_) AllReadyH.nil
          go_simp
          refine hK.out _ _ hHeld (fun hHeld => ?_)
          clear hK K
          refine wpAnyH_done (by kernel_rfl) ?_ _
          have swa := bwa.size
          have HFI : Hid (Below w.heap.size w wa) := HBW.out.trans (bwa.mono sw)
          clear hHeld c0 c4 c5 c6 HXD
          go_wp2_with fail
          refine (HPP _).mono ?_
          rintro e w5 ⟨rfl, hw5⟩; rw [hw5]; clear hw5
          have hwp : IntKind.i64.wrap (1 + (pk : Int)) = 1 + (pk : Int) := by rw [IntKind.wrap_i64]; omega
          go_wp2_with fail
          refine (HLS.out _ bwa).mono ?_
          rintro e wb ⟨rfl, bb⟩
          have HFB : Hid (Below w.heap.size w wb) := HFI.out.trans (bb.mono (by omega))
          go_wp2_with fail
          go_ret
          exact ⟨by first | rfl | simp, HFB.out⟩
end

end Go.Proofs.Ythkndfkkgncjfaa
