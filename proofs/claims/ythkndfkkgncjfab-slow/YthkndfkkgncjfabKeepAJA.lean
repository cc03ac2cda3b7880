/- DeskE, KeepA. -/
import Derived.Test.YthkndfkkgncjfabDeskDJA
import Derived.Test.YthkndfkkgncjfabFolGJA
import Derived.Test.YthkndfkkgncjfabRefSJC
namespace Go.Proofs.Ythkndfkkgncjfab
open Go.RowKit
set_option maxRecDepth 100000

section
variable {M : Nat} {At : World → Nat → Int → Int → Int → List Do.Chg → (Nat → Prop) → Prop} {w w' : World} {dk x : Nat} {a b : Int} {P : Nat} {cs : List Do.Chg} {mv : Int} {vi vd : Value} {F G : Nat → Prop}

theorem OwnO.any {w : World} {B : Nat} {v : Value} {l : List Do.Oc} (h : OwnO w B v l) : ∃ ao cap, v = .slice ao l.length cap ∧ ∀ k o, l[k]? = some o → ∃ g, ao = some ⟨g, 0, none⟩ ∧ w.cell? ⟨g, k * 2, none⟩ = some (.int .i64 (o.id : Int)) ∧ w.cell? ⟨g, k * 2 + 1, none⟩ = some (.int .i64 (o.at' : Int)) := by
  rcases h.shape with ⟨rfl, rfl⟩ | ⟨g, cap, rfl, _, _⟩
  · exact ⟨none, 0, rfl, fun k o hk => by simp at hk⟩
  · exact ⟨_, cap, rfl, fun k o hk => ⟨g, rfl, h.cell rfl k o hk⟩⟩

theorem OC_ints (l : List Do.Oc) : ∀ u ∈ OC l, u.oneCell' = true := by
  intro u hu
  unfold OC at hu
  rw [List.mem_flatMap] at hu
  obtain ⟨o, _, h⟩ := hu
  simp [OC1] at h
  rcases h with rfl | rfl <;> rfl
theorem OC_len (l : List Do.Oc) : (OC l).length = l.length * 2 := by
  induction l with
  | nil => rfl
  | cons a r ih => rw [OC, List.flatMap_cons, List.length_append]; show 2 + (OC r).length = _; rw [ih, List.length_cons]; omega
theorem OwnO.news {w : World} {B g n cap : Nat} {l : List Do.Oc} (h : OwnO w B (.slice (some ⟨g, 0, none⟩) n cap) l) (hn : l.length = n) : ∀ (j : Nat) (u : Value), (OC l)[j]? = some u → w.cell? ((⟨g, 0, none⟩ : Addr).add j) = some u := by
  intro j u hu
  subst hn
  have hj : j < (OC l).length := by
    rcases Nat.lt_or_ge j (OC l).length with h | h
    · exact h
    · rw [List.getElem?_eq_none h] at hu; cases hu
  rw [OC_len] at hj
  have := World.ownsRow.cellAt h j hj
  rw [hu] at this
  by_cases e : j = 0
  · subst e; simpa [Addr.add] using this
  · simpa [Addr.add, e] using this
/-- a page put behind the others -/
theorem pages_step {w w1 w0 : World} {B : Nat} {v v' : Value} {m l : List Do.Oc} (hu : OwnO w B v m) (hbl : Below B w0 w) (hB : B ≤ w.heap.size)
    (h1 : w1.ownsRow B 44 2 v' (m.length + l.length) (OC m ++ OC l)) (h2 : w.grownBy w1 v.ownBlock) : OwnO w1 B v' (m ++ l) ∧ Below B w0 w1 := by
  refine ⟨?_, hbl.grown h2 hB (fun k hk => (World.ownsRow.lt hu k hk).1)⟩
  unfold OwnO
  rw [OC_append, List.length_append]
  exact h1

set_option maxHeartbeats 2000000 in
theorem dPages_in (hC : Keeps M At 28 21 23 60 62 20 58 11) (s : ByteArray) (most : Nat) (hm : cs.length ≤ M) (hM : M ≤ 9000000000000000) (hs : 1 ≤ s.size ∧ s.size ≤ 16) (hmo : (Do.hits (Do.there cs) s.data.toList).length ≤ most) (hm4 : most ≤ 100000) (h : DeskIn At w dk x a b (P : Int) cs mv vi vd F G) :
    Calls Try.prog 10 #[.pointer (some ⟨dk, 0, none⟩), .string s, .int .i64 (most : Int)] w fun e w' => ∃ u, e = .returned (.tuple #[u, .bool true]) ∧ OwnO w' w.heap.size u (Do.hits (Do.there cs) s.data.toList) ∧ Below w.heap.size w w' := by
  obtain ⟨i0, hi, hz0, hz1, hz2⟩ := info_parts Try.info44
  have hP : 1 ≤ P ∧ P ≤ 8 := by have := h.conf; unfold okc at this; omega
  have c0 := h.blk.c0
  have HV : Hid (Calls Try.prog 11 #[.pointer (some ⟨x, 0, none⟩)] w fun e w' => e = .returned (.int .i64 (cs.length : Int)) ∧ Below w.heap.size w w') := hC.version hm h.idx
  have HR : Hid ((Do.hits (Do.there cs) s.data.toList).Pairwise Do.olt) := Do.hits_rise _ _ h.fair.rise
  have HZ : Hid (Do.since (Do.hits (Do.there cs) s.data.toList) 0 0 = (Do.hits (Do.there cs) s.data.toList).drop 0) := by show _ = _; rw [Do.since_zero, List.drop_zero]
  go_enter Try.func10, Try.ntmps10
  go_wp2_with fail
  refine HV.out.mono ?_
  rintro e w1 ⟨rfl, hb1⟩
  clear HV c0
  have HL : Hid (∀ (iv tv : Int) (wr : World), inR iv → inR tv → Below w1.heap.size w1 wr → Calls Try.prog 20 #[.pointer (some ⟨x, 0, none⟩), .string s, .int .i64 (cs.length : Int), .int .i64 iv, .int .i64 tv] wr fun e w' => ∃ v, e = .returned (.tuple #[v, .bool (Do.page (Do.hits (Do.there cs) s.data.toList) iv tv P).2, .int .i64 0]) ∧ OwnO w' wr.heap.size v (Do.page (Do.hits (Do.there cs) s.data.toList) iv tv P).1 ∧ Below wr.heap.size wr w') := by
    intro iv tv wr h1 h2 hb
    have hd := (h.quiet hC hb1).quiet hC hb
    have := hC.locate s (cs.length : Int) iv tv hm (by omega) (by unfold inR; omega) h1 h2 hd.idx
    have e : locRes cs (P : Int) s (cs.length : Int) iv tv = ((Do.page (Do.hits (Do.there cs) s.data.toList) iv tv P).1, (Do.page (Do.hits (Do.there cs) s.data.toList) iv tv P).2, 0) := by
      unfold locRes
      rw [if_neg (by omega), if_neg (by simp)]
      rfl
    rw [e] at this
    exact this
  have HB : Hid (∀ o ∈ Do.hits (Do.there cs) s.data.toList, o.id ≤ 9000000000000000 ∧ o.at' ≤ 40) := by
    intro o ho
    obtain ⟨i, c, _, hc, e1, e2⟩ := Do.hitsTo_mem _ _ _ o ho
    have hcm := List.mem_of_getElem? hc
    have h1 := h.fair.next c hcm
    have h2 := h.fair.docs c hcm
    have h3 := insTo_le cs cs.length
    omega
  have HD : Hid (∀ wr, Below w1.heap.size w1 wr → wr.cell? ⟨dk, 0, none⟩ = some (.pointer (some ⟨x, 0, none⟩)) ∧ wr.cell? ⟨dk, 3, none⟩ = some (.int .i64 (P : Int))) := fun wr hb => by
    have hd := (h.quiet hC hb1).quiet hC hb
    exact ⟨hd.blk.c0, hd.blk.c3⟩
  obtain ⟨hP1, hP8⟩ := hP
  clear h
  generalize hHH : Do.hits (Do.there cs) s.data.toList = H at *
  have HHH : Hid (Do.hits (Do.there cs) s.data.toList = H) := hHH
  clear hHH
  go_wp2_with fail
  go_loopw [8, 9, 10, 12] (fun u ii tt n' wr => ∃ n : Nat, n' = .int .i64 n ∧ n ≤ most ∧ n * P ≤ H.length ∧ (0 < n → n * P < H.length) ∧ (n = 0 → u = .slice none 0 0) ∧ ∃ (iv tv : Int), ii = .int .i64 iv ∧ tt = .int .i64 tv ∧ inR iv ∧ inR tv ∧ Do.since H iv tv = H.drop (n * P) ∧ OwnO wr w1.heap.size u (H.take (n * P)) ∧ Below w1.heap.size w1 wr) (fun _ _ _ n' _ => most + 1 - (intOf n').toNat)
  case atStart => exact ⟨0, rfl, by omega, by omega, by omega, fun _ => rfl, 0, 0, rfl, rfl, by unfold inR; omega, by unfold inR; omega, by rw [Nat.zero_mul]; exact HZ.out, by rw [Nat.zero_mul]; exact World.ownsRow_nil _ _ _ _, Below.refl _ _⟩
  case round =>
    obtain ⟨n, rfl, hn, hnP, hn0, hnil, iv, tv, rfl, rfl, riv, rtv, hsi, ho, hb⟩ := hrel
    clear HZ
    obtain ⟨c0, c3⟩ := HD.out wr hb
    have HLC := HL.out iv tv wr riv rtv hb
    have hpg := Do.page_at H iv tv P (n * P) hsi
    rw [hpg] at HLC
    have HLL : Hid (Calls Try.prog 20 #[.pointer (some ⟨x, 0, none⟩), .string s, .int .i64 (cs.length : Int), .int .i64 iv, .int .i64 tv] wr fun e w' => ∃ v, e = .returned (.tuple #[v, .bool (decide (n * P + P < H.length)), .int .i64 0]) ∧ OwnO w' wr.heap.size v ((H.drop (n * P)).take P) ∧ Below wr.heap.size wr w') := HLC
    clear HLC hpg hsi HL
    have hdn : decide ((n : Int) ≤ (most : Int)) = true := by rw [decide_eq_true_eq]; omega
    generalize hj : n * P = j at *
    have hol : (H.take j).length = j := by rw [List.length_take]; omega
    by_cases hmore : j + P < H.length
    · have em : decide (j + P < H.length) = true := by rw [decide_eq_true_eq]; exact hmore
      rw [em] at HLL
      have hll : ((H.drop j).take P).length = P := by rw [List.length_take, List.length_drop]; omega
      have HT : Hid (H.take j ++ (H.drop j).take P = H.take (j + P)) := by show _ = _; rw [List.take_add]
      obtain ⟨o, hoo⟩ : ∃ o, H[j + P - 1]? = some o := ⟨H[j + P - 1]'(by omega), List.getElem?_eq_getElem _⟩
      have HSN : Hid (Do.since H (o.id : Int) ((o.at' : Int) + 1) = H.drop (j + P)) := by
        show _ = _
        rw [Do.since_next H HR.out (j + P - 1) o hoo]
        congr 1; omega
      obtain ⟨hob1, hob2⟩ := HB.out o (List.mem_of_getElem? hoo)
      have HOL : Hid (((H.drop j).take P)[P - 1]? = some o) := by
        show _ = _
        rw [List.getElem?_take, if_pos (by omega), List.getElem?_drop]
        rw [← hoo]; congr 1; omega
      go_wp2_with fail
      refine HLL.out.mono ?_
      rintro e w2 ⟨lv, rfl, hl, hb2⟩
      have s2 := hb2.size
      have sw := hb.size
      obtain ⟨al, cl, rfl, hlc⟩ := hl.any
      obtain ⟨gl, rfl, e0, e1⟩ := hlc (P - 1) o HOL.out
      have hglb : wr.heap.size ≤ gl := (World.ownsRow.lt hl gl rfl).1
      have hgll : gl < w2.heap.size := (World.ownsRow.lt hl gl rfl).2
      rw [hll] at hl
      rw [hll]
      have ho2 := row_below ho hb2
      have hub : ∀ k, u8.ownBlock = some k → k < wr.heap.size := fun k hk => (World.ownsRow.lt ho k hk).2
      have c32 := (hb2.cell (p := ⟨dk, 3, none⟩) (World.block_lt_of_cell? wr _ c3)).trans c3
      have hbw2 : Below w1.heap.size w1 w2 := hb.trans (hb2.mono (by omega))
      have dP1 : decide ((P : Int) < (P : Int)) = false := by simp
      clear HLL hlc c0 c3
      generalize hLL2 : (H.drop j).take P = l2 at *
      go_wp2_with (at_builtin; refine wpList_append_own _ rfl _ _ 31 rfl w1.heap.size 44 i0 (.agg #[.int .i64 0, .int .i64 0]) 2 16 Try.underlying31 hi hz0 hz1 hz2 rfl (by decide) _ _ _ rfl ho2 ⟨gl, 0, none⟩ P cl (OC l2) rfl (by rw [OC_len]; omega) (hl.news hll) (OC_ints l2) (by unfold maxLen; omega) (by omega) (by omega) ?_; intro v' w3 hown3 hgrow3 _; have e03 := World.grownBy.cell hgrow3 e0 (fun e => by have := hub gl e.symm; omega); have e13 := World.grownBy.cell hgrow3 e1 (fun e => by have := hub gl e.symm; omega))
      have R := pages_step (l := l2) ho2 hbw2 (by omega) (by rw [hll]; exact hown3) hgrow3
      rw [HT.out] at R
      have hj1 : (n + 1) * P = j + P := by rw [Nat.succ_mul, hj]
      have hnn : n + 1 ≤ (n + 1) * P := Nat.le_mul_of_pos_right _ (by omega)
      clear hown3 hgrow3
      refine ⟨⟨n + 1, by go_num, by omega, by rw [hj1]; omega, fun _ => by rw [hj1]; omega, fun h0 => by omega, (o.id : Int), (o.at' : Int) + 1, rfl, rfl, by unfold inR; omega, by unfold inR; omega, by rw [hj1]; exact HSN.out, by rw [hj1]; exact R.1, R.2⟩, by simp [intOf]; omega⟩
    · have em : decide (j + P < H.length) = false := by rw [decide_eq_false_iff_not]; exact hmore
      rw [em] at HLL
      have hll : ((H.drop j).take P).length = H.length - j := by rw [List.length_take, List.length_drop]; omega
      have HT : Hid (H.take j ++ (H.drop j).take P = H) := by
        show _ = _
        rw [List.take_of_length_le (l := H.drop j) (by rw [List.length_drop]; omega), List.take_append_drop]
      go_wp2_with fail
      refine HLL.out.mono ?_
      rintro e w2 ⟨lv, rfl, hl, hb2⟩
      have s2 := hb2.size
      have sw := hb.size
      have ho2 := row_below ho hb2
      have c32 := (hb2.cell (p := ⟨dk, 3, none⟩) (World.block_lt_of_cell? wr _ c3)).trans c3
      have hbw2 : Below w1.heap.size w1 w2 := hb.trans (hb2.mono (by omega))
      have hbw : Below w.heap.size w w2 := hb1.trans (hbw2.mono hb1.size)
      have hs1 := hb1.size
      clear HLL c0 c3
      rcases hl.shape with ⟨rfl, hnl⟩ | ⟨gl, cl, rfl, hglb, hgll⟩
      · have hz : H.length - j = 0 := by rw [← hll, hnl]; rfl
        have hn00 : n = 0 := by
          rcases Nat.eq_zero_or_pos n with h0 | h0
          · exact h0
          · have := hn0 h0; omega
        have hu8 := hnil hn00
        subst hu8
        have dP1 : decide ((P : Int) < (0 : Int)) = false := by rw [decide_eq_false_iff_not]; omega
        have HN : Hid (H = []) := by
          show H = []
          have : H.length = 0 := by rw [hn00, Nat.zero_mul] at hj; omega
          exact List.eq_nil_of_length_eq_zero this
        go_wp2
        go_ret2
        exact ⟨.slice none 0 0, rfl, by rw [HHH.out, HN.out]; exact World.ownsRow_nil _ _ _ _, hbw⟩
      · rw [hll] at hl
        rw [hll]
        have dP1 : decide ((P : Int) < ((H.length - j : Nat) : Int)) = false := by rw [decide_eq_false_iff_not]; omega
        generalize hLL2 : (H.drop j).take P = l2 at *
        generalize hq : H.length - j = q at *
        go_wp2_with (at_builtin; refine wpList_append_own _ rfl _ _ 31 rfl w1.heap.size 44 i0 (.agg #[.int .i64 0, .int .i64 0]) 2 16 Try.underlying31 hi hz0 hz1 hz2 rfl (by decide) _ _ _ rfl ho2 ⟨gl, 0, none⟩ q cl (OC l2) rfl (by rw [OC_len]; omega) (hl.news hll) (OC_ints l2) (by unfold maxLen; omega) (by omega) (by omega) ?_; intro v' w3 hown3 hgrow3 _)
        have R := pages_step (l := l2) ho2 hbw2 (by omega) (by rw [hll]; exact hown3) hgrow3
        rw [HT.out] at R
        clear hown3 hgrow3
        go_ret2
        exact ⟨_, rfl, by rw [HHH.out]; exact R.1.weaken hs1, hb1.trans (R.2.mono hs1)⟩
theorem dPages_any (hC : Keeps M At 28 21 23 60 62 20 58 11) (s : ByteArray) (most : Nat) (p : Int) (hm : cs.length ≤ M) (hM : M ≤ 9000000000000000) (hs : 1 ≤ s.size ∧ s.size ≤ 16) (hmo : (Do.hits (Do.there cs) s.data.toList).length ≤ most) (hm4 : most ≤ 100000) (h : Desk At w dk a b p cs mv G) :
    Calls Try.prog 10 #[.pointer (some ⟨dk, 0, none⟩), .string s, .int .i64 (most : Int)] w fun e w' => ∃ u, e = .returned (.tuple #[u, .bool true]) ∧ OwnO w' w.heap.size u (Do.hits (Do.there cs) s.data.toList) ∧ Below w.heap.size w w' := by
  obtain ⟨x, vi, vd, F, h⟩ := h
  obtain ⟨q, rfl⟩ := Int.eq_ofNat_of_zero_le (show 0 ≤ p by have := h.conf; unfold okc at this; omega)
  exact dPages_in hC s most hm hM hs hmo hm4 h
end

end Go.Proofs.Ythkndfkkgncjfab

namespace Go.Proofs.Ythkndfkkgncjfab
open Go.ChangeShapes Go.WideShapes Go.ChangeAt Go.RowKit Go.Deep
set_option maxRecDepth 100000

def stCells (o : StV) : List Value := [.int .i64 o.k, .int .i64 o.a, .string o.s]
theorem Try.cells29 : Try.prog.cellsOf 29 = 3 := by kernel_rfl

section
variable {H : Type} {enc : TypeId × Value → H} {w : World} {base : Nat} {spare : Nat → Bool} {held : Bool}
theorem st_cells {n : Nat} {cs : List Value} {x : DataW H × List MemPlace} (h : DataW.trod enc Try.prog w base spare held n 29 cs = some x) : ∃ o : StV, cs = stCells o ∧ o.ok := by
  obtain ⟨xs, m, _, _, hl, hxl, hf⟩ := DataW.trod_struct Try.underlying29 h
  rw [Try.cells29] at hl
  have hsz : xs.length = 3 := hxl
  have get : ∀ i, i < 3 → ∃ y, xs[i]? = some y := fun i hi => ⟨xs[i], List.getElem?_eq_getElem (by omega)⟩
  obtain ⟨y0, e0⟩ := get 0 (by omega)
  obtain ⟨y1, e1⟩ := get 1 (by omega)
  obtain ⟨y2, e2⟩ := get 2 (by omega)
  have g0 : DataW.trod enc Try.prog w base spare held m 3 ((cs.drop 0).take (Try.prog.cellsOf 3)) = xs[0]? := hf 0 _ rfl
  rw [Try.cells3] at g0
  have g1 : DataW.trod enc Try.prog w base spare held m 3 ((cs.drop 1).take (Try.prog.cellsOf 3)) = xs[1]? := hf 1 _ rfl
  rw [Try.cells3] at g1
  have g2 : DataW.trod enc Try.prog w base spare held m 9 ((cs.drop 2).take (Try.prog.cellsOf 9)) = xs[2]? := hf 2 _ rfl
  rw [Try.cells9] at g2
  rw [e0] at g0
  rw [e1] at g1
  rw [e2] at g2
  obtain ⟨k, hk, rk⟩ := int_field (by omega) g0
  obtain ⟨a, ha, ra⟩ := int_field (by omega) g1
  obtain ⟨s, hs, hss⟩ := str_field (by omega) g2
  refine ⟨⟨k, a, s⟩, ?_, rk, ra, hss⟩
  refine List.ext_getElem? (fun i => ?_)
  rcases (show i = 0 ∨ i = 1 ∨ i = 2 ∨ 3 ≤ i by omega) with rfl | rfl | rfl | hi
  · exact hk
  · exact ha
  · exact hs
  · rw [List.getElem?_eq_none (by omega), List.getElem?_eq_none (by show 3 ≤ i; exact hi)]

/-- a script's cells, step by step -/
def Steps3 (w : World) (v : Value) (len : Nat) (os : Nat → StV) : Prop :=
  ∃ a0 cap, v = .slice a0 len cap ∧ ∀ k, k < len → ∃ gb off, a0 = some ⟨gb, off, none⟩ ∧ (os k).ok ∧ ∀ j u, (stCells (os k))[j]? = some u → w.cell? ⟨gb, off + k * 3 + j, none⟩ = some u

theorem open_steps {n : Nat} {v : Value} {x : DataW H × List MemPlace} (h : DataW.trod enc Try.prog w base spare held n 24 [v] = some x)
    {ts : List TypeId} {ds : List (DataW H)} (hsz : (DataW.weightsEach Try.prog ts ds).all (· ≤ reachBytes) = true) {q : Nat} (ht : ts[q]? = some 24) (hd : ds[q]? = some x.1) : ∃ len os, Steps3 w v len os ∧ len ≤ 4999999999999 := by
  rcases open_slice Try.underlying24 h with ⟨h0, _⟩ | ⟨a, len, cap, m, n2, D, Pl, hv, hb, hl, hm, hmm, hx1, hx⟩
  · simp only [List.cons.injEq, and_true] at h0
    exact ⟨0, fun _ => ⟨0, 0, ⟨#[]⟩⟩, ⟨none, 0, h0, fun k hk => by omega⟩, by omega⟩
  · simp only [List.cons.injEq, and_true] at hv
    have hlm : len ≤ m := by rw [hmm]; split <;> omega
    have each : ∀ i, i < len → ∃ o : StV, o.ok ∧ ∀ j u, (stCells o)[j]? = some u → w.cell? (a.add (i * 3 + j)) = some u := by
      intro i hi
      obtain ⟨cs', h1, h2⟩ := hx i (by omega)
      rw [Try.cells29] at h1
      obtain ⟨_, hlen, hcell⟩ := World.cells?_some h1
      obtain ⟨o, rfl, hs⟩ := st_cells h2
      refine ⟨o, hs, fun j u hu => ?_⟩
      have hj : j < 3 := by
        rcases Nat.lt_or_ge j 3 with h | h
        · exact h
        · rw [List.getElem?_eq_none (show (stCells o).length ≤ j from h)] at hu; cases hu
      rw [← Deep.add_add, hcell j hj, hu]
    obtain ⟨os, hos⟩ := @choose_lt StV ⟨⟨0, 0, ⟨#[]⟩⟩⟩ len _ each
    refine ⟨len, os, ⟨some a, cap, hv, fun k hk => ?_⟩, ?_⟩
    · have hsp := (hos 0 (by omega)).2 0 _ rfl
      obtain ⟨gb, off, spot⟩ := a
      have hs0 : spot = none := by
        cases spot with
        | none => rfl
        | some n =>
          exfalso
          simp [Addr.add, World.cell?] at hsp
          split at hsp <;> simp at hsp
      subst hs0
      refine ⟨gb, off, rfl, (hos k hk).1, fun j u hu => ?_⟩
      have := (hos k hk).2 j u hu
      rw [Nat.add_assoc]
      generalize k * 3 + j = q at *
      by_cases hq : q = 0
      · subst hq; simpa [Addr.add] using this
      · simpa [Addr.add, hq] using this
    · rw [hx1] at hd
      have := sized_slice hsz ht hd Try.underlying24
      rw [show Try.prog.bytesOf 29 = 32 from by kernel_rfl] at this
      simp only [List.length_map, List.length_range] at this
      unfold reachBytes at this
      omega
end

theorem agg3 (cs : Array Value) (x y z : Value) (hl : (Value.agg cs).cells.toList.length = 3) (e0 : (Value.agg cs).cells.toList[0]? = some x) (e1 : (Value.agg cs).cells.toList[1]? = some y) (e2 : (Value.agg cs).cells.toList[2]? = some z) : cs = #[x, y, z] := by
  have h : (Value.agg cs).cells = cs := rfl
  rw [h] at hl e0 e1 e2
  obtain ⟨l⟩ := cs
  match l, hl with
  | [a, b, c], _ =>
    simp at e0 e1 e2
    rw [e0, e1, e2]

/-- the changes behind the first k steps -/
def csAt (a : Int) (os : Nat → StV) : Nat → List Do.Chg
  | 0 => []
  | k + 1 => stRes a (csAt a os k) (os k)
theorem csAt_len (a : Int) (os : Nat → StV) : ∀ k, (csAt a os k).length ≤ k
  | 0 => Nat.le_refl _
  | k + 1 => by have := csAt_len a os k; have := stRes_len a (csAt a os k) (os k); rw [csAt]; omega

/-- at most so many bytes -/
def cut (s : ByteArray) (n : Nat) : ByteArray := if n < s.size then s.extract 0 n else s
theorem cut_size (s : ByteArray) (n : Nat) : (cut s n).size = min n s.size := by
  unfold cut
  split
  · rw [ByteArray.size_extract]; omega
  · omega
set_option maxHeartbeats 400000 in
theorem kshort_any (s : ByteArray) (n : Nat) (w : World) (_hs : s.size ≤ 9223372036854775807) (hn : n ≤ 1000) :
    Calls Try.prog 9 #[.string s, .int .i64 (n : Int)] w fun e w' => e = .returned (.string (cut s n)) ∧ w' = w := by
  by_cases h : n < s.size
  · have HC : Hid (cut s n = s.extract 0 n) := by show _ = _; unfold cut; rw [if_pos h]
    have d : decide ((n : Int) < (s.size : Int)) = true := by rw [decide_eq_true_eq]; omega
    go_enter Try.func9, Try.ntmps9
    go_wp2
    go_ret
    exact ⟨by rw [HC.out]; rfl, rfl⟩
  · have HC : Hid (cut s n = s) := by show _ = _; unfold cut; rw [if_neg h]
    have d : decide ((n : Int) < (s.size : Int)) = false := by rw [decide_eq_false_iff_not]; omega
    go_enter Try.func9, Try.ntmps9
    go_wp2
    go_ret
    exact ⟨by rw [HC.out]; rfl, rfl⟩

end Go.Proofs.Ythkndfkkgncjfab
