/- LawN, LawT, LawO, LawX. -/
import Derived.Test.YthkndfkkgncjfaaLawIJA
import Derived.Test.YthkndfkkgncjfaaLawXJA
namespace Go.Proofs.Ythkndfkkgncjfaa
open Go.RowKit
set_option maxRecDepth 100000

theorem OwnV.cells {w : World} {B : Nat} {v : Value} {l : List Nat} (h : OwnV w B v l) : ∃ ao cap, v = .slice ao l.length cap ∧ ∀ k, k < l.length → ∃ g, ao = some ⟨g, 0, none⟩ ∧ w.cell? ⟨g, k, none⟩ = some (.int .i64 (l.getD k 0 : Nat)) := by
  rcases h.2 with ⟨rfl, h0⟩ | ⟨g, cap, cur, rfl, _⟩
  · exact ⟨none, 0, by rw [h0], fun k hk => by omega⟩
  · exact ⟨_, cap, rfl, fun k hk => ⟨g, rfl, by rw [World.ownsRow.cellAt h k (by omega)]; exact I_get l k hk⟩⟩

theorem OwnV.weaken' {w : World} {B : Nat} {v : Value} {l : List Nat} (h : OwnV w B v l) : w.ownsRow 0 3 1 v l.length (I l) := by
  refine ⟨h.1, ?_⟩
  rcases h.2 with hn | ⟨g1, cap, cur, e, hB, rest⟩
  · exact .inl hn
  · exact .inr ⟨g1, cap, cur, e, Nat.zero_le _, rest⟩

set_option maxHeartbeats 400000 in
theorem sameI_any (B C : Nat) (v u : Value) (l : List Nat) (w : World) (hl : l.length ≤ 1000000) (ho : OwnV w B v l) (hr : OwnV w C u l) :
    Calls Try.prog 38 #[v, u] w fun e w' => e = .returned (.bool true) ∧ Below w.heap.size w w' := by
  obtain ⟨av, cv, rfl, hv⟩ := ho.cells
  obtain ⟨au, cu, rfl, hu⟩ := hr.cells
  have HV : Hid (∀ k, k < l.length → ∃ g, av = some ⟨g, 0, none⟩ ∧ w.cell? ⟨g, k, none⟩ = some (.int .i64 (l.getD k 0 : Nat))) := hv
  have HU : Hid (∀ k, k < l.length → ∃ g, au = some ⟨g, 0, none⟩ ∧ w.cell? ⟨g, k, none⟩ = some (.int .i64 (l.getD k 0 : Nat))) := hu
  have hne : ((l.length : Int) != (l.length : Int)) = false := by simp
  clear ho hr hv hu
  go_enter Try.func38, Try.ntmps38
  go_wp2
  go_loopw [5] (fun i wr => ∃ k : Nat, k ≤ l.length ∧ i = .int .i64 k ∧ ∃ m, wr = w.drewN m) (fun i _ => l.length - (intOf i).toNat)
  case atStart => exact ⟨0, Nat.zero_le _, rfl, 0, rfl⟩
  case round =>
    obtain ⟨k, hk, rfl, m, rfl⟩ := hrel
    by_cases hlt : k < l.length
    · obtain ⟨gv, rfl, c1⟩ := HV.out k hlt
      obtain ⟨gu, rfl, c2⟩ := HU.out k hlt
      obtain ⟨x, hx⟩ : ∃ x, l.getD k 0 = x := ⟨_, rfl⟩
      rw [hx] at c1 c2
      clear hx HV HU
      have hn : ((x : Int) != (x : Int)) = false := by simp
      go_wp2
      go_quiet (fail)
      go_wp2
      go_roundw
      case rel => exact ⟨k + 1, by omega, by go_num, _, rfl⟩
      case measure => simp [intOf]; omega
    · go_wp2
      go_ret
      exact ⟨rfl, below_drewN (Below.refl _ _) _⟩

theorem OwnO.cells {w : World} {B : Nat} {v : Value} {l : List Do.Oc} (h : OwnO w B v l) : ∃ ao cap, v = .slice ao l.length cap ∧ ∀ k o, l[k]? = some o → ∃ g, ao = some ⟨g, 0, none⟩ ∧ w.cell? ⟨g, k * 2, none⟩ = some (.int .i64 (o.id : Int)) ∧ w.cell? ⟨g, k * 2 + 1, none⟩ = some (.int .i64 (o.at' : Int)) := by
  rcases h.shape with ⟨rfl, rfl⟩ | ⟨g, cap, rfl, _, _⟩
  · exact ⟨none, 0, rfl, fun k o hk => by simp at hk⟩
  · exact ⟨_, cap, rfl, fun k o hk => ⟨g, rfl, h.cell rfl k o hk⟩⟩

set_option maxHeartbeats 400000 in
theorem sameH_any (B C : Nat) (v u : Value) (l : List Do.Oc) (w : World) (hl : l.length ≤ 1000000) (ho : OwnO w B v l) (hr : OwnO w C u l) :
    Calls Try.prog 87 #[v, u] w fun e w' => e = .returned (.bool true) ∧ Below w.heap.size w w' := by
  obtain ⟨av, cv, rfl, hv⟩ := ho.cells
  obtain ⟨au, cu, rfl, hu⟩ := hr.cells
  have HV : Hid (∀ k o, l[k]? = some o → ∃ g, av = some ⟨g, 0, none⟩ ∧ w.cell? ⟨g, k * 2, none⟩ = some (.int .i64 (o.id : Int)) ∧ w.cell? ⟨g, k * 2 + 1, none⟩ = some (.int .i64 (o.at' : Int))) := hv
  have HU : Hid (∀ k o, l[k]? = some o → ∃ g, au = some ⟨g, 0, none⟩ ∧ w.cell? ⟨g, k * 2, none⟩ = some (.int .i64 (o.id : Int)) ∧ w.cell? ⟨g, k * 2 + 1, none⟩ = some (.int .i64 (o.at' : Int))) := hu
  have hne : ((l.length : Int) != (l.length : Int)) = false := by simp
  clear ho hr hv hu
  go_enter Try.func87, Try.ntmps87
  go_wp2
  go_loopw [5] (fun i wr => ∃ k : Nat, k ≤ l.length ∧ i = .int .i64 k ∧ ∃ m, wr = w.drewN m) (fun i _ => l.length - (intOf i).toNat)
  case atStart => exact ⟨0, Nat.zero_le _, rfl, 0, rfl⟩
  case round =>
    obtain ⟨k, hk, rfl, m, rfl⟩ := hrel
    by_cases hlt : k < l.length
    · obtain ⟨o, hok⟩ : ∃ o, l[k]? = some o := ⟨l[k], List.getElem?_eq_getElem hlt⟩
      obtain ⟨gv, rfl, c1, c2⟩ := HV.out k o hok
      obtain ⟨gu, rfl, c3, c4⟩ := HU.out k o hok
      clear HV HU hok
      have hn : ((o.id : Int) != (o.id : Int)) = false := by simp
      have hn2 : ((o.at' : Int) != (o.at' : Int)) = false := by simp
      go_wp2
      go_quiet (fail)
      go_wp2
      go_roundw
      case rel => exact ⟨k + 1, by omega, by go_num, _, rfl⟩
      case measure => simp [intOf]; omega
    · go_wp2
      go_ret
      exact ⟨rfl, below_drewN (Below.refl _ _) _⟩

section
variable {At : World → Nat → Int → Int → Int → List Do.Chg → (Nat → Prop) → Prop} {DP DQ : World → Nat → (Nat → Prop) → Prop}
variable {w w' : World} {B G D : Nat} {v : Value} {bs : List Bk} {own : Nat → Nat}

/-- the drawer has turned, and nothing else that is labelled -/
theorem Inv.drawStep (hC : Serves At 67 73 74 28 34 36 56 35) (hD : Drawn DQ) (h : Inv At DP w B G D v bs own) (X : Nat → Prop) (hX : ∀ k, X k → own k = 0 ∧ B ≤ k) (ho : Only (fun k => own k = 2 ∨ X k) w w')
    (hn : ∃ N, DQ w' D N ∧ ∀ k, N k → own k = 2 ∨ X k ∨ w.heap.size ≤ k) (hB : B ≤ w.heap.size) : ∃ own', Inv At DQ w' B G D v bs own' := by
  obtain ⟨N, hN, hNk⟩ := hn
  have dec : DecidablePred N := fun _ => Classical.propDecidable _
  have hs : ∀ k, own k ≠ 0 → own k ≠ 2 → w'.heap[k]? = w.heap[k]? := fun k hk hne => ho.block k (h.mine k hk).2 (fun hf => by
    rcases hf with hf | hf
    · exact hne hf
    · exact hk (hX k hf).1)
  have up : ∀ t, t ≠ 0 → ∀ k, own k = t → (if own k = 0 then (if N k then 2 else 0) else own k) = t := fun t ht k hk => by rw [if_neg (by rw [hk]; exact ht)]; exact hk
  have dn : ∀ t, t ≠ 0 → t ≠ 2 → ∀ k, (if own k = 0 then (if N k then 2 else 0) else own k) = t → own k = t := fun t h0 h2 k hk => by
    by_cases e : own k = 0
    · rw [if_pos e] at hk
      by_cases e2 : N k
      · rw [if_pos e2] at hk; exact absurd hk.symm h2
      · rw [if_neg e2] at hk; exact absurd hk.symm h0
    · rw [if_neg e] at hk; exact hk
  have hlt : ∀ k, (if own k = 0 then (if N k then 2 else 0) else own k) ≠ 0 → B ≤ k ∧ k < w'.heap.size := fun k hk => by
    by_cases e : own k = 0
    · rw [if_pos e] at hk
      by_cases e2 : N k
      · refine ⟨?_, hD.lt hN k e2⟩
        rcases hNk k e2 with q | q | q
        · rw [e] at q; cases q
        · exact (hX k q).2
        · omega
      · rw [if_neg e2] at hk; exact absurd rfl hk
    · exact ⟨(h.mine k e).1, Nat.lt_of_lt_of_le (h.mine k e).2 ho.size⟩
  refine ⟨fun k => if own k = 0 then (if N k then 2 else 0) else own k, ⟨?_, ?_, ?_, ?_, ?_, ?_, ?_, ?_⟩⟩
  · exact (hs G (by rw [h.ownG]; decide) (by rw [h.ownG]; decide)).trans h.wo
  · exact row_same h.row (fun g hg => hs g (by rw [h.rowOwn g hg]; decide) (by rw [h.rowOwn g hg]; decide))
  · intro g hg; exact up 1 (by decide) g (h.rowOwn g hg)
  · exact up 1 (by decide) G h.ownG
  · refine hD.wide hN (fun k hk => ?_) (fun k hk => (hlt k (by rw [hk]; decide)).2)
    by_cases e : own k = 0
    · rw [if_pos e, if_pos hk]
    · rw [if_neg e]
      rcases hNk k hk with q | q | q
      · exact q
      · exact absurd (hX k q).1 e
      · have := (h.mine k e).2; omega
  · intro i b hi
    exact hC.wide (hC.frame (h.code i b hi) ho.size (fun k hk => hs k (by rw [hk]; omega) (by rw [hk]; omega))) (up _ (by omega)) (fun k hk => (hlt k (by rw [hk]; omega)).2)
  · intro i b hi
    exact ref_serves.wide (ref_serves.frame (h.ref i b hi) ho.size (fun k hk => hs k (by rw [hk]; omega) (by rw [hk]; omega))) (up _ (by omega)) (fun k hk => (hlt k (by rw [hk]; omega)).2)
  · exact hlt
end

section
variable {At : World → Nat → Int → Int → Int → List Do.Chg → (Nat → Prop) → Prop}
variable {B G D m : Nat} {v : Value} {bs : List Bk}

set_option maxHeartbeats 2000000 in
theorem asked_lst (hC : Serves At 67 73 74 28 34 36 56 35) (own : Nat → Nat) (i : Nat) (b : Bk) (o : OpV) (w : World) (hm : m ≤ 1999999999998) (h : Inv At (DS m) w B G D v bs own) (hB : B ≤ w.heap.size) (hi : bs[i]? = some b) (hcx : b.cx = b.cr) (hl : b.cr.length ≤ 2000000000000) (hk : o.k = 5) (hra : inR o.a) (hrb : inR o.b) :
    Calls Try.prog 72 #[.pointer (some ⟨G, 0, none⟩), bkV b, opV o] w fun e w' => e = .returned (.bool true) ∧ (∃ own', Inv At (DS (m + 1)) w' B G D v bs own') ∧ Below B w w' := by
  obtain ⟨ok, oon, oa, ob, oc, os, f0, f1, f2⟩ := o
  dsimp only at *
  subst hk
  unfold bkV opV
  dsimp only
  have hD := drawn_some m
  go_enter Try.func72, Try.ntmps72
  have y0 := World.news_of_block (Below.heap_alloc _ (.cells #[.int .i64 5, .int .i64 oon, .int .i64 oa, .int .i64 ob, .int .i64 oc, .string os, .int .i64 f0, .int .i64 f1, .int .i64 f2] 98) w.heap.size (by simp) |>.trans (heap_alloc_new w (.cells #[.pointer (some ⟨b.x, 0, none⟩), .pointer (some ⟨b.r, 0, none⟩)] 124)))
  have y1 := World.news_of_block (heap_alloc_new (w.alloc (.cells #[.pointer (some ⟨b.x, 0, none⟩), .pointer (some ⟨b.r, 0, none⟩)] 124)) (.cells #[.int .i64 5, .int .i64 oon, .int .i64 oa, .int .i64 ob, .int .i64 oc, .string os, .int .i64 f0, .int .i64 f1, .int .i64 f2] 98))
  have hb0 : Below w.heap.size w ((w.alloc (.cells #[.pointer (some ⟨b.x, 0, none⟩), .pointer (some ⟨b.r, 0, none⟩)] 124)).alloc (.cells #[.int .i64 5, .int .i64 oon, .int .i64 oa, .int .i64 ob, .int .i64 oc, .string os, .int .i64 f0, .int .i64 f1, .int .i64 f2] 98)) := ((Below.refl _ _).alloc (Nat.le_refl _) _).alloc (by simp) _
  have hsz : ((w.alloc (.cells #[.pointer (some ⟨b.x, 0, none⟩), .pointer (some ⟨b.r, 0, none⟩)] 124)).alloc (.cells #[.int .i64 5, .int .i64 oon, .int .i64 oa, .int .i64 ob, .int .i64 oc, .string os, .int .i64 f0, .int .i64 f1, .int .i64 f2] 98)).heap.size = w.heap.size + 2 := by simp
  have zp := y0 1 _ rfl
  have z2 := y1 2 _ rfl
  have z3 := y1 3 _ rfl
  clear y0 y1
  go_wp2_with fail
  have hI1 := h.quiet hC hD hb0
  generalize (w.alloc (.cells #[.pointer (some ⟨b.x, 0, none⟩), .pointer (some ⟨b.r, 0, none⟩)] 124)).alloc (.cells #[.int .i64 5, .int .i64 oon, .int .i64 oa, .int .i64 ob, .int .i64 oc, .string os, .int .i64 f0, .int .i64 f1, .int .i64 f2] 98) = w1 at *
  refine (hC.list oa ob (by rw [hcx]; exact hl) hra hrb (hI1.code i b hi)).mono ?_
  rintro e w2 ⟨lv, rfl, hlv, hb2⟩
  have s2 := hb2.size
  have zzp : w2.cell? ⟨w.heap.size, 1, none⟩ = some (.pointer (some ⟨b.r, 0, none⟩)) := by
    rw [hb2.cell (by show w.heap.size < w1.heap.size; omega)]; simpa [Addr.add] using zp
  have zz2 : w2.cell? ⟨w.heap.size + 1, 2, none⟩ = some (.int .i64 oa) := by
    rw [hb2.cell (by show w.heap.size + 1 < w1.heap.size; omega)]; simpa [Addr.add] using z2
  have zz3 : w2.cell? ⟨w.heap.size + 1, 3, none⟩ = some (.int .i64 ob) := by
    rw [hb2.cell (by show w.heap.size + 1 < w1.heap.size; omega)]; simpa [Addr.add] using z3
  have hI2 := hI1.quiet hC hD hb2
  have HR : Hid (Calls Try.prog 83 #[.pointer (some ⟨b.r, 0, none⟩), .int .i64 oa, .int .i64 ob] w2 fun e w' => ∃ v, e = .returned (.tuple #[v, .int .i64 (lstRes b.cr oa ob).2]) ∧ OwnV w' w2.heap.size v (lstRes b.cr oa ob).1 ∧ Below w2.heap.size w2 w') := ref_serves.list oa ob hl hra hrb (hI2.ref i b hi)
  have hlen : (lstRes b.cr oa ob).1.length ≤ 8 := by
    unfold lstRes
    split
    · simp
    · rename_i hnn
      have := Do.idsTo_len (Do.there b.cr) oa ob.toNat (Do.there b.cr).length
      show (Do.idsTo _ _ _ _).length ≤ 8
      omega
  clear hI1 zp z2 z3
  rw [hcx]
  rw [hcx] at hlv
  generalize (lstRes b.cr oa ob).1 = q1 at *
  generalize (lstRes b.cr oa ob).2 = q2 at *
  go_wp2_with fail
  refine HR.out.mono ?_
  rintro e w3 ⟨mv, rfl, hmv, hb3⟩
  have s3 := hb3.size
  have hlv3 := hlv.below hb3
  have hI3 := hI2.quiet hC hD hb3
  clear HR zzp zz2 zz3 hlv hI2
  go_wp2_with fail
  refine (sameI_any _ _ lv mv q1 w3 (by omega) hlv3 hmv).mono ?_
  rintro e w4 ⟨rfl, hb4⟩
  have s4 := hb4.size
  have hlv4 := hlv3.below hb4
  have hI4 := hI3.quiet hC hD hb4
  clear hlv3 hmv hI3
  have cD : w4.cell? ⟨G, 1, none⟩ = some (.pointer (some ⟨D, 0, none⟩)) := by rw [cell_of_row w4 _ 1 _ 31 (0, 0) hI4.wo]; rfl
  have h0 : ∀ k, w.heap.size ≤ k → own k = 0 := fun k hk => by
    cases hc : own k with
    | zero => rfl
    | succ n => have := (h.mine k (by rw [hc]; omega)).2; omega
  have hlb : ∀ g, lv.ownBlock = some g → w.heap.size ≤ g := fun g hg => by have := (World.ownsRow.lt hlv4 g hg).1; omega
  obtain ⟨hmm, vi, vh, vn, vm, Li, Lh, hda⟩ := hI4.dr
  have HK : Hid (Calls Try.prog 39 #[.pointer (some ⟨D, 0, none⟩), lv] w4 fun e w' => e = .returned (.tuple #[]) ∧ Only (fun k => own k = 2 ∨ lv.ownBlock = some k) w4 w' ∧ ∃ G, DS (m + 1) w' D G ∧ ∀ k, G k → own k = 2 ∨ lv.ownBlock = some k ∨ w4.heap.size ≤ k) :=
    keepI_any m D _ vi vh vn vm Li Lh lv q1.length (I q1) w4 hm (by omega) hda (OwnV.weaken' hlv4) (fun g hg => by rw [h0 g (hlb g hg)]; decide)
  clear hda hlv4
  go_wp2_with fail
  refine HK.out.mono ?_
  rintro e w5 ⟨rfl, ho5, hn5⟩
  obtain ⟨own', hI5⟩ := hI4.drawStep hC (drawn_some (m + 1)) (fun k => lv.ownBlock = some k) (fun k hk => ⟨h0 k (hlb k hk), by have := hlb k hk; omega⟩) ho5 hn5 (by omega)
  have hbl : Below B w w5 := by
    refine ((hb0.trans (hb2.mono (by omega))).trans ((hb3.mono (by omega)).trans (hb4.mono (by omega)))).mono hB |>.trans ⟨ho5.os, ho5.tape, ho5.output, ho5.size, fun k hk => ho5.block k (by omega) (fun hf => ?_)⟩
    rcases hf with hf | hf
    · have := (h.mine k (by rw [hf]; decide)).1; omega
    · have := hlb k hf; omega
  clear HK hI4 cD ho5 hn5
  go_wp2_with fail
  refine (num_any _ _).mono ?_
  rintro e w6 ⟨rfl, hw6⟩; rw [hw6]; clear hw6
  go_wp2_with fail
  go_ret
  exact ⟨rfl, ⟨own', hI5⟩, hbl⟩
end

end Go.Proofs.Ythkndfkkgncjfaa

namespace Go.Proofs.Ythkndfkkgncjfaa
open Go.RowKit
set_option maxRecDepth 100000

section
variable {At : World → Nat → Int → Int → Int → List Do.Chg → (Nat → Prop) → Prop}

/-- a law's steps: the kinds that are asked go as they should -/
def StepsTo (M : Nat) (At : World → Nat → Int → Int → Int → List Do.Chg → (Nat → Prop) → Prop) (DS : Nat → World → Nat → (Nat → Prop) → Prop) (lo hi : Int) : Prop :=
  ∀ (B G D m n : Nat) (v : Value) (bs : List Bk) (own : Nat → Nat) (o : OpV) (w : World), m ≤ n → Inv At (DS m) w B G D v bs own → B ≤ w.heap.size → Good bs n → n < M → o.ok → (o.k ≤ 3 ∨ lo ≤ o.k ∧ o.k ≤ hi) →
    Calls Try.prog 49 #[.pointer (some ⟨G, 0, none⟩), opV o] w fun e w' => e = .returned (.bool true) ∧ Left At DS B G D (n + 1) w w'

set_option maxHeartbeats 4000000 in
theorem plays_to {M : Nat} (hM : M ≤ 1999999999999) {DS : Nat → World → Nat → (Nat → Prop) → Prop} (hC : Serves At 67 73 74 28 34 36 56 35) (hD : ∀ m, Drawn (DS m)) (hz : ∀ w D, w.heap[D]? = some (.cells #[.int .i64 0, .slice none 0 0, .slice none 0 0, .slice none 0 0, .slice none 0 0] 28 (0, 0)) → DS 0 w D (fun k => k = D))
    (lo hi : Int) (hst : StepsTo M At DS lo hi) (sv : Value) (len : Nat) (os : Nat → OpV) (w : World) (hsc : Script w sv len os) (hlen : len ≤ M) :
    Calls Try.prog 25 #[sv, .int .i64 lo, .int .i64 hi] w fun e w' => e = .returned (.bool true) ∧ Below w.heap.size w w' := by
  obtain ⟨a0, cap, rfl, hsv⟩ : ∃ a0 cap, sv = .slice a0 len cap ∧ (∀ {k : Nat}, k < len → ∃ gb off, a0 = some ⟨gb, off, none⟩ ∧ ∀ i, i < len → (os i).ok ∧ ∀ j u, (opCells (os i))[j]? = some u → w.cell? ⟨gb, off + i * 9 + j, none⟩ = some u) := by
    rcases hsc with ⟨h1, h2⟩ | ⟨a, cap, h1, _, h2⟩
    · exact ⟨none, 0, by rw [h2]; exact h1, fun h => by omega⟩
    · refine ⟨some a, cap, h1, fun {k} hk => ?_⟩
      have hsp := (h2 0 (by omega)).2 0 _ rfl
      obtain ⟨gb, off, spot⟩ := a
      have hs0 : spot = none := by
        cases spot with
        | none => rfl
        | some n =>
          exfalso
          simp [Addr.add, World.cell?] at hsp
          split at hsp <;> simp at hsp
      subst hs0
      refine ⟨gb, off, rfl, fun i hi => ⟨(h2 i hi).1, fun j u hu => ?_⟩⟩
      have := (h2 i hi).2 j u hu
      rw [Nat.add_assoc]
      generalize i * 9 + j = q at *
      by_cases hq : q = 0
      · subst hq; simpa [Addr.add] using this
      · simpa [Addr.add, hq] using this
  clear hsc
  go_enter Try.func25, Try.ntmps25
  go_wp2_with fail
  have hb0 : Below w.heap.size w ((w.alloc (.cells #[.int .i64 0, .slice none 0 0, .slice none 0 0, .slice none 0 0, .slice none 0 0] 28)).alloc (.cells #[.slice none 0 0, .pointer (some ⟨w.heap.size, 0, none⟩)] 31)) := ((Below.refl _ _).alloc (Nat.le_refl _) _).alloc (by simp) _
  have hsz : ((w.alloc (.cells #[.int .i64 0, .slice none 0 0, .slice none 0 0, .slice none 0 0, .slice none 0 0] 28)).alloc (.cells #[.slice none 0 0, .pointer (some ⟨w.heap.size, 0, none⟩)] 31)).heap.size = w.heap.size + 2 := by simp
  have hGo : ((w.alloc (.cells #[.int .i64 0, .slice none 0 0, .slice none 0 0, .slice none 0 0, .slice none 0 0] 28)).alloc (.cells #[.slice none 0 0, .pointer (some ⟨w.heap.size, 0, none⟩)] 31)).heap[w.heap.size + 1]? = some (.cells #[.slice none 0 0, .pointer (some ⟨w.heap.size, 0, none⟩)] 31 (0, 0)) := by
    have := heap_alloc_new (w.alloc (.cells #[.int .i64 0, .slice none 0 0, .slice none 0 0, .slice none 0 0, .slice none 0 0] 28)) (.cells #[.slice none 0 0, .pointer (some ⟨w.heap.size, 0, none⟩)] 31)
    simpa using this
  have hDo : ((w.alloc (.cells #[.int .i64 0, .slice none 0 0, .slice none 0 0, .slice none 0 0, .slice none 0 0] 28)).alloc (.cells #[.slice none 0 0, .pointer (some ⟨w.heap.size, 0, none⟩)] 31)).heap[w.heap.size]? = some (.cells #[.int .i64 0, .slice none 0 0, .slice none 0 0, .slice none 0 0, .slice none 0 0] 28 (0, 0)) := by
    rw [Below.heap_alloc _ _ w.heap.size (by simp)]
    exact heap_alloc_new w _
  generalize (w.alloc (.cells #[.int .i64 0, .slice none 0 0, .slice none 0 0, .slice none 0 0, .slice none 0 0] 28)).alloc (.cells #[.slice none 0 0, .pointer (some ⟨w.heap.size, 0, none⟩)] 31) = w1 at *
  obtain ⟨own1, hI1⟩ := Inv.start (At := At) (DP := DS 0) (B := w.heap.size) hGo (hz w1 w.heap.size hDo) (by omega) (Nat.le_refl _) (Nat.le_succ _) (by omega)
  refine (opened_ok hC (hD 0) own1 400 8 3 w1 (by unfold okc; omega) hI1 (by omega) (by simp)).mono ?_
  rintro e w2 ⟨rfl, x, r, v2, own2, hI2, ho2⟩
  have hb2 : Below w.heap.size w w2 := hb0.trans (hI1.low (by omega) ho2)
  obtain ⟨g2, cap2, hv2⟩ : ∃ g cap, v2 = .slice (some ⟨g, 0, none⟩) 1 cap := by
    rcases hI2.row.2 with ⟨_, h0⟩ | ⟨g, cap, cur, rfl, _⟩
    · simp at h0
    · exact ⟨g, cap, rfl⟩
  subst hv2
  have cG2 : w2.cell? ⟨w.heap.size + 1, 0, none⟩ = some (.slice (some ⟨g2, 0, none⟩) 1 cap2) := by rw [cell_of_row w2 _ 0 _ 31 (0, 0) hI2.wo]; rfl
  have fG2 : w2.frozen? ⟨w.heap.size + 1, 0, none⟩ = false := frozen_of_row w2 _ 0 _ 31 hI2.wo
  have hI3 := hI2.reset (hD 0)
  have hb3 : Below w.heap.size w (w2.setCell ⟨w.heap.size + 1, 0, none⟩ (.slice none 0 0)) := hb2.setCell (p := ⟨w.heap.size + 1, 0, none⟩) (Nat.le_succ _) _
  have HI3 : Hid (Inv At (DS 0) (w2.setCell ⟨w.heap.size + 1, 0, none⟩ (.slice none 0 0)) w.heap.size (w.heap.size + 1) w.heap.size (.slice none 0 0) [] own2) := hI3
  clear hI1 hI2 hI3 ho2 hGo hDo hb0 hb2
  go_wp2_with fail
  generalize w2.setCell ⟨w.heap.size + 1, 0, none⟩ (.slice none 0 0) = w3 at *
  clear cG2 fG2
  go_loopw [9] (fun i wr => ∃ k : Nat, k ≤ len ∧ i = .int .i64 k ∧ (∃ m v bs own, m ≤ k ∧ Inv At (DS m) wr w.heap.size (w.heap.size + 1) w.heap.size v bs own ∧ Good bs k) ∧ Below w.heap.size w wr) (fun i _ => len - (intOf i).toNat)
  case atStart => exact ⟨0, Nat.zero_le _, rfl, ⟨0, _, _, _, Nat.le_refl _, HI3.out, ⟨Nat.le_refl _, by simp⟩⟩, hb3⟩
  case round =>
    obtain ⟨k, hk, rfl, hinv, hb⟩ := hrel
    clear HI3 hb3
    by_cases hlt : k < len
    · obtain ⟨gb, off, rfl, hcell⟩ := hsv hlt
      obtain ⟨hok, hcs⟩ := hcell k hlt
      have hal : gb < w.heap.size := World.block_lt_of_cell? w ⟨gb, off + k * 9 + 0, none⟩ (hcs 0 _ rfl)
      have cs : ∀ (j : Nat) (u : Value), (opCells (os k))[j]? = some u → wr.cell? ⟨gb, off + k * 9 + j, none⟩ = some u := fun j u hu => (hb.cell (p := ⟨gb, off + k * 9 + j, none⟩) hal).trans (hcs j u hu)
      have c0 : wr.cell? ⟨gb, off + k * 9, none⟩ = _ := cs 0 _ rfl
      have c1 := cs 1 _ rfl
      have c2 := cs 2 _ rfl
      have c3 := cs 3 _ rfl
      have c4 := cs 4 _ rfl
      have c5 := cs 5 _ rfl
      have c6 := cs 6 _ rfl
      have c7 := cs 7 _ rfl
      have c8 := cs 8 _ rfl
      clear cs hcs hcell hsv
      obtain ⟨m, v, bs, own, hm, hI, hgd⟩ := hinv
      have HR : (os k).k ≤ 3 ∨ lo ≤ (os k).k ∧ (os k).k ≤ hi → Calls Try.prog 49 #[.pointer (some ⟨w.heap.size + 1, 0, none⟩), opV (os k)] wr fun e w' => e = .returned (.bool true) ∧ Left At DS w.heap.size (w.heap.size + 1) w.heap.size (k + 1) wr w' := fun hkk => hst _ _ _ m k v bs own (os k) wr hm hI hb.size hgd (by omega) hok hkk
      have HS : Hid (∃ m v bs own, m ≤ k + 1 ∧ Inv At (DS m) wr w.heap.size (w.heap.size + 1) w.heap.size v bs own ∧ Good bs (k + 1)) := ⟨m, v, bs, own, by omega, hI, hgd.mono (Nat.le_succ _)⟩
      have HB : Hid (Below w.heap.size w wr) := hb
      have HD : Hid (∀ m, Drawn (DS m)) := hD
      have HC : Hid (Serves At 67 73 74 28 34 36 56 35) := hC
      clear hI hgd hst hb hok hz hD hC
      rcases Int.lt_or_le 3 (os k).k with q3 | q3
      · rcases Int.lt_or_le (os k).k lo with ql | ql
        · have d3 : decide (3 < (os k).k) = true := by simpa using q3
          have dl : decide ((os k).k < lo) = true := by simpa using ql
          clear HR
          go_wp2_with fail
          exact ⟨⟨k + 1, by omega, by go_num, HS.out, HB.out⟩, by simp [intOf]; omega⟩
        · rcases Int.lt_or_le hi (os k).k with qh | qh
          · have d3 : decide (3 < (os k).k) = true := by simpa using q3
            have dl : decide ((os k).k < lo) = false := by simpa using ql
            have dh : decide (hi < (os k).k) = true := by simpa using qh
            clear HR
            go_wp2_with fail
            exact ⟨⟨k + 1, by omega, by go_num, HS.out, HB.out⟩, by simp [intOf]; omega⟩
          · have d3 : decide (3 < (os k).k) = true := by simpa using q3
            have dl : decide ((os k).k < lo) = false := by simpa using ql
            have dh : decide (hi < (os k).k) = false := by simpa using qh
            have HRR : Hid (Calls Try.prog 49 #[.pointer (some ⟨w.heap.size + 1, 0, none⟩), opV (os k)] wr fun e w' => e = .returned (.bool true) ∧ Left At DS w.heap.size (w.heap.size + 1) w.heap.size (k + 1) wr w') := HR (.inr ⟨ql, qh⟩)
            clear HR
            go_wp2_with fail
            refine HRR.out.mono ?_
            rintro e w4 ⟨rfl, m4, v4, bs4, own4, hm4, hI4, hg4, hb4⟩
            clear HRR c0 c1 c2 c3 c4 c5 c6 c7 c8 HS
            have cD : w4.cell? ⟨w.heap.size + 1, 1, none⟩ = some (.pointer (some ⟨w.heap.size, 0, none⟩)) := by rw [cell_of_row w4 _ 1 _ 31 (0, 0) hI4.wo]; rfl
            have HL := (HD.out m4).looks hI4.dr
            have HI4 : Hid (Inv At (DS m4) w4 w.heap.size (w.heap.size + 1) w.heap.size v4 bs4 own4) := hI4
            have HB4 : Hid (Below w.heap.size w w4) := HB.out.trans hb4
            clear hI4 hb4 HB
            go_wp2_with fail
            refine HL.mono ?_
            rintro e w5 ⟨rfl, hb5⟩
            have HI5 : Hid (Inv At (DS m4) w5 w.heap.size (w.heap.size + 1) w.heap.size v4 bs4 own4) := HI4.out.quiet HC.out (HD.out m4) hb5
            have HB5 : Hid (Below w.heap.size w w5) := HB4.out.trans (hb5.mono HB4.out.size)
            clear HL HI4 HB4 hb5 cD
            go_wp2_with fail
            exact ⟨⟨k + 1, by omega, by go_num, ⟨m4, v4, bs4, own4, hm4, HI5.out, hg4⟩, HB5.out⟩, by simp [intOf]; omega⟩
      · have d3 : decide (3 < (os k).k) = false := by simpa using q3
        have HRR : Hid (Calls Try.prog 49 #[.pointer (some ⟨w.heap.size + 1, 0, none⟩), opV (os k)] wr fun e w' => e = .returned (.bool true) ∧ Left At DS w.heap.size (w.heap.size + 1) w.heap.size (k + 1) wr w') := HR (.inl q3)
        clear HR
        go_wp2_with fail
        refine HRR.out.mono ?_
        rintro e w4 ⟨rfl, m4, v4, bs4, own4, hm4, hI4, hg4, hb4⟩
        clear HRR c0 c1 c2 c3 c4 c5 c6 c7 c8 HS
        have cD : w4.cell? ⟨w.heap.size + 1, 1, none⟩ = some (.pointer (some ⟨w.heap.size, 0, none⟩)) := by rw [cell_of_row w4 _ 1 _ 31 (0, 0) hI4.wo]; rfl
        have HL := (HD.out m4).looks hI4.dr
        have HI4 : Hid (Inv At (DS m4) w4 w.heap.size (w.heap.size + 1) w.heap.size v4 bs4 own4) := hI4
        have HB4 : Hid (Below w.heap.size w w4) := HB.out.trans hb4
        clear hI4 hb4 HB
        go_wp2_with fail
        refine HL.mono ?_
        rintro e w5 ⟨rfl, hb5⟩
        have HI5 : Hid (Inv At (DS m4) w5 w.heap.size (w.heap.size + 1) w.heap.size v4 bs4 own4) := HI4.out.quiet HC.out (HD.out m4) hb5
        have HB5 : Hid (Below w.heap.size w w5) := HB4.out.trans (hb5.mono HB4.out.size)
        clear HL HI4 HB4 hb5 cD
        go_wp2_with fail
        exact ⟨⟨k + 1, by omega, by go_num, ⟨m4, v4, bs4, own4, hm4, HI5.out, hg4⟩, HB5.out⟩, by simp [intOf]; omega⟩
    · go_wp2_with fail
      go_ret
      exact ⟨rfl, hb⟩
end

end Go.Proofs.Ythkndfkkgncjfaa

namespace Go.Proofs.Ythkndfkkgncjfaa
open Go.RowKit
set_option maxRecDepth 100000

section
variable {At : World → Nat → Int → Int → Int → List Do.Chg → (Nat → Prop) → Prop}

/-- a step that asks a question which lays a list into the drawer -/
theorem step_lays (hC : Serves At 67 73 74 28 34 36 56 35) (B G D m n : Nat) (v : Value) (bs : List Bk) (own : Nat → Nat) (o : OpV) (w : World) (hm : m ≤ n) (h : Inv At (DS m) w B G D v bs own) (hB : B ≤ w.heap.size) (hg : Good bs n) (hn : n ≤ 2000000000000) (ho : o.ok)
    (h1 : o.k ≠ 1) (h2 : o.k ≠ 2) (h3 : o.k ≠ 3) (h10 : o.k ≠ 10) (h11 : o.k ≠ 11)
    (ask : ∀ (k : Nat) (b : Bk) (w1 : World), bs[k]? = some b → b.cx = b.cr → b.cr.length ≤ 2000000000000 → Inv At (DS m) w1 B G D v bs own → B ≤ w1.heap.size → Calls Try.prog 72 #[.pointer (some ⟨G, 0, none⟩), bkV b, opV o] w1 fun e w' => e = .returned (.bool true) ∧ (∃ own', Inv At (DS (m + 1)) w' B G D v bs own') ∧ Below B w1 w') :
    Calls Try.prog 49 #[.pointer (some ⟨G, 0, none⟩), opV o] w fun e w' => e = .returned (.bool true) ∧ Left At DS B G D (n + 1) w w' := by
  obtain ⟨rk, ron, ra, rb, rc, rf0, rf1, rf2, rs⟩ := ho
  have hD := drawn_some m
  have hGl := (h.mine G (by rw [h.ownG]; decide)).2
  have b1 : (o.k == 1) = false := by simpa using h1
  have b10 : (o.k == 10) = false := by simpa using h10
  have b11 : (o.k == 11) = false := by simpa using h11
  have cG : w.cell? ⟨G, 0, none⟩ = some v := by rw [cell_of_row w G 0 _ 31 (0, 0) h.wo]; rfl
  rcases Nat.eq_zero_or_pos bs.length with hz | hz
  · obtain ⟨a0, cap, hv⟩ : ∃ a0 cap, v = .slice a0 0 cap := by
      rcases h.row.2 with ⟨rfl, _⟩ | ⟨g, cap, cur, rfl, _⟩
      · exact ⟨none, 0, rfl⟩
      · exact ⟨_, cap, by rw [hz]⟩
    rw [hv] at cG
    refine (step_none o w a0 cap b1 b10 b11 cG hGl).mono ?_
    rintro e w' ⟨he, hb⟩
    exact ⟨he, m, v, bs, own, by omega, h.quiet hC hD hb, hg.mono (Nat.le_succ _), hb.mono hB⟩
  · obtain ⟨g, cap, hv, hgo⟩ : ∃ g cap, v = .slice (some ⟨g, 0, none⟩) bs.length cap ∧ own g = 1 := by
      rcases h.row.2 with ⟨_, h0⟩ | ⟨g, cap, cur, rfl, _⟩
      · omega
      · exact ⟨g, cap, rfl, h.rowOwn g rfl⟩
    rw [hv] at cG
    have hgl := (h.mine g (by rw [hgo]; decide)).2
    have hrow := h.row
    rw [hv] at hrow
    refine step_at (fun _ w' => Left At DS B G D (n + 1) w w') o w g bs.length cap b1 b10 b11 ron cG hGl hgl hz (Nat.le_trans hg.len hn) ?_
    intro k hk
    have hi : bs[k]? = some bs[k] := List.getElem?_eq_getElem hk
    generalize bs[k] = b at hi
    have hmem : b ∈ bs := List.mem_of_getElem? hi
    obtain ⟨hcx, hl⟩ := hg.each b hmem
    have c0 : w.cell? ⟨g, k * 2, none⟩ = some (.pointer (some ⟨b.x, 0, none⟩)) := by
      rw [World.ownsRow.cellAt hrow (k * 2) (by omega)]
      exact bks_get bs k 0 b hi (by omega)
    have c1 : w.cell? ⟨g, k * 2 + 1, none⟩ = some (.pointer (some ⟨b.r, 0, none⟩)) := by
      rw [World.ownsRow.cellAt hrow (k * 2 + 1) (by omega)]
      exact bks_get bs k 1 b hi (by omega)
    refine ⟨b.x, b.r, c0, c1, fun w1 hb => ?_⟩
    have hI := h.quiet hC hD hb
    have hB' : B ≤ w1.heap.size := Nat.le_trans hB hb.size
    rw [if_neg (by omega), if_neg (by omega)]
    refine (ask k b w1 hi hcx (Nat.le_trans hl hn) hI hB').mono ?_
    rintro e w' ⟨he, ⟨own', hI'⟩, hb'⟩
    exact ⟨he, m + 1, v, bs, own', by omega, hI', hg.mono (Nat.le_succ _), (hb.mono hB).trans hb'⟩

/-- the steps of Changes -/
theorem steps_changes (hC : Serves At 67 73 74 28 34 36 56 35) : StepsTo 1999999999999 At DS 4 5 := by
  intro B G D m n v bs own o w hm hI hB hg hn ho hk
  by_cases h5 : o.k = 5
  · refine step_lays hC B G D m n v bs own o w hm hI hB hg (by omega) ho (by omega) (by omega) (by omega) (by omega) (by omega) ?_
    intro k b w1 hi hcx hl hI1 hB1
    exact asked_lst hC own k b o w1 (by omega) hI1 hB1 hi hcx hl h5 ho.2.2.1 ho.2.2.2.1
  · refine (step_inv hC (drawn_some m) own n o w hI hB hg (by omega) ho h5 (by omega) (by omega) (by omega) (by omega)).mono ?_
    rintro e w' ⟨he, v', bs', own', q1, q2, q3⟩
    exact ⟨he, m, v', bs', own', by omega, q1, q2, q3⟩

theorem changes_law (hC : Serves At 67 73 74 28 34 36 56 35) (sv : Value) (len : Nat) (os : Nat → OpV) (w : World) (hsc : Script w sv len os) (hlen : len ≤ 1999999999999) :
    Calls Try.prog 8 #[sv] w fun e w' => e = .returned (.bool true) ∧ Below w.heap.size w w' := by
  go_enter Try.func8, Try.ntmps8
  go_wp2_with fail
  refine (plays_to (M := 1999999999999) (by omega) hC drawn_some drawn_start 4 5 (steps_changes hC) sv len os w hsc hlen).mono ?_
  rintro e w1 ⟨rfl, hb⟩
  go_wp2_with fail
  go_ret
  exact ⟨rfl, hb⟩
end

end Go.Proofs.Ythkndfkkgncjfaa

namespace Go.Proofs.Ythkndfkkgncjfaa
open Go.ChangeShapes Go.WideShapes Go.ChangeAt Go.RowKit
set_option linter.unusedVariables false
set_option maxRecDepth 100000

section
variable {At : World → Nat → Int → Int → Int → List Do.Chg → (Nat → Prop) → Prop}

theorem changes_lifted (hC : Serves At 67 73 74 28 34 36 56 35) (os : Os) (started : os.Started) (H : Type) (enc : TypeId × Value → H) :
    ReturnsInHanded {} Try.checked os 8 .any (Rows.changesSpec.pre6 enc Try.prog Try.f8 Rows.changesRow.domain false) (Rows.changesSpec.post enc Try.prog Try.f8 false true false false) := by
  refine returnsInHanded_of_change_sized (C := Try.checked) script_own started (by kernel_rfl) Try.func8
    (ChangeSpec.witness6 (enc := enc) (C := Try.checked) false ⟨#[], #[.slice none 0 0], []⟩ 8 (by kernel_rfl) (by kernel_rfl) (by kernel_rfl) (by kernel_rfl)) ?_
  intro W base args ds gs before hval0 hW hcnd hsz0 _
  have hval : ∀ (j : Nat) t v, Try.f8.params[j]? = some t → args[j]? = some v → Value.okWide Try.prog W .any base t v := hval0
  have hW' := hW
  obtain ⟨p, q, hA0, hV, rfl, hfz, hnd⟩ := hW
  have hA : DataW.TrodAll enc Try.prog W 0 (fun _ => true) true Try.f8.params.toList args.toList ds p := hA0
  have hsz : (DataW.weightsEach Try.prog (Try.f8.params.toList ++ Rows.changesSpec.plain.varTypes Try.prog) (ds ++ gs)).all (· ≤ reachBytes) = true := hsz0
  rw [Try.params8] at hA hval hsz
  obtain ⟨v0, vs0, d0, ds0, p0, q0, hargs, rfl, rfl, h0, r0⟩ := trodAll_cons hA
  obtain ⟨rfl, rfl, rfl⟩ := trodAll_nil r0
  obtain rfl : args = #[v0] := by cases args; simp_all
  obtain ⟨rfl, rfl⟩ := trodVars_none hV
  obtain ⟨a0, n0, cap0, rfl⟩ := okWide_slice Try.underlying47 (hval 0 47 v0 rfl rfl)
  have h0k := h0
  obtain ⟨fuel, hf⟩ := h0
  clear hA0 hval0
  have hlt : ∀ x ∈ p0, x.block < W.heap.size := fun x hx => by simpa using hW'.lt x (by simp [hx])
  obtain ⟨len, ops, hsc, hlen⟩ := script_len (x := (d0, p0)) hf hsz (j := 0) rfl rfl
  refine (changes_law hC _ len ops W hsc hlen).mono fun e W' ⟨he, bel⟩ => ?_
  subst he
  exact ⟨_, rfl, _, _, _, [], _, [], hW', trodAll_mk1 (shut_bool Try.underlying4 _), trodAll_cons_mk (Below.trod script_laid (by kernel_rfl) (of_decide_eq_true (by kernel_rfl)) h0k bel hlt) trodAll_mk0, rfl, bel.frame _, fun h => by cases h⟩

theorem changes_holds (hC : Serves At 67 73 74 28 34 36 56 35) : Rows.ChangesSaid :=
  OpenClaim.holds_of_wide 8 Try.f8 rfl rfl rfl rfl rfl rfl rfl ⟨rfl, rfl, rfl, rfl, rfl⟩ rfl rfl rfl rfl rfl (by kernel_rfl) Try.func8 (by kernel_rfl)
    (of_decide_eq_true (by kernel_rfl)) (by unfold Func.isWrapper; first | (rw [if_pos (by decide +kernel)]; kernel_rfl) | (rw [if_neg (by decide +kernel)]; exact ⟨rfl, rfl⟩))
    (fun os started H enc _ => changes_lifted hC os started H enc)

end

end Go.Proofs.Ythkndfkkgncjfaa
