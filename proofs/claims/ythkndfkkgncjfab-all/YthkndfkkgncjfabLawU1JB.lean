/- LawN, LawP, LawR, LawT, LawO1, LawU1. -/
import Derived.Test.YthkndfkkgncjfabLawQJA
import Derived.Test.YthkndfkkgncjfabLawU1JA
namespace Go.Proofs.Ythkndfkkgncjfab
open Go.RowKit
set_option maxRecDepth 100000

theorem OwnV.cells {w : World} {B : Nat} {v : Value} {l : List Nat} (h : OwnV w B v l) : ∃ ao cap, v = .slice ao l.length cap ∧ ∀ k, k < l.length → ∃ g, ao = some ⟨g, 0, none⟩ ∧ w.cell? ⟨g, k, none⟩ = some (.int .i64 (l.getD k 0 : Nat)) := by
  rcases h.2 with ⟨rfl, h0⟩ | ⟨g, cap, cur, rfl, _⟩
  · exact ⟨none, 0, by rw [h0], fun k hk => by omega⟩
  · exact ⟨_, cap, rfl, fun k hk => ⟨g, rfl, by rw [World.ownsRow.cellAt h k (by omega)]; exact I_get l k hk⟩⟩

theorem OwnV.weaken' {w : World} {B : Nat} {v : Value} {l : List Nat} (h : OwnV w B v l) : w.ownsRow 0 3 1 v l.length (I l) := by
  refine ⟨h.1, ?_⟩
  rcases h.2 with hn | ⟨g1, cap, cur, e, hB, rest⟩
  · exact .inl hn
  · exact .inr ⟨g1, cap, cur, e, Nat.zero_le _, rest⟩

set_option maxHeartbeats 400000 in
theorem sameI_any (B C : Nat) (v u : Value) (l : List Nat) (w : World) (hl : l.length ≤ 1000000) (ho : OwnV w B v l) (hr : OwnV w C u l) :
    Calls Try.prog 47 #[v, u] w fun e w' => e = .returned (.bool true) ∧ Below w.heap.size w w' := by
  obtain ⟨av, cv, rfl, hv⟩ := ho.cells
  obtain ⟨au, cu, rfl, hu⟩ := hr.cells
  have HV : Hid (∀ k, k < l.length → ∃ g, av = some ⟨g, 0, none⟩ ∧ w.cell? ⟨g, k, none⟩ = some (.int .i64 (l.getD k 0 : Nat))) := hv
  have HU : Hid (∀ k, k < l.length → ∃ g, au = some ⟨g, 0, none⟩ ∧ w.cell? ⟨g, k, none⟩ = some (.int .i64 (l.getD k 0 : Nat))) := hu
  have hne : ((l.length : Int) != (l.length : Int)) = false := by simp
  clear ho hr hv hu
  go_enter Try.func47, Try.ntmps47
  go_wp2
  go_loopw [5] (fun i wr => ∃ k : Nat, k ≤ l.length ∧ i = .int .i64 k ∧ ∃ m, wr = w.drewN m) (fun i _ => l.length - (intOf i).toNat)
  case atStart => exact ⟨0, Nat.zero_le _, rfl, 0, rfl⟩
  case round =>
    obtain ⟨k, hk, rfl, m, rfl⟩ := hrel
    by_cases hlt : k < l.length
    · obtain ⟨gv, rfl, c1⟩ := HV.out k hlt
      obtain ⟨gu, rfl, c2⟩ := HU.out k hlt
      obtain ⟨x, hx⟩ : ∃ x, l.getD k 0 = x := ⟨_, rfl⟩
      rw [hx] at c1 c2
      clear hx HV HU
      have hn : ((x : Int) != (x : Int)) = false := by simp
      go_wp2
      go_quiet (fail)
      go_wp2
      go_roundw
      case rel => exact ⟨k + 1, by omega, by go_num, _, rfl⟩
      case measure => simp [intOf]; omega
    · go_wp2
      go_ret
      exact ⟨rfl, below_drewN (Below.refl _ _) _⟩

theorem OwnO.cells {w : World} {B : Nat} {v : Value} {l : List Do.Oc} (h : OwnO w B v l) : ∃ ao cap, v = .slice ao l.length cap ∧ ∀ k o, l[k]? = some o → ∃ g, ao = some ⟨g, 0, none⟩ ∧ w.cell? ⟨g, k * 2, none⟩ = some (.int .i64 (o.id : Int)) ∧ w.cell? ⟨g, k * 2 + 1, none⟩ = some (.int .i64 (o.at' : Int)) := by
  rcases h.shape with ⟨rfl, rfl⟩ | ⟨g, cap, rfl, _, _⟩
  · exact ⟨none, 0, rfl, fun k o hk => by simp at hk⟩
  · exact ⟨_, cap, rfl, fun k o hk => ⟨g, rfl, h.cell rfl k o hk⟩⟩

set_option maxHeartbeats 400000 in
theorem sameH_any (B C : Nat) (v u : Value) (l : List Do.Oc) (w : World) (hl : l.length ≤ 1000000) (ho : OwnO w B v l) (hr : OwnO w C u l) :
    Calls Try.prog 65 #[v, u] w fun e w' => e = .returned (.bool true) ∧ Below w.heap.size w w' := by
  obtain ⟨av, cv, rfl, hv⟩ := ho.cells
  obtain ⟨au, cu, rfl, hu⟩ := hr.cells
  have HV : Hid (∀ k o, l[k]? = some o → ∃ g, av = some ⟨g, 0, none⟩ ∧ w.cell? ⟨g, k * 2, none⟩ = some (.int .i64 (o.id : Int)) ∧ w.cell? ⟨g, k * 2 + 1, none⟩ = some (.int .i64 (o.at' : Int))) := hv
  have HU : Hid (∀ k o, l[k]? = some o → ∃ g, au = some ⟨g, 0, none⟩ ∧ w.cell? ⟨g, k * 2, none⟩ = some (.int .i64 (o.id : Int)) ∧ w.cell? ⟨g, k * 2 + 1, none⟩ = some (.int .i64 (o.at' : Int))) := hu
  have hne : ((l.length : Int) != (l.length : Int)) = false := by simp
  clear ho hr hv hu
  go_enter Try.func65, Try.ntmps65
  go_wp2
  go_loopw [5] (fun i wr => ∃ k : Nat, k ≤ l.length ∧ i = .int .i64 k ∧ ∃ m, wr = w.drewN m) (fun i _ => l.length - (intOf i).toNat)
  case atStart => exact ⟨0, Nat.zero_le _, rfl, 0, rfl⟩
  case round =>
    obtain ⟨k, hk, rfl, m, rfl⟩ := hrel
    by_cases hlt : k < l.length
    · obtain ⟨o, hok⟩ : ∃ o, l[k]? = some o := ⟨l[k], List.getElem?_eq_getElem hlt⟩
      obtain ⟨gv, rfl, c1, c2⟩ := HV.out k o hok
      obtain ⟨gu, rfl, c3, c4⟩ := HU.out k o hok
      clear HV HU hok
      have hn : ((o.id : Int) != (o.id : Int)) = false := by simp
      have hn2 : ((o.at' : Int) != (o.at' : Int)) = false := by simp
      go_wp2
      go_quiet (fail)
      go_wp2
      go_roundw
      case rel => exact ⟨k + 1, by omega, by go_num, _, rfl⟩
      case measure => simp [intOf]; omega
    · go_wp2
      go_ret
      exact ⟨rfl, below_drewN (Below.refl _ _) _⟩

section
variable {At : World → Nat → Int → Int → Int → List Do.Chg → (Nat → Prop) → Prop} {DP DQ : World → Nat → (Nat → Prop) → Prop}
variable {w w' : World} {B G D : Nat} {v : Value} {bs : List Bk} {own : Nat → Nat}

/-- the drawer has turned, and nothing else that is labelled -/
theorem Inv.drawStep (hC : Serves At 28 21 23 60 62 20 58 11) (hD : Drawn DQ) (h : Inv At DP w B G D v bs own) (X : Nat → Prop) (hX : ∀ k, X k → own k = 0 ∧ B ≤ k) (ho : Only (fun k => own k = 2 ∨ X k) w w')
    (hn : ∃ N, DQ w' D N ∧ ∀ k, N k → own k = 2 ∨ X k ∨ w.heap.size ≤ k) (hB : B ≤ w.heap.size) : ∃ own', Inv At DQ w' B G D v bs own' := by
  obtain ⟨N, hN, hNk⟩ := hn
  have dec : DecidablePred N := fun _ => Classical.propDecidable _
  have hs : ∀ k, own k ≠ 0 → own k ≠ 2 → w'.heap[k]? = w.heap[k]? := fun k hk hne => ho.block k (h.mine k hk).2 (fun hf => by
    rcases hf with hf | hf
    · exact hne hf
    · exact hk (hX k hf).1)
  have up : ∀ t, t ≠ 0 → ∀ k, own k = t → (if own k = 0 then (if N k then 2 else 0) else own k) = t := fun t ht k hk => by rw [if_neg (by rw [hk]; exact ht)]; exact hk
  have dn : ∀ t, t ≠ 0 → t ≠ 2 → ∀ k, (if own k = 0 then (if N k then 2 else 0) else own k) = t → own k = t := fun t h0 h2 k hk => by
    by_cases e : own k = 0
    · rw [if_pos e] at hk
      by_cases e2 : N k
      · rw [if_pos e2] at hk; exact absurd hk.symm h2
      · rw [if_neg e2] at hk; exact absurd hk.symm h0
    · rw [if_neg e] at hk; exact hk
  have hlt : ∀ k, (if own k = 0 then (if N k then 2 else 0) else own k) ≠ 0 → B ≤ k ∧ k < w'.heap.size := fun k hk => by
    by_cases e : own k = 0
    · rw [if_pos e] at hk
      by_cases e2 : N k
      · refine ⟨?_, hD.lt hN k e2⟩
        rcases hNk k e2 with q | q | q
        · rw [e] at q; cases q
        · exact (hX k q).2
        · omega
      · rw [if_neg e2] at hk; exact absurd rfl hk
    · exact ⟨(h.mine k e).1, Nat.lt_of_lt_of_le (h.mine k e).2 ho.size⟩
  refine ⟨fun k => if own k = 0 then (if N k then 2 else 0) else own k, ⟨?_, ?_, ?_, ?_, ?_, ?_, ?_, ?_⟩⟩
  · exact (hs G (by rw [h.ownG]; decide) (by rw [h.ownG]; decide)).trans h.wo
  · exact row_same h.row (fun g hg => hs g (by rw [h.rowOwn g hg]; decide) (by rw [h.rowOwn g hg]; decide))
  · intro g hg; exact up 1 (by decide) g (h.rowOwn g hg)
  · exact up 1 (by decide) G h.ownG
  · refine hD.wide hN (fun k hk => ?_) (fun k hk => (hlt k (by rw [hk]; decide)).2)
    by_cases e : own k = 0
    · rw [if_pos e, if_pos hk]
    · rw [if_neg e]
      rcases hNk k hk with q | q | q
      · exact q
      · exact absurd (hX k q).1 e
      · have := (h.mine k e).2; omega
  · intro i b hi
    exact hC.wide (hC.frame (h.code i b hi) ho.size (fun k hk => hs k (by rw [hk]; omega) (by rw [hk]; omega))) (up _ (by omega)) (fun k hk => (hlt k (by rw [hk]; omega)).2)
  · intro i b hi
    exact ref_serves.wide (ref_serves.frame (h.ref i b hi) ho.size (fun k hk => hs k (by rw [hk]; omega) (by rw [hk]; omega))) (up _ (by omega)) (fun k hk => (hlt k (by rw [hk]; omega)).2)
  · exact hlt
end

section
variable {At : World → Nat → Int → Int → Int → List Do.Chg → (Nat → Prop) → Prop}
variable {B G D m : Nat} {v : Value} {bs : List Bk}

set_option maxHeartbeats 2000000 in
theorem asked_lst (hC : Serves At 28 21 23 60 62 20 58 11) (own : Nat → Nat) (i : Nat) (b : Bk) (o : OpV) (w : World) (hm : m ≤ 1999999999998) (h : Inv At (DS m) w B G D v bs own) (hB : B ≤ w.heap.size) (hi : bs[i]? = some b) (hcx : b.cx = b.cr) (hl : b.cr.length ≤ 2000000000000) (hk : o.k = 5) (hra : inR o.a) (hrb : inR o.b) :
    Calls Try.prog 39 #[.pointer (some ⟨G, 0, none⟩), bkV b, opV o] w fun e w' => e = .returned (.bool true) ∧ (∃ own', Inv At (DS (m + 1)) w' B G D v bs own') ∧ Below B w w' := by
  obtain ⟨ok, oon, oa, ob, oc, os, f0, f1, f2⟩ := o
  dsimp only at *
  subst hk
  unfold bkV opV
  dsimp only
  have hD := drawn_some m
  go_enter Try.func39, Try.ntmps39
  have y0 := World.news_of_block (Below.heap_alloc _ (.cells #[.int .i64 5, .int .i64 oon, .int .i64 oa, .int .i64 ob, .int .i64 oc, .string os, .int .i64 f0, .int .i64 f1, .int .i64 f2] 82) w.heap.size (by simp) |>.trans (heap_alloc_new w (.cells #[.pointer (some ⟨b.x, 0, none⟩), .pointer (some ⟨b.r, 0, none⟩)] 94)))
  have y1 := World.news_of_block (heap_alloc_new (w.alloc (.cells #[.pointer (some ⟨b.x, 0, none⟩), .pointer (some ⟨b.r, 0, none⟩)] 94)) (.cells #[.int .i64 5, .int .i64 oon, .int .i64 oa, .int .i64 ob, .int .i64 oc, .string os, .int .i64 f0, .int .i64 f1, .int .i64 f2] 82))
  have hb0 : Below w.heap.size w ((w.alloc (.cells #[.pointer (some ⟨b.x, 0, none⟩), .pointer (some ⟨b.r, 0, none⟩)] 94)).alloc (.cells #[.int .i64 5, .int .i64 oon, .int .i64 oa, .int .i64 ob, .int .i64 oc, .string os, .int .i64 f0, .int .i64 f1, .int .i64 f2] 82)) := ((Below.refl _ _).alloc (Nat.le_refl _) _).alloc (by simp) _
  have hsz : ((w.alloc (.cells #[.pointer (some ⟨b.x, 0, none⟩), .pointer (some ⟨b.r, 0, none⟩)] 94)).alloc (.cells #[.int .i64 5, .int .i64 oon, .int .i64 oa, .int .i64 ob, .int .i64 oc, .string os, .int .i64 f0, .int .i64 f1, .int .i64 f2] 82)).heap.size = w.heap.size + 2 := by simp
  have zp := y0 1 _ rfl
  have z2 := y1 2 _ rfl
  have z3 := y1 3 _ rfl
  clear y0 y1
  go_wp2_with fail
  have hI1 := h.quiet hC hD hb0
  generalize (w.alloc (.cells #[.pointer (some ⟨b.x, 0, none⟩), .pointer (some ⟨b.r, 0, none⟩)] 94)).alloc (.cells #[.int .i64 5, .int .i64 oon, .int .i64 oa, .int .i64 ob, .int .i64 oc, .string os, .int .i64 f0, .int .i64 f1, .int .i64 f2] 82) = w1 at *
  refine (hC.list oa ob (by rw [hcx]; exact hl) hra hrb (hI1.code i b hi)).mono ?_
  rintro e w2 ⟨lv, rfl, hlv, hb2⟩
  have s2 := hb2.size
  have zzp : w2.cell? ⟨w.heap.size, 1, none⟩ = some (.pointer (some ⟨b.r, 0, none⟩)) := by
    rw [hb2.cell (by show w.heap.size < w1.heap.size; omega)]; simpa [Addr.add] using zp
  have zz2 : w2.cell? ⟨w.heap.size + 1, 2, none⟩ = some (.int .i64 oa) := by
    rw [hb2.cell (by show w.heap.size + 1 < w1.heap.size; omega)]; simpa [Addr.add] using z2
  have zz3 : w2.cell? ⟨w.heap.size + 1, 3, none⟩ = some (.int .i64 ob) := by
    rw [hb2.cell (by show w.heap.size + 1 < w1.heap.size; omega)]; simpa [Addr.add] using z3
  have hI2 := hI1.quiet hC hD hb2
  have HR : Hid (Calls Try.prog 59 #[.pointer (some ⟨b.r, 0, none⟩), .int .i64 oa, .int .i64 ob] w2 fun e w' => ∃ v, e = .returned (.tuple #[v, .int .i64 (lstRes b.cr oa ob).2]) ∧ OwnV w' w2.heap.size v (lstRes b.cr oa ob).1 ∧ Below w2.heap.size w2 w') := ref_serves.list oa ob hl hra hrb (hI2.ref i b hi)
  have hlen : (lstRes b.cr oa ob).1.length ≤ 8 := by
    unfold lstRes
    split
    · simp
    · rename_i hnn
      have := Do.idsTo_len (Do.there b.cr) oa ob.toNat (Do.there b.cr).length
      show (Do.idsTo _ _ _ _).length ≤ 8
      omega
  clear hI1 zp z2 z3
  rw [hcx]
  rw [hcx] at hlv
  generalize (lstRes b.cr oa ob).1 = q1 at *
  generalize (lstRes b.cr oa ob).2 = q2 at *
  go_wp2_with fail
  refine HR.out.mono ?_
  rintro e w3 ⟨mv, rfl, hmv, hb3⟩
  have s3 := hb3.size
  have hlv3 := hlv.below hb3
  have hI3 := hI2.quiet hC hD hb3
  clear HR zzp zz2 zz3 hlv hI2
  go_wp2_with fail
  refine (sameI_any _ _ lv mv q1 w3 (by omega) hlv3 hmv).mono ?_
  rintro e w4 ⟨rfl, hb4⟩
  have s4 := hb4.size
  have hlv4 := hlv3.below hb4
  have hI4 := hI3.quiet hC hD hb4
  clear hlv3 hmv hI3
  have cD : w4.cell? ⟨G, 1, none⟩ = some (.pointer (some ⟨D, 0, none⟩)) := by rw [cell_of_row w4 _ 1 _ 79 (0, 0) hI4.wo]; rfl
  have h0 : ∀ k, w.heap.size ≤ k → own k = 0 := fun k hk => by
    cases hc : own k with
    | zero => rfl
    | succ n => have := (h.mine k (by rw [hc]; omega)).2; omega
  have hlb : ∀ g, lv.ownBlock = some g → w.heap.size ≤ g := fun g hg => by have := (World.ownsRow.lt hlv4 g hg).1; omega
  obtain ⟨hmm, vi, vh, vn, vm, Li, Lh, hda⟩ := hI4.dr
  have HK : Hid (Calls Try.prog 48 #[.pointer (some ⟨D, 0, none⟩), lv] w4 fun e w' => e = .returned (.tuple #[]) ∧ Only (fun k => own k = 2 ∨ lv.ownBlock = some k) w4 w' ∧ ∃ G, DS (m + 1) w' D G ∧ ∀ k, G k → own k = 2 ∨ lv.ownBlock = some k ∨ w4.heap.size ≤ k) :=
    keepI_any m D _ vi vh vn vm Li Lh lv q1.length (I q1) w4 hm (by omega) hda (OwnV.weaken' hlv4) (fun g hg => by rw [h0 g (hlb g hg)]; decide)
  clear hda hlv4
  go_wp2_with fail
  refine HK.out.mono ?_
  rintro e w5 ⟨rfl, ho5, hn5⟩
  obtain ⟨own', hI5⟩ := hI4.drawStep hC (drawn_some (m + 1)) (fun k => lv.ownBlock = some k) (fun k hk => ⟨h0 k (hlb k hk), by have := hlb k hk; omega⟩) ho5 hn5 (by omega)
  have hbl : Below B w w5 := by
    refine ((hb0.trans (hb2.mono (by omega))).trans ((hb3.mono (by omega)).trans (hb4.mono (by omega)))).mono hB |>.trans ⟨ho5.os, ho5.tape, ho5.output, ho5.size, fun k hk => ho5.block k (by omega) (fun hf => ?_)⟩
    rcases hf with hf | hf
    · have := (h.mine k (by rw [hf]; decide)).1; omega
    · have := hlb k hf; omega
  clear HK hI4 cD ho5 hn5
  go_wp2_with fail
  refine (num_any _ _).mono ?_
  rintro e w6 ⟨rfl, hw6⟩; rw [hw6]; clear hw6
  go_wp2_with fail
  go_ret
  exact ⟨rfl, ⟨own', hI5⟩, hbl⟩
end

end Go.Proofs.Ythkndfkkgncjfab

namespace Go.Proofs.Ythkndfkkgncjfab
open Go.RowKit
set_option maxRecDepth 100000

theorem Try.info31 : (Try.prog.info? 31).map (fun i => (i.zero, i.size, i.bytes)) = some (some (.slice none 0 0), 1, 24) := by kernel_rfl

/-- the row of l, as far as it is written over -/
def OverH (w : World) (v : Value) (len k : Nat) (x : Int) : Prop := ∃ xs, w.ownsRow 0 44 2 v len xs ∧ ∀ j, j < k * 2 → xs[j]? = some (.int .i64 x)
theorem OverH.put {w : World} {g len cap k : Nat} {x : Int} (h : OverH w (.slice (some ⟨g, 0, none⟩) len cap) len k x) (hk : k < len) : OverH ((w.setCell ⟨g, k * 2, none⟩ (.int .i64 x)).setCell ⟨g, k * 2 + 1, none⟩ (.int .i64 x)) (.slice (some ⟨g, 0, none⟩) len cap) len (k + 1) x := by
  obtain ⟨xs, h1, h2⟩ := h
  have hl := h1.1
  have s1 := (World.ownsRow.stored h1 (k * 2) (.int .i64 x)).1
  have s2 := (World.ownsRow.stored s1 (k * 2 + 1) (.int .i64 x)).1
  refine ⟨_, s2, fun j hj => ?_⟩
  rw [List.getElem?_set]
  by_cases e : k * 2 + 1 = j
  · subst e
    rw [if_pos rfl, if_pos (by rw [List.length_set]; omega)]
  · rw [if_neg e, List.getElem?_set]
    by_cases e2 : k * 2 = j
    · subst e2
      rw [if_pos rfl, if_pos (by omega)]
    · rw [if_neg e2]; exact h2 j (by omega)
theorem OverH.all {w : World} {len : Nat} {v : Value} {x : Int} (h : OverH w v len len x) : w.ownsRow 0 44 2 v len (List.replicate (len * 2) (.int .i64 x)) := by
  obtain ⟨xs, h1, h2⟩ := h
  have e : xs = List.replicate (len * 2) (.int .i64 x) := by
    have hl := h1.1
    refine List.ext_getElem? (fun j => ?_)
    rcases Nat.lt_or_ge j (len * 2) with hj | hj
    · rw [h2 j hj, List.getElem?_replicate, if_pos hj]
    · rw [List.getElem?_eq_none (by omega), List.getElem?_eq_none (by simpa using hj)]
  rw [← e]; exact h1

theorem readsH_of_row {w : World} {g n cap : Nat} {xs : List Value} {x : Int} (h : w.ownsRow 0 44 2 (.slice (some ⟨g, 0, none⟩) n cap) n xs) (hx : ∀ u ∈ xs, u = .int .i64 x) (hn : n ≤ 1000000) : ReadsH w (.slice (some ⟨g, 0, none⟩) n cap) x := by
  refine ⟨_, n, cap, rfl, hn, fun i hi => ⟨g, rfl, ?_, ?_⟩⟩
  · have hl := h.1
    rw [World.ownsRow.cellAt h (i * 2) (by omega), List.getElem?_eq_getElem (by omega), hx _ (List.getElem_mem _)]
  · have hl := h.1
    rw [World.ownsRow.cellAt h (i * 2 + 1) (by omega), List.getElem?_eq_getElem (by omega), hx _ (List.getElem_mem _)]
theorem readsH_rep {w : World} {v : Value} {n : Nat} {x : Int} (h : w.ownsRow 0 44 2 v n (List.replicate (n * 2) (.int .i64 x))) (hn : n ≤ 1000000) : ReadsH w v x := by
  rcases h.2 with ⟨rfl, h0⟩ | ⟨g, cap, cur, rfl, _⟩
  · exact ⟨none, 0, 0, rfl, by omega, fun i hi => by omega⟩
  · exact readsH_of_row h (fun u hu => (List.mem_replicate.1 hu).2) hn

/-- between the appends: the drawer, the list, and the lists made of it -/
structure KpH (m : Nat) (x : Int) (w0 w : World) (D : Nat) (F : Nat → Prop) (vi vh vn vm : Value) (Li Lh : List (Value × Int)) (v : Value) (len : Nat) (S : List Value) : Prop where
  dr : DAt m x w D F vi vh vn vm Li Lh
  row : w.ownsRow 0 44 2 v len (List.replicate (len * 2) (.int .i64 x))
  only : Only (fun k => F k ∨ v.ownBlock = some k) w0 w
  reads : ∀ s ∈ S, ReadsH w s x ∧ ∀ g, s.ownBlock = some g → (v.ownBlock = some g ∨ w0.heap.size ≤ g) ∧ g < w.heap.size

section
variable {m : Nat} {x : Int} {w0 W W0 W' : World} {D : Nat} {F : Nat → Prop} {vi vh vn vm : Value} {Li Lh : List (Value × Int)} {v : Value} {len : Nat} {S : List Value}
theorem KpH.quiet (h : KpH m x w0 W D F vi vh vn vm Li Lh v len S) (hb : Below W.heap.size W W') : KpH m x w0 W' D F vi vh vn vm Li Lh v len S where
  dr := h.dr.frame hb.size fun k hk => hb.block k (h.dr.lt k hk)
  row := row_same h.row fun g hg => hb.block g (World.ownsRow.lt h.row g hg).2
  only := h.only.trans (Only.of_below hb)
  reads s hs := ⟨(h.reads s hs).1.same fun g hg => hb.block g ((h.reads s hs).2 g hg).2, fun g hg => ⟨((h.reads s hs).2 g hg).1, Nat.lt_of_lt_of_le ((h.reads s hs).2 g hg).2 hb.size⟩⟩
/-- one append more -/
theorem KpH.next (h : KpH m x w0 W0 D F vi vh vn vm Li Lh v len S) (hv : ∀ g, v.ownBlock = some g → ¬ F g) {g cap k : Nat} {news : List Value} (hnew : ∀ u ∈ news, u = .int .i64 x) (hl : len + k ≤ 1000000)
    (h1 : W'.ownsRow 0 44 2 (.slice (some ⟨g, 0, none⟩) (len + k) cap) (len + k) (List.replicate (len * 2) (.int .i64 x) ++ news)) (h2 : W'.ownsRow 0 44 2 v len (List.replicate (len * 2) (.int .i64 x))) (hg : W0.grownBy W' v.ownBlock) (hat : v.ownBlock = some g ∨ g = W0.heap.size) (hlt : g < W'.heap.size)
    (hk : ∀ b j, v.ownBlock = some b → W0.cell? ⟨b, j, none⟩ = some (.int .i64 x) → W'.cell? ⟨b, j, none⟩ = some (.int .i64 x)) :
    KpH m x w0 W' D F vi vh vn vm Li Lh v len (S ++ [.slice (some ⟨g, 0, none⟩) (len + k) cap]) where
  dr := h.dr.frame hg.size fun q hq => hg.block q (h.dr.lt q hq) (fun e => hv q e.symm hq)
  row := h2
  only := h.only.trans (Only.grown hg (fun q hq => .inr hq))
  reads s hs := by
    rw [List.mem_append] at hs
    rcases hs with hs | hs
    · obtain ⟨hr, hw⟩ := h.reads s hs
      refine ⟨?_, fun q hq => ⟨(hw q hq).1, Nat.lt_of_lt_of_le (hw q hq).2 hg.size⟩⟩
      obtain ⟨a, n, c, rfl, hn, hc⟩ := hr
      refine ⟨a, n, c, rfl, hn, fun i hi => ?_⟩
      obtain ⟨b, rfl, hcell, hcell2⟩ := hc i hi
      refine ⟨b, rfl, ?_, ?_⟩
      · by_cases e : v.ownBlock = some b
        · exact hk b _ e hcell
        · exact World.grownBy.cell hg hcell (fun e' => e e'.symm)
      · by_cases e : v.ownBlock = some b
        · exact hk b _ e hcell2
        · exact World.grownBy.cell hg hcell2 (fun e' => e e'.symm)
    · simp only [List.mem_singleton] at hs
      subst hs
      refine ⟨readsH_of_row h1 (fun u hu => ?_) hl, fun q hq => ?_⟩
      · rw [List.mem_append] at hu
        rcases hu with hu | hu
        · exact (List.mem_replicate.1 hu).2
        · exact hnew u hu
      · have e : q = g := by simpa [Value.ownBlock] using hq.symm
        subst e
        refine ⟨hat.imp id (fun e => by rw [e]; exact h.only.size), hlt⟩
end

/-- what is laid away at the end -/
theorem KpH.lay {m : Nat} {x : Int} {w wc we wg : World} {D : Nat} {F : Nat → Prop} {vi vh vn vm : Value} {Li Lh : List (Value × Int)} {v : Value} {len : Nat} {S : List Value} {ge cape gg capg : Nat} {o o0 : Obj}
    (hK : KpH m x w wc D F vi vh vn vm Li Lh v len S) (hm : m ≤ 1999999999998) (hx : (m : Int) + 1 = x) (hl : len ≤ 1000) (hF : ∀ k, F k → k < w.heap.size) (hv : ∀ g, v.ownBlock = some g → ¬ F g ∧ g < w.heap.size) (hS : S.length = 3)
    (e1 : we.ownsRow 0 31 1 (.slice (some ⟨ge, 0, none⟩) (Lh.length + 4) cape) (Lh.length + 4) (Lh.map (·.1) ++ (v :: S))) (e2 : (wc.alloc o).grownBy we vh.ownBlock) (e3 : vh.ownBlock = some ge ∨ ge = wc.heap.size + 1) (e4 : ge < we.heap.size)
    (n1 : wg.ownsRow 0 3 1 (.slice (some ⟨gg, 0, none⟩) (Lh.length + 4) capg) (Lh.length + 4) ((Lh.map fun p => .int .i64 p.2) ++ [.int .i64 x, .int .i64 x, .int .i64 x, .int .i64 x]))
    (n2 : (((we.setCell ⟨D, 2, none⟩ (.slice (some ⟨ge, 0, none⟩) (Lh.length + 4) cape)).alloc o0).drew).grownBy wg vm.ownBlock) (n3 : vm.ownBlock = some gg ∨ gg = we.heap.size + 1) (n4 : gg < wg.heap.size) :
    Only (fun k => F k ∨ v.ownBlock = some k) w (wg.setCell ⟨D, 4, none⟩ (.slice (some ⟨gg, 0, none⟩) (Lh.length + 4) capg)) ∧ ∃ G, DS (m + 1) (wg.setCell ⟨D, 4, none⟩ (.slice (some ⟨gg, 0, none⟩) (Lh.length + 4) capg)) D G ∧ ∀ k, G k → F k ∨ v.ownBlock = some k ∨ w.heap.size ≤ k := by
  have hd := hK.dr
  have z1 := hK.only.size
  have z2 := e2.size
  have z3 := n2.size
  simp at z2
  have zf : (we.setCell ⟨D, 2, none⟩ (.slice (some ⟨ge, 0, none⟩) (Lh.length + 4) cape)).heap.size = we.heap.size := by simp
  have z0 : (((we.setCell ⟨D, 2, none⟩ (.slice (some ⟨ge, 0, none⟩) (Lh.length + 4) cape)).alloc o0).drew).heap.size = we.heap.size + 1 := by simp
  rw [z0] at z3
  have zz : (wg.setCell ⟨D, 4, none⟩ (.slice (some ⟨gg, 0, none⟩) (Lh.length + 4) capg)).heap.size = wg.heap.size := by simp
  have hDl := hF D hd.mine
  have hvhD : vh.ownBlock ≠ some D := fun e => (hd.bh D e).2 rfl
  have hvmD : vm.ownBlock ≠ some D := fun e => (hd.bm D e).2.1 rfl
  have same : ∀ k, k < wc.heap.size → k ≠ D → vh.ownBlock ≠ some k → vm.ownBlock ≠ some k → (wg.setCell ⟨D, 4, none⟩ (.slice (some ⟨gg, 0, none⟩) (Lh.length + 4) capg)).heap[k]? = wc.heap[k]? := fun k hk h1 h2 h3 => by
    rw [Below.heap_setCell wg ⟨D, 4, none⟩ _ k h1, n2.block k (by rw [z0]; omega) (fun e => h3 e.symm)]
    show ((we.setCell ⟨D, 2, none⟩ (.slice (some ⟨ge, 0, none⟩) (Lh.length + 4) cape)).alloc o0).heap[k]? = _
    rw [Below.heap_alloc _ o0 k (by rw [zf]; omega), Below.heap_setCell we ⟨D, 2, none⟩ _ k h1, e2.block k (by simp; omega) (fun e => h2 e.symm), Below.heap_alloc wc o k hk]
  have hwe : we.heap[D]? = some (.cells #[.int .i64 x, vi, vh, vn, vm] 76 (0, 0)) := by
    rw [e2.block D (by simp; omega) (fun e => hvhD e.symm), Below.heap_alloc wc o D (by omega)]; exact hd.blk
  have hwf : (we.setCell ⟨D, 2, none⟩ (.slice (some ⟨ge, 0, none⟩) (Lh.length + 4) cape)).heap[D]? = some (.cells #[.int .i64 x, vi, .slice (some ⟨ge, 0, none⟩) (Lh.length + 4) cape, vn, vm] 76 (0, 0)) := (heap_setCell_same we D 2 _ 76 _ hwe).trans rfl
  have hwg : wg.heap[D]? = some (.cells #[.int .i64 x, vi, .slice (some ⟨ge, 0, none⟩) (Lh.length + 4) cape, vn, vm] 76 (0, 0)) := by
    rw [n2.block D (by rw [z0]; omega) (fun e => hvmD e.symm)]
    show ((we.setCell ⟨D, 2, none⟩ (.slice (some ⟨ge, 0, none⟩) (Lh.length + 4) cape)).alloc o0).heap[D]? = _
    rw [Below.heap_alloc _ o0 D (by rw [zf]; omega)]; exact hwf
  have hge : (F ge ∨ wc.heap.size < ge) ∧ ge ≠ D ∧ vm.ownBlock ≠ some ge := by
    rcases e3 with e | e
    · exact ⟨.inl (hd.bh ge e).1, (hd.bh ge e).2, fun e' => kinds_apartH hd.rm hd.rh (by decide) e' e⟩
    · exact ⟨.inr (by omega), by omega, fun e' => by have := hF ge (hd.bm ge e').1; omega⟩
  have hgg : (F gg ∨ we.heap.size < gg) ∧ gg ≠ D ∧ vn.ownBlock ≠ some gg := by
    rcases n3 with e | e
    · exact ⟨.inl (hd.bm gg e).1, (hd.bm gg e).2.1, (hd.bm gg e).2.2⟩
    · exact ⟨.inr (by omega), by omega, fun e' => by have := hF gg (hd.bn gg e').1; omega⟩
  -- a block that is F's and apart from the old rows is apart from the new ones
  have ap : ∀ g, F g → Apart4 D vi vh vn vm g → Apart4 D vi (.slice (some ⟨ge, 0, none⟩) (Lh.length + 4) cape) vn (.slice (some ⟨gg, 0, none⟩) (Lh.length + 4) capg) g := fun g hg ⟨q1, q2, q3, q4, q5⟩ => by
    have hgl := hF g hg
    refine ⟨q1, q2, fun e => ?_, q4, fun e => ?_⟩
    · have e' : ge = g := by simpa [Value.ownBlock] using e
      rcases e3 with e3 | e3
      · rw [e'] at e3; exact q3 e3
      · omega
    · have e' : gg = g := by simpa [Value.ownBlock] using e
      rcases n3 with e3 | e3
      · rw [e'] at e3; exact q5 e3
      · omega
  -- and so is one that is none of F's
  have new : ∀ g, (v.ownBlock = some g ∨ w.heap.size ≤ g) → g < wc.heap.size → ¬ F g ∧ Apart4 D vi (.slice (some ⟨ge, 0, none⟩) (Lh.length + 4) cape) vn (.slice (some ⟨gg, 0, none⟩) (Lh.length + 4) capg) g := fun g h1 h2 => by
    have hnf : ¬ F g := fun hf => by
      rcases h1 with h1 | h1
      · exact (hv g h1).1 hf
      · have := hF g hf; omega
    refine ⟨hnf, fun e => hnf (by rw [e]; exact hd.mine), fun e => hnf (hd.bi g e).1, fun e => ?_, fun e => hnf (hd.bn g e).1, fun e => ?_⟩
    · have e' : ge = g := by simpa [Value.ownBlock] using e
      rcases hge.1 with h | h
      · exact hnf (by rw [← e']; exact h)
      · omega
    · have e' : gg = g := by simpa [Value.ownBlock] using e
      rcases hgg.1 with h | h
      · exact hnf (by rw [← e']; exact h)
      · omega
  have nf : ∀ g, ¬ F g → g ≠ D ∧ vh.ownBlock ≠ some g ∧ vm.ownBlock ≠ some g := fun g h => ⟨fun e => h (by rw [e]; exact hd.mine), fun e => h (hd.bh g e).1, fun e => h (hd.bm g e).1⟩
  have hvr : ReadsH wc v x := readsH_rep hK.row (by omega)
  have each : ∀ s ∈ v :: S, ReadsH wc s x ∧ ∀ g, s.ownBlock = some g → (v.ownBlock = some g ∨ w.heap.size ≤ g) ∧ g < wc.heap.size := fun s hs => by
    rcases List.mem_cons.1 hs with rfl | hs
    · exact ⟨hvr, fun g e => ⟨.inl e, by have := (hv g e).2; omega⟩⟩
    · exact hK.reads s hs
  obtain ⟨sa, sb, sc, rfl⟩ : ∃ sa sb sc, S = [sa, sb, sc] := by
    match S, hS with
    | [sa, sb, sc], _ => exact ⟨sa, sb, sc, rfl⟩
  refine ⟨?_, fun k => F k ∨ v.ownBlock = some k ∨ (w.heap.size ≤ k ∧ k < wg.heap.size), ⟨by omega, vi, .slice (some ⟨ge, 0, none⟩) (Lh.length + 4) cape, vn, .slice (some ⟨gg, 0, none⟩) (Lh.length + 4) capg, Li, Lh ++ [(v, x), (sa, x), (sb, x), (sc, x)], ?_⟩, fun k hk => hk.imp id (fun h => h.imp id (fun h => h.1))⟩
  · refine hK.only.trans ((Only.of_below ((Below.refl _ _).alloc (Nat.le_refl _) o)).trans ?_)
    refine (Only.grown e2 (fun k hk => .inl (hd.bh k hk).1)).trans ((Only.setCell ⟨D, 2, none⟩ (.slice (some ⟨ge, 0, none⟩) (Lh.length + 4) cape) (.inl hd.mine)).trans ?_)
    refine (Only.of_below (((Below.refl _ _).alloc (Nat.le_refl _) o0).drew)).trans ((Only.grown n2 (fun k hk => .inl (hd.bm k hk).1)).trans (Only.setCell ⟨D, 4, none⟩ _ (.inl hd.mine)))
  · have hx' : ((m + 1 : Nat) : Int) = x := by omega
    exact {
      blk := by rw [hx']; exact (heap_setCell_same wg D 4 _ 76 _ hwg).trans rfl
      lh := by have := hd.lh; simp; omega
      li := by have := hd.li; omega
      rh := by
        have : (Lh ++ [(v, x), (sa, x), (sb, x), (sc, x)]).length = Lh.length + 4 := by simp
        rw [this, List.map_append]
        refine row_same e1 fun g hg => ?_
        have e' : ge = g := by simpa [Value.ownBlock] using hg
        subst e'
        rw [Below.heap_setCell wg ⟨D, 4, none⟩ _ ge hge.2.1, n2.block ge (by rw [z0]; omega) (fun e => hge.2.2 e.symm)]
        show ((we.setCell ⟨D, 2, none⟩ (.slice (some ⟨ge, 0, none⟩) (Lh.length + 4) cape)).alloc o0).heap[ge]? = _
        rw [Below.heap_alloc _ o0 ge (by rw [zf]; omega), Below.heap_setCell we ⟨D, 2, none⟩ _ ge hge.2.1]
      ri := row_same hd.ri fun g hg => same g (by have := hF g (hd.bi g hg).1; omega) (hd.bi g hg).2 (fun e => kinds_apartH hd.ri hd.rh (by decide) hg e) (fun e => kinds_apartH hd.ri hd.rm (by decide) hg e)
      rm := by
        have : (Lh ++ [(v, x), (sa, x), (sb, x), (sc, x)]).length = Lh.length + 4 := by simp
        rw [this, List.map_append]
        exact ownsRow_setCell_other n1 (by simpa [Value.ownBlock] using hgg.2.1) _
      rn := row_same hd.rn fun g hg => same g (by have := hF g (hd.bn g hg).1; omega) (hd.bn g hg).2 (fun e => kinds_apartH hd.rn hd.rh (by decide) hg e) (fun e => (hd.bm g e).2.2 hg)
      mine := .inl hd.mine
      bh := fun g e => by
        have e' : ge = g := by simpa [Value.ownBlock] using e
        subst e'
        exact ⟨hge.1.imp id (fun h => .inr ⟨by omega, by omega⟩), hge.2.1⟩
      bi := fun g e => ⟨.inl (hd.bi g e).1, (hd.bi g e).2⟩
      bm := fun g e => by
        have e' : gg = g := by simpa [Value.ownBlock] using e
        subst e'
        exact ⟨hgg.1.imp id (fun h => .inr ⟨by omega, by omega⟩), hgg.2.1, hgg.2.2⟩
      bn := fun g e => ⟨.inl (hd.bn g e).1, (hd.bn g e).2⟩
      kh := fun p hp => by
        rw [List.mem_append] at hp
        rcases hp with hp | hp
        · obtain ⟨q1, q2⟩ := hd.kh p hp
          refine ⟨q1.same fun g e => ?_, fun g e => ⟨.inl (q2 g e).1, ap g (q2 g e).1 (q2 g e).2⟩⟩
          obtain ⟨qf, qa⟩ := q2 g e
          exact same g (by have := hF g qf; omega) qa.1 qa.2.2.1 qa.2.2.2.2
        · have hp' : p.1 ∈ v :: [sa, sb, sc] ∧ p.2 = x := by
            simp only [List.mem_cons, List.not_mem_nil, or_false] at hp
            rcases hp with rfl | rfl | rfl | rfl <;> simp
          obtain ⟨q1, q2⟩ := each p.1 hp'.1
          rw [hp'.2]
          refine ⟨q1.same fun g e => ?_, fun g e => ?_⟩
          · obtain ⟨qb, ql⟩ := q2 g e
            have qn := nf g (new g qb ql).1
            exact same g ql qn.1 qn.2.1 qn.2.2
          · obtain ⟨qb, ql⟩ := q2 g e
            exact ⟨.inr (qb.imp id (fun h => ⟨h, by omega⟩)), (new g qb ql).2⟩
      ki := fun p hp => by
        obtain ⟨q1, q2⟩ := hd.ki p hp
        refine ⟨q1.same fun g e => ?_, fun g e => ⟨.inl (q2 g e).1, ap g (q2 g e).1 (q2 g e).2⟩⟩
        obtain ⟨qf, qa⟩ := q2 g e
        exact same g (by have := hF g qf; omega) qa.1 qa.2.2.1 qa.2.2.2.2
      lt := fun k hk => by
        rw [zz]
        rcases hk with hk | hk | hk
        · have := hF k hk; omega
        · have := (hv k hk).2; omega
        · exact hk.2 }


end Go.Proofs.Ythkndfkkgncjfab

namespace Go.Proofs.Ythkndfkkgncjfab
open Go.RowKit
set_option maxRecDepth 100000

theorem Try.info31' : (Try.prog.info? 31).map (fun i => (i.zero, i.size, i.bytes)) = some (some (.slice none 0 0), 1, 24) := by kernel_rfl

theorem OverH.drew {w : World} {v : Value} {len k : Nat} {x : Int} (h : OverH w v len k x) : OverH w.drew v len k x := by
  obtain ⟨xs, h1, h2⟩ := h
  exact ⟨xs, row_same h1 (fun _ _ => rfl), h2⟩

theorem DAt.c2 {m : Nat} {n : Int} {w : World} {D : Nat} {F : Nat → Prop} {vi vh vn vm : Value} {Li Lh : List (Value × Int)} (h : DAt m n w D F vi vh vn vm Li Lh) : w.cell? ⟨D, 2, none⟩ = some vh := by rw [cell_of_row w D 2 _ 76 (0, 0) h.blk]; rfl
theorem Try.underlying74 : Try.prog.underlying 74 = some (.slice 31) := by kernel_rfl
theorem s4_same {D : Nat} {x : Int} {W W' : World} (h : W.cell? ⟨D, 0, none⟩ = some (.int .i64 x) ∧ W.frozen? ⟨D, 4, none⟩ = false) (hb : W'.heap[D]? = W.heap[D]?) : W'.cell? ⟨D, 0, none⟩ = some (.int .i64 x) ∧ W'.frozen? ⟨D, 4, none⟩ = false :=
  ⟨(World.cell?_of_block (a := ⟨D, 0, none⟩) hb).trans h.1, (World.frozen?_of_block (a := ⟨D, 4, none⟩) hb).trans h.2⟩
theorem s4_alloc {D : Nat} {x : Int} {W : World} (h : W.cell? ⟨D, 0, none⟩ = some (.int .i64 x) ∧ W.frozen? ⟨D, 4, none⟩ = false) (o : Obj) : (W.alloc o).cell? ⟨D, 0, none⟩ = some (.int .i64 x) ∧ (W.alloc o).frozen? ⟨D, 4, none⟩ = false :=
  s4_same h (Below.heap_alloc W o D (World.block_lt_of_cell? W ⟨D, 0, none⟩ h.1))
theorem s4_set {D : Nat} {x : Int} {W : World} (h : W.cell? ⟨D, 0, none⟩ = some (.int .i64 x) ∧ W.frozen? ⟨D, 4, none⟩ = false) (u : Value) : (W.setCell ⟨D, 4, none⟩ u).cell? ⟨D, 0, none⟩ = some (.int .i64 x) ∧ (W.setCell ⟨D, 4, none⟩ u).frozen? ⟨D, 4, none⟩ = false :=
  ⟨by rw [World.cell?_setCell_other _ _ _ _ (by simp)]; exact h.1, by rw [World.frozen?_setCell]; exact h.2⟩
theorem cell_keep {w : World} (o : Obj) {a : Addr} {v : Value} (h : w.cell? a = some v) : (w.alloc o).cell? a = some v :=
  (World.cell?_of_block (Below.heap_alloc w o a.block (World.block_lt_of_cell? w a h))).trans h

set_option maxHeartbeats 4000000 in
theorem keepH_any (m : Nat) (D : Nat) (F : Nat → Prop) (vi vh vn vm : Value) (Li Lh : List (Value × Int)) (v : Value) (len : Nat) (xs : List Value) (w : World) (hm : m ≤ 1999999999998) (hl : len ≤ 1000) (h : DAt m (m : Int) w D F vi vh vn vm Li Lh) (ho : w.ownsRow 0 44 2 v len xs) (hv : ∀ g, v.ownBlock = some g → ¬ F g) :
    Calls Try.prog 66 #[.pointer (some ⟨D, 0, none⟩), v] w fun e w' => e = .returned (.tuple #[]) ∧ Only (fun k => F k ∨ v.ownBlock = some k) w w' ∧ ∃ G, DS (m + 1) w' D G ∧ ∀ k, G k → F k ∨ v.ownBlock = some k ∨ w.heap.size ≤ k := by
  obtain ⟨i0, hi, hz0, hz1, hz2⟩ := info_parts Try.info3
  obtain ⟨i1, hj, hy0, hy1, hy2⟩ := info_parts Try.info31'
  obtain ⟨i2, hk2, hx0, hx1, hx2⟩ := info_parts Try.info44
  obtain ⟨av, cap, rfl⟩ : ∃ av cap, v = .slice av len cap := by
    rcases ho.2 with ⟨h1, h2⟩ | ⟨g, cap, cur, h1, _⟩
    · exact ⟨none, 0, by rw [h1, h2]⟩
    · exact ⟨_, cap, h1⟩
  obtain ⟨ah, ch, rfl⟩ := row_slice h.rh
  have HF : Hid (∀ k, F k → k < w.heap.size) := h.lt
  have HVL : Hid (∀ g, (Value.slice av len cap).ownBlock = some g → g < w.heap.size) := fun g e => (World.ownsRow.lt ho g e).2
  have c0 := h.c0
  have f0 := h.free 0
  have hwr : wrap64 ((m : Int) + 1) = (m : Int) + 1 := by unfold wrap64; omega
  go_enter Try.func66, Try.ntmps66
  go_wp2
  have h1 := h.count ((m : Int) + 1)
  have ho1 : (w.setCell ⟨D, 0, none⟩ (.int .i64 ((m : Int) + 1))).ownsRow 0 44 2 (.slice av len cap) len xs := ownsRow_setCell_other ho (fun e => hv _ e h.mine) _
  have hO1 : Only (fun k => F k ∨ (Value.slice av len cap).ownBlock = some k) w (w.setCell ⟨D, 0, none⟩ (.int .i64 ((m : Int) + 1))) := Only.setCell ⟨D, 0, none⟩ _ (.inl h.mine)
  clear c0 f0
  go_loopw [4] (fun i wr => ∃ k : Nat, k ≤ len ∧ i = .int .i64 k ∧ OverH wr (.slice av len cap) len k ((m : Int) + 1) ∧ DAt m ((m : Int) + 1) wr D F vi (.slice ah Lh.length ch) vn vm Li Lh ∧ Only (fun k => F k ∨ (Value.slice av len cap).ownBlock = some k) w wr) (fun i _ => len - (intOf i).toNat)
  case atStart => exact ⟨0, Nat.zero_le _, rfl, ⟨xs, ho1, fun j hj => by omega⟩, h1, hO1⟩
  case round =>
    obtain ⟨k, hk, rfl, hov, hd2, hO2⟩ := hrel
    clear h1 ho1 hO1 ho h
    have c0 := hd2.c0
    by_cases hlt : k < len
    · obtain ⟨g, rfl⟩ : ∃ g, av = some ⟨g, 0, none⟩ := by
        obtain ⟨xs1, q1, _⟩ := hov
        rcases q1.2 with ⟨_, h0⟩ | ⟨g, cap', cur, h1, _⟩
        · omega
        · cases h1; exact ⟨g, rfl⟩
      have hcell : ∃ u u', wr.cell? ⟨g, k * 2, none⟩ = some u ∧ wr.cell? ⟨g, k * 2 + 1, none⟩ = some u' ∧ ∀ j, wr.frozen? ⟨g, j, none⟩ = false := by
        obtain ⟨xs1, q1, _⟩ := hov
        have hq := q1.1
        refine ⟨xs1[k * 2]'(by omega), xs1[k * 2 + 1]'(by omega), ?_, ?_, fun j => ?_⟩
        · rw [World.ownsRow.cellAt q1 (k * 2) (by omega)]; exact List.getElem?_eq_getElem (by omega)
        · rw [World.ownsRow.cellAt q1 (k * 2 + 1) (by omega)]; exact List.getElem?_eq_getElem (by omega)
        · rcases q1.2 with ⟨_, h0⟩ | ⟨g', cap', cur, h1, _, hgg, _⟩
          · omega
          · cases h1; exact frozen_of_row wr g j _ 44 hgg
      obtain ⟨u, u', c2, c2', f2a⟩ := hcell
      have f2 := f2a (k * 2)
      have f2' := f2a (k * 2 + 1)
      have hgD : g ≠ D := fun e => hv g rfl (by rw [e]; exact hd2.mine)
      have hkl : (k : Int) < (len : Int) := by omega
      generalize hxm : (m : Int) + 1 = x at *
      have HREL : Hid (OverH ((wr.setCell ⟨g, k * 2, none⟩ (.int .i64 x)).setCell ⟨g, k * 2 + 1, none⟩ (.int .i64 x)) (.slice (some ⟨g, 0, none⟩) len cap) len (k + 1) x ∧ DAt m x ((wr.setCell ⟨g, k * 2, none⟩ (.int .i64 x)).setCell ⟨g, k * 2 + 1, none⟩ (.int .i64 x)) D F vi (.slice ah Lh.length ch) vn vm Li Lh ∧ Only (fun q => F q ∨ (Value.slice (some ⟨g, 0, none⟩) len cap).ownBlock = some q) w ((wr.setCell ⟨g, k * 2, none⟩ (.int .i64 x)).setCell ⟨g, k * 2 + 1, none⟩ (.int .i64 x))) :=
        ⟨hov.put hlt, hd2.frame (by simp) (fun q hq => by
          have hne : q ≠ g := fun e => hv g rfl (by rw [← e]; exact hq)
          rw [Below.heap_setCell _ ⟨g, k * 2 + 1, none⟩ _ q hne, Below.heap_setCell _ ⟨g, k * 2, none⟩ _ q hne]), (hO2.trans (Only.setCell ⟨g, k * 2, none⟩ _ (.inr rfl))).trans (Only.setCell ⟨g, k * 2 + 1, none⟩ _ (.inr rfl))⟩
      have hcD : ((wr.setCell ⟨g, k * 2, none⟩ (.int .i64 x)).setCell ⟨g, k * 2 + 1, none⟩ (.int .i64 x)).drew.cell? ⟨D, 0, none⟩ = some (.int .i64 x) := HREL.out.2.1.c0
      go_wp2_with fail
      refine wp_region_held_drew (S := fun w' => w'.cell? ⟨D, 0, none⟩ = some (.int .i64 x)) (by kernel_rfl) c0 (fun hHeld => ?_)
      refine wpAnyH_take (i := 0) (v := ?t501_0) rfl (by kernel_rfl) (by kernel_rfl) (by kernel_rfl) (fun _ _ _ h => h) (Or.inl ⟨by rfl, ?hyt501_0⟩) (by assumption) ?restt501_0
      case hyt501_0 => intro w hSw; (try dsimp only at hSw); go_simp; (try with_reducible rfl)
      simp only [Act.put]
      refine wpAnyH_take (i := 1) (v := ?t501_1) rfl (by kernel_rfl) (by kernel_rfl) (by kernel_rfl) (fun _ _ _ h => h) (Or.inl ⟨by rfl, ?hyt501_1⟩) (by assumption) ?restt501_1
      case hyt501_1 => intro w hSw; (try dsimp only at hSw); go_simp; (try with_reducible rfl)
      simp only [Act.put]
      refine wpAnyH_take (i := 2) (v := ?t501_2) rfl (by kernel_rfl) (by kernel_rfl) (by kernel_rfl) (fun _ _ _ h => h) (Or.inl ⟨by rfl, ?hyt501_2⟩) (by assumption) ?restt501_2
      case hyt501_2 => intro w hSw; (try dsimp only at hSw); go_simp; (try with_reducible rfl)
      simp only [Act.put]
      refine wpAnyH_take (i := 3) (v := ?t501_3) rfl (by kernel_rfl) (by kernel_rfl) (by kernel_rfl) (fun _ _ _ h => h) (Or.inl ⟨by rfl, ?hyt501_3⟩) (by assumption) ?restt501_3
      case hyt501_3 => intro w hSw; (try dsimp only at hSw); go_simp; (try with_reducible rfl)
      simp only [Act.put]
      refine wpAnyH_take (i := 4) (v := ?t501_4) rfl (by kernel_rfl) (by kernel_rfl) (by kernel_rfl) (fun _ _ _ h => h) (Or.inl ⟨by rfl, ?hyt501_4⟩) (by assumption) ?restt501_4
      case hyt501_4 => intro w hSw; (try dsimp only at hSw); go_simp; (try with_reducible rfl)
      simp only [Act.put]
      refine wpAnyH_take (i := 5) (v := ?t501_5) rfl (by kernel_rfl) (by kernel_rfl) (by kernel_rfl) (fun _ _ _ h => h) (Or.inl ⟨by rfl, ?hyt501_5⟩) (by assumption) ?restt501_5
      case hyt501_5 => intro w hSw; (try dsimp only at hSw); go_simp; (try with_reducible rfl)
      simp only [Act.put]
      refine wpAnyH_take (i := 6) (v := ?t501_6) rfl (by kernel_rfl) (by kernel_rfl) (by kernel_rfl) (fun _ _ _ h => h) (Or.inl ⟨by rfl, ?hyt501_6⟩) (by assumption) ?restt501_6
      case hyt501_6 => intro w hSw; (try dsimp only at hSw); go_simp; (try with_reducible rfl)
      simp only [Act.put]
      refine wpAnyH_take (i := 7) (v := ?t501_7) rfl (by kernel_rfl) (by kernel_rfl) (by kernel_rfl) (fun _ _ _ h => h) (Or.inl ⟨by rfl, ?hyt501_7⟩) (by assumption) ?restt501_7
      case hyt501_7 => intro w hSw; (try dsimp only at hSw); go_simp; (try with_reducible rfl)
      simp only [Act.put]
      refine wpAnyH_take (i := 8) (v := ?t501_8) rfl (by kernel_rfl) (by kernel_rfl) (by kernel_rfl) (fun _ _ _ h => h) (Or.inl ⟨by rfl, ?hyt501_8⟩) (by assumption) ?restt501_8
      case hyt501_8 => intro w hSw; (try dsimp only at hSw); go_simp; (try with_reducible rfl)
      simp only [Act.put]
      refine wpAnyH_take (i := 9) (v := ?t501_9) rfl (by kernel_rfl) (by kernel_rfl) (by kernel_rfl) (fun _ _ _ h => h) (Or.inl ⟨by rfl, ?hyt501_9⟩) (by assumption) ?restt501_9
      case hyt501_9 => intro w hSw; (try dsimp only at hSw); go_simp; (try with_reducible rfl)
      simp only [Act.put]
      refine wpAnyH_take (i := 10) (v := ?t501_10) rfl (by kernel_rfl) (by kernel_rfl) (by kernel_rfl) (fun _ _ _ h => h) (Or.inl ⟨by rfl, ?hyt501_10⟩) (by assumption) ?restt501_10
      case hyt501_10 => intro w hSw; (try dsimp only at hSw); go_simp; (try with_reducible rfl)
      simp only [Act.put]
      refine wpAnyH_take (i := 11) (v := ?t501_11) rfl (by kernel_rfl) (by kernel_rfl) (by kernel_rfl) (fun _ _ _ h => h) (Or.inl ⟨by rfl, ?hyt501_11⟩) (by assumption) ?restt501_11
      case hyt501_11 => intro w hSw; (try dsimp only at hSw); go_simp; (try with_reducible rfl)
      simp only [Act.put]
      refine wpAnyH_ready (rs := [12]) (by kernel_rfl) (by simp) ?_
      refine AllReadyH.cons rfl (fun K hK => ?_) AllReadyH.nil
      go_simp
      refine hK.out _ _ hcD (fun _ => ?_)
      clear hK K
      refine wpAnyH_done (by kernel_rfl) ?_ _
      go_wp2
      go_roundw
      case rel =>
        exact ⟨k + 1, by omega, by go_num, HREL.out.1.drew, HREL.out.2.1.frame (by simp) (fun q hq => rfl), HREL.out.2.2.trans (Only.of_below ((Below.refl _ _).drew))⟩
      case measure => simp [intOf]; omega
    · have hke : k = len := by omega
      subst hke
      generalize hxm : (m : Int) + 1 = x at *
      have hK : KpH m x w wr D F vi (.slice ah Lh.length ch) vn vm Li Lh (.slice av k cap) k [] := ⟨hd2, hov.all, hO2, by simp⟩
      have hrow := hK.row
      have HK : Hid (KpH m x w wr D F vi (.slice ah Lh.length ch) vn vm Li Lh (.slice av k cap) k []) := hK
      have HV : Hid (∀ g, (Value.slice av k cap).ownBlock = some g → ¬ F g) := hv
      clear hK hd2 hov hO2 hv
      have hDl0 : D < wr.heap.size := HK.out.dr.lt D HK.out.dr.mine
      go_wp2_with fail
      refine wp_region_held_drew (S := fun w' => w'.cell? ⟨D, 0, none⟩ = some (.int .i64 x)) (by kernel_rfl) c0 (fun hHeld => ?_)
      refine wpAnyH_take (i := 0) (v := ?h50) rfl (by kernel_rfl) (by kernel_rfl) (by kernel_rfl) (fun _ _ _ h => h) (Or.inl ⟨by rfl, ?hyh50⟩) (by assumption) ?resth50
      case hyh50 => intro w hSw; (try dsimp only at hSw); go_simp; (try with_reducible rfl)
      simp only [Act.put]
      refine wpAnyH_take (i := 1) (v := ?h51) rfl (by kernel_rfl) (by kernel_rfl) (by kernel_rfl) (fun _ _ _ h => h) (Or.inl ⟨by rfl, ?hyh51⟩) (by assumption) ?resth51
      case hyh51 => intro w hSw; (try dsimp only at hSw); go_simp; (try with_reducible rfl)
      simp only [Act.put]
      refine wpAnyH_take (i := 2) (v := ?h52) rfl (by kernel_rfl) (by kernel_rfl) (by kernel_rfl) (fun _ _ _ h => h) (Or.inl ⟨by rfl, ?hyh52⟩) (by assumption) ?resth52
      case hyh52 => intro w hSw; (try dsimp only at hSw); go_simp; (try with_reducible rfl)
      simp only [Act.put]
      refine wpAnyH_take (i := 3) (v := ?h53) rfl (by kernel_rfl) (by kernel_rfl) (by kernel_rfl) (fun _ _ _ h => h) (Or.inl ⟨by rfl, ?hyh53⟩) (by assumption) ?resth53
      case hyh53 => intro w hSw; (try dsimp only at hSw); go_simp; (try with_reducible rfl)
      simp only [Act.put]
      refine wpAnyH_take (i := 4) (v := ?h54) rfl (by kernel_rfl) (by kernel_rfl) (by kernel_rfl) (fun _ _ _ h => h) (Or.inl ⟨by rfl, ?hyh54⟩) (by assumption) ?resth54
      case hyh54 => intro w hSw; (try dsimp only at hSw); go_simp; (try with_reducible rfl)
      simp only [Act.put]
      refine wpAnyH_take (i := 5) (v := ?h55) rfl (by kernel_rfl) (by kernel_rfl) (by kernel_rfl) (fun _ _ _ h => h) (Or.inl ⟨by rfl, ?hyh55⟩) (by assumption) ?resth55
      case hyh55 => intro w hSw; (try dsimp only at hSw); go_simp; (try with_reducible rfl)
      simp only [Act.put]
      refine wpAnyH_take (i := 6) (v := ?h56) rfl (by kernel_rfl) (by kernel_rfl) (by kernel_rfl) (fun _ _ _ h => h) (Or.inl ⟨by rfl, ?hyh56⟩) (by assumption) ?resth56
      case hyh56 => intro w hSw; (try dsimp only at hSw); go_simp; (try with_reducible rfl)
      simp only [Act.put]
      refine wpAnyH_take (i := 7) (v := ?h57) rfl (by kernel_rfl) (by kernel_rfl) (by kernel_rfl) (fun _ _ _ h => h) (Or.inl ⟨by rfl, ?hyh57⟩) (by assumption) ?resth57
      case hyh57 => intro w hSw; (try dsimp only at hSw); go_simp; (try with_reducible rfl)
      simp only [Act.put]
      refine wpAnyH_take (i := 8) (v := ?h58) rfl (by kernel_rfl) (by kernel_rfl) (by kernel_rfl) (fun _ _ _ h => h) (Or.inl ⟨by rfl, ?hyh58⟩) (by assumption) ?resth58
      case hyh58 => intro w hSw; (try dsimp only at hSw); go_simp; (try with_reducible rfl)
      simp only [Act.put]
      refine wpAnyH_ready (rs := [9]) (by kernel_rfl) (by simp) ?_
      refine AllReadyH.cons rfl (fun K hK => ?_) AllReadyH.nil
      go_simp
      refine hK.out _ _ ((World.cell?_of_block (a := ⟨D, 0, none⟩) (Below.heap_alloc wr _ D hDl0)).trans c0) (fun hHeld => ?_)
      clear hK K
      refine wpAnyH_ready (rs := [10]) (by kernel_rfl) (by simp) ?_
      refine AllReadyH.cons rfl (fun K hK => ?_) AllReadyH.nil
      go_simp
      refine hK.out _ _ ((World.cell?_of_block (a := ⟨D, 0, none⟩) (Below.heap_alloc wr _ D hDl0)).trans c0) (fun hHeld => ?_)
      clear hK K
      refine wpAnyH_done (by kernel_rfl) ?_ _
      have hK5 : KpH m x w (wr.alloc (.cells #[.int .i64 x, .int .i64 x] 44)).drew D F vi (.slice ah Lh.length ch) vn vm Li Lh (.slice av k cap) k [] := HK.out.quiet (((Below.refl _ _).alloc (Nat.le_refl _) _).drew)
      have cA0 : (wr.alloc (.cells #[.int .i64 x, .int .i64 x] 44)).drew.cell? ⟨wr.heap.size, 0, none⟩ = some (.int .i64 x) := (World.news_of_block (cs := #[.int .i64 x, .int .i64 x]) (heap_alloc_new wr (.cells #[.int .i64 x, .int .i64 x] 44))) 0 _ rfl
      have cB0 : (wr.alloc (.cells #[.int .i64 x, .int .i64 x] 44)).drew.cell? ⟨wr.heap.size, 1, none⟩ = some (.int .i64 x) := (World.news_of_block (cs := #[.int .i64 x, .int .i64 x]) (heap_alloc_new wr (.cells #[.int .i64 x, .int .i64 x] 44))) 1 _ rfl
      have HVH : Hid ((Value.slice av k cap).ownBlock ≠ some wr.heap.size) := fun e => by have h1 := HVL.out _ e; have h2 := HK.out.only.size; omega
      clear HK hrow c0 hHeld hDl0
      generalize (wr.alloc (.cells #[.int .i64 x, .int .i64 x] 44)).drew = w5 at *
      generalize wr.heap.size = hb at *
      have HK0 : Hid (KpH m x w w5 D F vi (.slice ah Lh.length ch) vn vm Li Lh (.slice av k cap) k []) := hK5
      have hrow0 := hK5.row
      clear hK5
      go_wp2_with (at_builtin; first | (refine wpList_append_fill _ rfl _ _ 31 rfl 0 44 i2 (.agg #[.int .i64 0, .int .i64 0]) 2 16 Try.underlying31 hk2 hx0 hx1 hx2 rfl (by decide) (.slice av k cap) k _ rfl (World.ownsRow.alloc hrow0 _) ⟨w5.heap.size, 0, none⟩ 1 1 [.int .i64 x, .int .i64 x] (.int .i64 x) rfl rfl (World.news_of_block (cs := #[.int .i64 x, .int .i64 x]) (heap_alloc_new w5 _)) (by intro u hu2; simp at hu2; subst hu2; rfl) (by simp) (by decide) (by unfold maxLen; omega) (by omega) (Nat.zero_le _) (w5.heap.size + 1) (by simp) ?_; intro ga capa wa a1 a2 a3 a4 a5 a6; have cA1 : wa.cell? ⟨hb, 0, none⟩ = some (.int .i64 x) := World.grownBy.cell a3 (cell_keep _ cA0) (fun e => HVH.out e.symm); have cB1 : wa.cell? ⟨hb, 1, none⟩ = some (.int .i64 x) := World.grownBy.cell a3 (cell_keep _ cB0) (fun e => HVH.out e.symm); have hK1 : KpH m x w wa D F vi (.slice ah Lh.length ch) vn vm Li Lh (.slice av k cap) k ([] ++ [.slice (some ⟨ga, 0, none⟩) (k + 1) capa]) := KpH.next (HK0.out.quiet ((Below.refl _ _).alloc (Nat.le_refl _) _)) HV.out (by simp) (by omega) a1 a2 a3 (by simpa using a4) a5 a6; have HK1 : Hid (KpH m x w wa D F vi (.slice ah Lh.length ch) vn vm Li Lh (.slice av k cap) k [.slice (some ⟨ga, 0, none⟩) (k + 1) capa]) := hK1; have hrow1 := hK1.row; clear hK1 HK0 hrow0 a1 a2 a3 a4 a5 a6 cA0 cB0) | (refine wpList_append_fill _ rfl _ _ 31 rfl 0 44 i2 (.agg #[.int .i64 0, .int .i64 0]) 2 16 Try.underlying31 hk2 hx0 hx1 hx2 rfl (by decide) (.slice av k cap) k _ rfl (World.ownsRow.alloc hrow1 _) ⟨wa.heap.size, 0, none⟩ 2 2 [.int .i64 x, .int .i64 x, .int .i64 x, .int .i64 x] (.int .i64 x) rfl rfl (World.news_of_block (cs := #[.int .i64 x, .int .i64 x, .int .i64 x, .int .i64 x]) (heap_alloc_new wa _)) (by intro u hu2; simp at hu2; subst hu2; rfl) (by simp) (by decide) (by unfold maxLen; omega) (by omega) (Nat.zero_le _) (wa.heap.size + 1) (by simp) ?_; intro gb capb wb a1 a2 a3 a4 a5 a6; have cA2 : wb.cell? ⟨hb, 0, none⟩ = some (.int .i64 x) := World.grownBy.cell a3 (cell_keep _ cA1) (fun e => HVH.out e.symm); have cB2 : wb.cell? ⟨hb, 1, none⟩ = some (.int .i64 x) := World.grownBy.cell a3 (cell_keep _ cB1) (fun e => HVH.out e.symm); have hK2 : KpH m x w wb D F vi (.slice ah Lh.length ch) vn vm Li Lh (.slice av k cap) k ([.slice (some ⟨ga, 0, none⟩) (k + 1) capa] ++ [.slice (some ⟨gb, 0, none⟩) (k + 2) capb]) := KpH.next (HK1.out.quiet ((Below.refl _ _).alloc (Nat.le_refl _) _)) HV.out (by simp) (by omega) a1 a2 a3 (by simpa using a4) a5 a6; have HK2 : Hid (KpH m x w wb D F vi (.slice ah Lh.length ch) vn vm Li Lh (.slice av k cap) k [.slice (some ⟨ga, 0, none⟩) (k + 1) capa, .slice (some ⟨gb, 0, none⟩) (k + 2) capb]) := hK2; have hrow2 := hK2.row; clear hK2 HK1 hrow1 a1 a2 a3 a4 a5 a6 cA1 cB1) | (refine wpList_append_fill _ rfl _ _ 31 rfl 0 44 i2 (.agg #[.int .i64 0, .int .i64 0]) 2 16 Try.underlying31 hk2 hx0 hx1 hx2 rfl (by decide) (.slice av k cap) k _ rfl (World.ownsRow.alloc hrow2 _) ⟨wb.heap.size, 0, none⟩ 3 3 [.int .i64 x, .int .i64 x, .int .i64 x, .int .i64 x, .int .i64 x, .int .i64 x] (.int .i64 x) rfl rfl (World.news_of_block (cs := #[.int .i64 x, .int .i64 x, .int .i64 x, .int .i64 x, .int .i64 x, .int .i64 x]) (heap_alloc_new wb _)) (by intro u hu2; simp at hu2; subst hu2; rfl) (by simp) (by decide) (by unfold maxLen; omega) (by omega) (Nat.zero_le _) (wb.heap.size + 1) (by simp) ?_; intro gc capc wc a1 a2 a3 a4 a5 a6; have cA3 : wc.cell? ⟨hb, 0, none⟩ = some (.int .i64 x) := World.grownBy.cell a3 (cell_keep _ cA2) (fun e => HVH.out e.symm); have cB3 : wc.cell? ⟨hb, 1, none⟩ = some (.int .i64 x) := World.grownBy.cell a3 (cell_keep _ cB2) (fun e => HVH.out e.symm); have hK3 : KpH m x w wc D F vi (.slice ah Lh.length ch) vn vm Li Lh (.slice av k cap) k ([.slice (some ⟨ga, 0, none⟩) (k + 1) capa, .slice (some ⟨gb, 0, none⟩) (k + 2) capb] ++ [.slice (some ⟨gc, 0, none⟩) (k + 3) capc]) := KpH.next (HK2.out.quiet ((Below.refl _ _).alloc (Nat.le_refl _) _)) HV.out (by simp) (by omega) a1 a2 a3 (by simpa using a4) a5 a6; have HK3 : Hid (KpH m x w wc D F vi (.slice ah Lh.length ch) vn vm Li Lh (.slice av k cap) k [.slice (some ⟨ga, 0, none⟩) (k + 1) capa, .slice (some ⟨gb, 0, none⟩) (k + 2) capb, .slice (some ⟨gc, 0, none⟩) (k + 3) capc]) := hK3; have hrow3 := hK3.row; have cc2 := hK3.dr.c2; have cf2 := hK3.dr.free 2; have hrh := hK3.dr.rh; have hlh := hK3.dr.lh; have hDl := hK3.dr.lt D hK3.dr.mine; have hbh := hK3.dr.bh; clear hK3 HK2 hrow2 a1 a2 a3 a4 a5 a6 cA2 cB2) | (refine wpList_lies_wide _ rfl _ _ 74 rfl 0 31 i1 (.slice none 0 0) 1 24 Try.underlying74 hj hy0 hy1 hy2 rfl (by decide) (.slice ah Lh.length ch) Lh.length (Lh.map (·.1)) rfl (World.ownsRow.alloc hrh _) ⟨wc.heap.size, 0, none⟩ 4 4 [.slice av k cap, .slice (some ⟨ga, 0, none⟩) (k + 1) capa, .slice (some ⟨gb, 0, none⟩) (k + 2) capb, .slice (some ⟨gc, 0, none⟩) (k + 3) capc] rfl rfl (World.news_of_block (heap_alloc_new wc _)) (by simp [Value.oneCell']) (by decide) (by unfold maxLen; omega) (by omega) (Nat.zero_le _) (wc.heap.size + 1) (by simp) ?_; intro ge cape we e1 e2 e3 e4; have hDe : we.heap[D]? = wc.heap[D]? := (e2.block D (by simp; omega) (fun e => (hbh D e.symm).2 rfl)).trans (Below.heap_alloc wc _ D hDl); have c2e : we.cell? ⟨D, 2, none⟩ = some (.slice ah Lh.length ch) := (World.cell?_of_block (a := ⟨D, 2, none⟩) hDe).trans cc2; have f2e : we.frozen? ⟨D, 2, none⟩ = false := (World.frozen?_of_block (a := ⟨D, 2, none⟩) hDe).trans cf2))
      have hKd := HK3.out.dr
      have hwf : (we.setCell ⟨D, 2, none⟩ (.slice (some ⟨ge, 0, none⟩) (Lh.length + 4) cape)).heap[D]? = some (.cells #[.int .i64 x, vi, .slice (some ⟨ge, 0, none⟩) (Lh.length + 4) cape, vn, vm] 76 (0, 0)) := (heap_setCell_same we D 2 _ 76 _ (hDe.trans hKd.blk)).trans rfl
      have hwe := e2.size
      have hvnD : vm.ownBlock ≠ some D := fun e => (hKd.bm D e).2.1 rfl
      have hvni : ∀ g, vm.ownBlock = some g → g < wc.heap.size ∧ some g ≠ (Value.slice ah Lh.length ch).ownBlock := fun g e => ⟨hKd.lt g (hKd.bm g e).1, fun e' => kinds_apartH hKd.rm hKd.rh (by decide) e e'.symm⟩
      have HRN : Hid (∀ W, Below (we.setCell ⟨D, 2, none⟩ (.slice (some ⟨ge, 0, none⟩) (Lh.length + 4) cape)).heap.size (we.setCell ⟨D, 2, none⟩ (.slice (some ⟨ge, 0, none⟩) (Lh.length + 4) cape)) W → W.ownsRow 0 3 1 vm Lh.length (Lh.map fun p => .int .i64 p.2)) := fun W hb => row_same hKd.rm fun g hg => by
        have hgl := (hvni g hg).1
        rw [hb.block g (by simp; simp at hwe; omega), Below.heap_setCell we ⟨D, 2, none⟩ _ g (fun e => hvnD (by have e' : g = D := e; rw [← e']; exact hg)), e2.block g (by simp; omega) (hvni g hg).2, Below.heap_alloc wc _ g hgl]
      have HFIN : Hid (∀ gg capg wg, wg.ownsRow 0 3 1 (.slice (some ⟨gg, 0, none⟩) (Lh.length + 4) capg) (Lh.length + 4) ((Lh.map fun p => .int .i64 p.2) ++ [.int .i64 x, .int .i64 x, .int .i64 x, .int .i64 x]) → (((we.setCell ⟨D, 2, none⟩ (.slice (some ⟨ge, 0, none⟩) (Lh.length + 4) cape)).alloc (.cells #[.int .i64 x, .int .i64 x, .int .i64 x, .int .i64 x] 3)).drew).grownBy wg vm.ownBlock → (vm.ownBlock = some gg ∨ gg = we.heap.size + 1) → gg < wg.heap.size →
          Only (fun q => F q ∨ (Value.slice av k cap).ownBlock = some q) w (wg.setCell ⟨D, 4, none⟩ (.slice (some ⟨gg, 0, none⟩) (Lh.length + 4) capg)) ∧ ∃ G, DS (m + 1) (wg.setCell ⟨D, 4, none⟩ (.slice (some ⟨gg, 0, none⟩) (Lh.length + 4) capg)) D G ∧ ∀ q, G q → F q ∨ (Value.slice av k cap).ownBlock = some q ∨ w.heap.size ≤ q) := fun gg capg wg n1 n2 n3 n4 => KpH.lay HK3.out hm hxm hl HF.out (fun g e => ⟨HV.out g e, HVL.out g e⟩) rfl e1 e2 e3 e4 n1 n2 n3 n4
      have hsf : (we.setCell ⟨D, 2, none⟩ (.slice (some ⟨ge, 0, none⟩) (Lh.length + 4) cape)).heap.size = we.heap.size := by simp
      have hDf := lt_of_block hwf
      have c3f : (we.setCell ⟨D, 2, none⟩ (.slice (some ⟨ge, 0, none⟩) (Lh.length + 4) cape)).cell? ⟨D, 4, none⟩ = some vm := by rw [cell_of_row _ D 4 _ 76 (0, 0) hwf]; rfl
      have c0f : (we.setCell ⟨D, 2, none⟩ (.slice (some ⟨ge, 0, none⟩) (Lh.length + 4) cape)).cell? ⟨D, 0, none⟩ = some (.int .i64 x) := by rw [cell_of_row _ D 0 _ 76 (0, 0) hwf]; rfl
      have f3f : (we.setCell ⟨D, 2, none⟩ (.slice (some ⟨ge, 0, none⟩) (Lh.length + 4) cape)).frozen? ⟨D, 4, none⟩ = false := frozen_of_row _ D 4 _ 76 hwf
      clear hwf hKd HK3 hrh hbh cc2 cf2 hDe c2e f2e e1 e2 e3 e4 cA3 cB3 HVH hrow3
      rw [← hsf] at HFIN
      generalize we.setCell ⟨D, 2, none⟩ (.slice (some ⟨ge, 0, none⟩) (Lh.length + 4) cape) = wf at *
      have HDG : Hid (∀ wg, ((wf.alloc (.cells #[.int .i64 x, .int .i64 x, .int .i64 x, .int .i64 x] 3)).drew).grownBy wg vm.ownBlock → wg.heap[D]? = wf.heap[D]?) := fun wg n2 => (n2.block D (by simp; omega) (fun e => hvnD e.symm)).trans (Below.heap_alloc wf _ D hDf)
      have c3w : ((wf.alloc (.cells #[.int .i64 x, .int .i64 x, .int .i64 x, .int .i64 x] 3)).drew).cell? ⟨D, 4, none⟩ = some vm := (World.cell?_of_block (a := ⟨D, 4, none⟩) (Below.heap_alloc wf _ D hDf)).trans c3f
      have HS2 : Hid (wf.cell? ⟨D, 0, none⟩ = some (.int .i64 x) ∧ wf.frozen? ⟨D, 4, none⟩ = false) := ⟨c0f, f3f⟩
      refine wp_region_held_drew (S := fun w' => w'.cell? ⟨D, 0, none⟩ = some (.int .i64 x) ∧ w'.frozen? ⟨D, 4, none⟩ = false) (by kernel_rfl) ⟨c0f, f3f⟩ (fun hHeld => ?_)
      refine wpAnyH_take (i := 0) (v := ?a0) rfl (by kernel_rfl) (by kernel_rfl) (by kernel_rfl) (fun _ _ _ h => h) (Or.inl ⟨by rfl, ?hya0⟩) (by assumption) ?resta0
      case hya0 => intro w hSw; (try dsimp only at hSw); go_simp; (try with_reducible rfl)
      simp only [Act.put]
      refine wpAnyH_take (i := 1) (v := ?a1) rfl (by kernel_rfl) (by kernel_rfl) (by kernel_rfl) (fun _ _ _ h => h) (Or.inl ⟨by rfl, ?hya1⟩) (by assumption) ?resta1
      case hya1 => intro w hSw; (try dsimp only at hSw); go_simp; (try with_reducible rfl)
      simp only [Act.put]
      refine wpAnyH_take (i := 2) (v := ?a2) rfl (by kernel_rfl) (by kernel_rfl) (by kernel_rfl) (fun _ _ _ h => h) (Or.inl ⟨by rfl, ?hya2⟩) (by assumption) ?resta2
      case hya2 => intro w hSw; (try dsimp only at hSw); go_simp; (try with_reducible rfl)
      simp only [Act.put]
      refine wpAnyH_take (i := 3) (v := ?a3) rfl (by kernel_rfl) (by kernel_rfl) (by kernel_rfl) (fun _ _ _ h => h) (Or.inl ⟨by rfl, ?hya3⟩) (by assumption) ?resta3
      case hya3 => intro w hSw; (try dsimp only at hSw); go_simp; (try with_reducible rfl)
      simp only [Act.put]
      refine wpAnyH_take (i := 5) (v := ?a5) rfl (by kernel_rfl) (by kernel_rfl) (by kernel_rfl) (fun _ _ _ h => h) (Or.inl ⟨by rfl, ?hya5⟩) (by assumption) ?resta5
      case hya5 => intro w hSw; (try dsimp only at hSw); go_simp; (try with_reducible rfl)
      simp only [Act.put]
      refine wpAnyH_take (i := 6) (v := ?a6) rfl (by kernel_rfl) (by kernel_rfl) (by kernel_rfl) (fun _ _ _ h => h) (Or.inl ⟨by rfl, ?hya6⟩) (by assumption) ?resta6
      case hya6 => intro w hSw; (try dsimp only at hSw); go_simp; (try with_reducible rfl)
      simp only [Act.put]
      refine wpAnyH_take (i := 7) (v := ?a7) rfl (by kernel_rfl) (by kernel_rfl) (by kernel_rfl) (fun _ _ _ h => h) (Or.inl ⟨by rfl, ?hya7⟩) (by assumption) ?resta7
      case hya7 => intro w hSw; (try dsimp only at hSw); go_simp; (try with_reducible rfl)
      simp only [Act.put]
      refine wpAnyH_take (i := 8) (v := ?a8) rfl (by kernel_rfl) (by kernel_rfl) (by kernel_rfl) (fun _ _ _ h => h) (Or.inl ⟨by rfl, ?hya8⟩) (by assumption) ?resta8
      case hya8 => intro w hSw; (try dsimp only at hSw); go_simp; (try with_reducible rfl)
      simp only [Act.put]
      refine wpAnyH_take (i := 9) (v := ?a9) rfl (by kernel_rfl) (by kernel_rfl) (by kernel_rfl) (fun _ _ _ h => h) (Or.inl ⟨by rfl, ?hya9⟩) (by assumption) ?resta9
      case hya9 => intro w hSw; (try dsimp only at hSw); go_simp; (try with_reducible rfl)
      simp only [Act.put]
      refine wpAnyH_take (i := 10) (v := ?a10) rfl (by kernel_rfl) (by kernel_rfl) (by kernel_rfl) (fun _ _ _ h => h) (Or.inl ⟨by rfl, ?hya10⟩) (by assumption) ?resta10
      case hya10 => intro w hSw; (try dsimp only at hSw); go_simp; (try with_reducible rfl)
      simp only [Act.put]
      refine wpAnyH_take (i := 11) (v := ?a11) rfl (by kernel_rfl) (by kernel_rfl) (by kernel_rfl) (fun _ _ _ h => h) (Or.inl ⟨by rfl, ?hya11⟩) (by assumption) ?resta11
      case hya11 => intro w hSw; (try dsimp only at hSw); go_simp; (try with_reducible rfl)
      simp only [Act.put]
      refine wpAnyH_take (i := 12) (v := ?a12) rfl (by kernel_rfl) (by kernel_rfl) (by kernel_rfl) (fun _ _ _ h => h) (Or.inl ⟨by rfl, ?hya12⟩) (by assumption) ?resta12
      case hya12 => intro w hSw; (try dsimp only at hSw); go_simp; (try with_reducible rfl)
      simp only [Act.put]
      refine wpAnyH_take (i := 13) (v := ?a13) rfl (by kernel_rfl) (by kernel_rfl) (by kernel_rfl) (fun _ _ _ h => h) (Or.inl ⟨by rfl, ?hya13⟩) (by assumption) ?resta13
      case hya13 => intro w hSw; (try dsimp only at hSw); go_simp; (try with_reducible rfl)
      simp only [Act.put]
      refine wpAnyH_take (i := 14) (v := ?a14) rfl (by kernel_rfl) (by kernel_rfl) (by kernel_rfl) (fun _ _ _ h => h) (Or.inl ⟨by rfl, ?hya14⟩) (by assumption) ?resta14
      case hya14 => intro w hSw; (try dsimp only at hSw); go_simp; (try with_reducible rfl)
      simp only [Act.put]
      refine wpAnyH_take (i := 15) (v := ?a15) rfl (by kernel_rfl) (by kernel_rfl) (by kernel_rfl) (fun _ _ _ h => h) (Or.inl ⟨by rfl, ?hya15⟩) (by assumption) ?resta15
      case hya15 => intro w hSw; (try dsimp only at hSw); go_simp; (try with_reducible rfl)
      simp only [Act.put]
      refine wpAnyH_take (i := 16) (v := ?a16) rfl (by kernel_rfl) (by kernel_rfl) (by kernel_rfl) (fun _ _ _ h => h) (Or.inl ⟨by rfl, ?hya16⟩) (by assumption) ?resta16
      case hya16 => intro w hSw; (try dsimp only at hSw); go_simp; (try with_reducible rfl)
      simp only [Act.put]
      refine wpAnyH_take (i := 17) (v := ?a17) rfl (by kernel_rfl) (by kernel_rfl) (by kernel_rfl) (fun _ _ _ h => h) (Or.inl ⟨by rfl, ?hya17⟩) (by assumption) ?resta17
      case hya17 => intro w hSw; (try dsimp only at hSw); go_simp; (try with_reducible rfl)
      simp only [Act.put]
      refine wpAnyH_take (i := 18) (v := ?a18) rfl (by kernel_rfl) (by kernel_rfl) (by kernel_rfl) (fun _ _ _ h => h) (Or.inl ⟨by rfl, ?hya18⟩) (by assumption) ?resta18
      case hya18 => intro w hSw; (try dsimp only at hSw); go_simp; (try with_reducible rfl)
      simp only [Act.put]
      refine wpAnyH_take (i := 19) (v := ?a19) rfl (by kernel_rfl) (by kernel_rfl) (by kernel_rfl) (fun _ _ _ h => h) (Or.inl ⟨by rfl, ?hya19⟩) (by assumption) ?resta19
      case hya19 => intro w hSw; (try dsimp only at hSw); go_simp; (try with_reducible rfl)
      simp only [Act.put]
      refine wpAnyH_take (i := 20) (v := ?a20) rfl (by kernel_rfl) (by kernel_rfl) (by kernel_rfl) (fun _ _ _ h => h) (Or.inl ⟨by rfl, ?hya20⟩) (by assumption) ?resta20
      case hya20 => intro w hSw; (try dsimp only at hSw); go_simp; (try with_reducible rfl)
      simp only [Act.put]
      refine wpAnyH_ready (rs := [4, 21]) (by kernel_rfl) (by simp) ?_
      refine AllReadyH.cons rfl (fun K hK => ?_) (AllReadyH.cons rfl (fun K hK => ?_) AllReadyH.nil)
      · go_simp
        refine hK.out _ _ (by exact hHeld) (fun hHeld => ?_)
        clear hK K
        refine wpAnyH_ready (rs := [21]) (by kernel_rfl) (by simp) ?_
        refine AllReadyH.cons rfl (fun K hK => ?_) AllReadyH.nil
        go_simp
        refine hK.out _ _ (by exact s4_alloc hHeld _) (fun hHeld => ?_)
        clear hK K
        refine wpAnyH_ready (rs := [22]) (by kernel_rfl) (by simp) ?_
        refine AllReadyH.cons rfl (fun K hK => ?_) AllReadyH.nil
        refine stepK_lies _ 93 rfl rfl (.tmp 75) (.tmp 92) 35 rfl 0 3 i0 (.int .i64 0) 1 8 Try.underlying35 hi hz0 hz1 hz2 rfl (by decide) vm Lh.length _ (by simp [Act.eval]) (HRN.out _ (((Below.refl _ _).alloc (Nat.le_refl _) _).drew)) ⟨wf.heap.size, 0, none⟩ 4 4 [.int .i64 x, .int .i64 x, .int .i64 x, .int .i64 x] (by simp [Act.eval]) rfl (World.news_of_block (cs := #[.int .i64 x, .int .i64 x, .int .i64 x, .int .i64 x]) (heap_alloc_new wf _)) (by intro u hu2; simp at hu2; subst hu2; rfl) (by decide) (by unfold maxLen; omega) (by omega) (Nat.zero_le _) (wf.heap.size + 1) (by simp) ?_
        intro gg capg wg n1 n2 n3 n4
        have hDg : wg.heap[D]? = wf.heap[D]? := HDG.out wg n2
        refine hK.out _ _ (s4_same HS2.out hDg) (fun hHeld => ?_)
        clear hK K
        have c3g : wg.cell? ⟨D, 4, none⟩ = some vm := (World.cell?_of_block (a := ⟨D, 4, none⟩) hDg).trans c3f
        refine wpAnyH_take (i := 23) (v := ?b23) rfl (by kernel_rfl) (by kernel_rfl) (by kernel_rfl) (fun _ _ _ h => h) (Or.inl ⟨by rfl, ?hyb23⟩) (by assumption) ?restb23
        case hyb23 => intro w hSw; (try dsimp only at hSw); go_simp; (try with_reducible rfl)
        simp only [Act.put]
        refine wpAnyH_take (i := 24) (v := ?b24) rfl (by kernel_rfl) (by kernel_rfl) (by kernel_rfl) (fun _ _ _ h => h) (Or.inl ⟨by rfl, ?hyb24⟩) (by assumption) ?restb24
        case hyb24 => intro w hSw; (try dsimp only at hSw); go_simp; (try with_reducible rfl)
        simp only [Act.put]
        refine wpAnyH_ready (rs := [25]) (by kernel_rfl) (by simp) ?_
        refine AllReadyH.cons rfl (fun K hK => ?_) AllReadyH.nil
        go_simp
        refine hK.out _ _ (by exact s4_set hHeld _) (fun hHeld => ?_)
        clear hK K
        refine wpAnyH_done (by kernel_rfl) ?_ _
        go_wp2
        go_end0
        exact ⟨rfl, HFIN.out gg capg wg n1 n2 n3 n4⟩
      · go_simp
        refine hK.out _ _ (by exact s4_alloc hHeld _) (fun hHeld => ?_)
        clear hK K
        refine wpAnyH_ready (rs := [4]) (by kernel_rfl) (by simp) ?_
        refine AllReadyH.cons rfl (fun K hK => ?_) AllReadyH.nil
        go_simp
        refine hK.out _ _ (by exact hHeld) (fun hHeld => ?_)
        clear hK K
        refine wpAnyH_ready (rs := [22]) (by kernel_rfl) (by simp) ?_
        refine AllReadyH.cons rfl (fun K hK => ?_) AllReadyH.nil
        refine stepK_lies _ 93 rfl rfl (.tmp 75) (.tmp 92) 35 rfl 0 3 i0 (.int .i64 0) 1 8 Try.underlying35 hi hz0 hz1 hz2 rfl (by decide) vm Lh.length _ (by simp [Act.eval]) (HRN.out _ (((Below.refl _ _).alloc (Nat.le_refl _) _).drew)) ⟨wf.heap.size, 0, none⟩ 4 4 [.int .i64 x, .int .i64 x, .int .i64 x, .int .i64 x] (by simp [Act.eval]) rfl (World.news_of_block (cs := #[.int .i64 x, .int .i64 x, .int .i64 x, .int .i64 x]) (heap_alloc_new wf _)) (by intro u hu2; simp at hu2; subst hu2; rfl) (by decide) (by unfold maxLen; omega) (by omega) (Nat.zero_le _) (wf.heap.size + 1) (by simp) ?_
        intro gg capg wg n1 n2 n3 n4
        have hDg : wg.heap[D]? = wf.heap[D]? := HDG.out wg n2
        refine hK.out _ _ (s4_same HS2.out hDg) (fun hHeld => ?_)
        clear hK K
        have c3g : wg.cell? ⟨D, 4, none⟩ = some vm := (World.cell?_of_block (a := ⟨D, 4, none⟩) hDg).trans c3f
        refine wpAnyH_take (i := 23) (v := ?c23) rfl (by kernel_rfl) (by kernel_rfl) (by kernel_rfl) (fun _ _ _ h => h) (Or.inl ⟨by rfl, ?hyc23⟩) (by assumption) ?restc23
        case hyc23 => intro w hSw; (try dsimp only at hSw); go_simp; (try with_reducible rfl)
        simp only [Act.put]
        refine wpAnyH_take (i := 24) (v := ?c24) rfl (by kernel_rfl) (by kernel_rfl) (by kernel_rfl) (fun _ _ _ h => h) (Or.inl ⟨by rfl, ?hyc24⟩) (by assumption) ?restc24
        case hyc24 => intro w hSw; (try dsimp only at hSw); go_simp; (try with_reducible rfl)
        simp only [Act.put]
        refine wpAnyH_ready (rs := [25]) (by kernel_rfl) (by simp) ?_
        refine AllReadyH.cons rfl (fun K hK => ?_) AllReadyH.nil
        go_simp
        refine hK.out _ _ (by exact s4_set hHeld _) (fun hHeld => ?_)
        clear hK K
        refine wpAnyH_done (by kernel_rfl) ?_ _
        go_wp2
        go_end0
        exact ⟨rfl, HFIN.out gg capg wg n1 n2 n3 n4⟩

end Go.Proofs.Ythkndfkkgncjfab

namespace Go.Proofs.Ythkndfkkgncjfab
open Go.RowKit
set_option maxRecDepth 100000

section
variable {At : World → Nat → Int → Int → Int → List Do.Chg → (Nat → Prop) → Prop}

/-- a law's steps: the kinds that are asked go as they should -/
def StepsTo (M : Nat) (At : World → Nat → Int → Int → Int → List Do.Chg → (Nat → Prop) → Prop) (DS : Nat → World → Nat → (Nat → Prop) → Prop) (lo hi : Int) : Prop :=
  ∀ (B G D m n : Nat) (v : Value) (bs : List Bk) (own : Nat → Nat) (o : OpV) (w : World), m ≤ n → Inv At (DS m) w B G D v bs own → B ≤ w.heap.size → Good bs n → n < M → o.ok → (o.k ≤ 3 ∨ lo ≤ o.k ∧ o.k ≤ hi) →
    Calls Try.prog 25 #[.pointer (some ⟨G, 0, none⟩), opV o] w fun e w' => e = .returned (.bool true) ∧ Left At DS B G D (n + 1) w w'

set_option maxHeartbeats 4000000 in
theorem plays_to {M : Nat} (hM : M ≤ 1999999999999) {DS : Nat → World → Nat → (Nat → Prop) → Prop} (hC : Serves At 28 21 23 60 62 20 58 11) (hD : ∀ m, Drawn (DS m)) (hz : ∀ w D, w.heap[D]? = some (.cells #[.int .i64 0, .slice none 0 0, .slice none 0 0, .slice none 0 0, .slice none 0 0] 76 (0, 0)) → DS 0 w D (fun k => k = D))
    (lo hi : Int) (hst : StepsTo M At DS lo hi) (sv : Value) (len : Nat) (os : Nat → OpV) (w : World) (hsc : Script w sv len os) (hlen : len ≤ M) :
    Calls Try.prog 15 #[sv, .int .i64 lo, .int .i64 hi] w fun e w' => e = .returned (.bool true) ∧ Below w.heap.size w w' := by
  obtain ⟨a0, cap, rfl, hsv⟩ : ∃ a0 cap, sv = .slice a0 len cap ∧ (∀ {k : Nat}, k < len → ∃ gb off, a0 = some ⟨gb, off, none⟩ ∧ ∀ i, i < len → (os i).ok ∧ ∀ j u, (opCells (os i))[j]? = some u → w.cell? ⟨gb, off + i * 9 + j, none⟩ = some u) := by
    rcases hsc with ⟨h1, h2⟩ | ⟨a, cap, h1, _, h2⟩
    · exact ⟨none, 0, by rw [h2]; exact h1, fun h => by omega⟩
    · refine ⟨some a, cap, h1, fun {k} hk => ?_⟩
      have hsp := (h2 0 (by omega)).2 0 _ rfl
      obtain ⟨gb, off, spot⟩ := a
      have hs0 : spot = none := by
        cases spot with
        | none => rfl
        | some n =>
          exfalso
          simp [Addr.add, World.cell?] at hsp
          split at hsp <;> simp at hsp
      subst hs0
      refine ⟨gb, off, rfl, fun i hi => ⟨(h2 i hi).1, fun j u hu => ?_⟩⟩
      have := (h2 i hi).2 j u hu
      rw [Nat.add_assoc]
      generalize i * 9 + j = q at *
      by_cases hq : q = 0
      · subst hq; simpa [Addr.add] using this
      · simpa [Addr.add, hq] using this
  clear hsc
  go_enter Try.func15, Try.ntmps15
  go_wp2_with fail
  have hb0 : Below w.heap.size w ((w.alloc (.cells #[.int .i64 0, .slice none 0 0, .slice none 0 0, .slice none 0 0, .slice none 0 0] 76)).alloc (.cells #[.slice none 0 0, .pointer (some ⟨w.heap.size, 0, none⟩)] 79)) := ((Below.refl _ _).alloc (Nat.le_refl _) _).alloc (by simp) _
  have hsz : ((w.alloc (.cells #[.int .i64 0, .slice none 0 0, .slice none 0 0, .slice none 0 0, .slice none 0 0] 76)).alloc (.cells #[.slice none 0 0, .pointer (some ⟨w.heap.size, 0, none⟩)] 79)).heap.size = w.heap.size + 2 := by simp
  have hGo : ((w.alloc (.cells #[.int .i64 0, .slice none 0 0, .slice none 0 0, .slice none 0 0, .slice none 0 0] 76)).alloc (.cells #[.slice none 0 0, .pointer (some ⟨w.heap.size, 0, none⟩)] 79)).heap[w.heap.size + 1]? = some (.cells #[.slice none 0 0, .pointer (some ⟨w.heap.size, 0, none⟩)] 79 (0, 0)) := by
    have := heap_alloc_new (w.alloc (.cells #[.int .i64 0, .slice none 0 0, .slice none 0 0, .slice none 0 0, .slice none 0 0] 76)) (.cells #[.slice none 0 0, .pointer (some ⟨w.heap.size, 0, none⟩)] 79)
    simpa using this
  have hDo : ((w.alloc (.cells #[.int .i64 0, .slice none 0 0, .slice none 0 0, .slice none 0 0, .slice none 0 0] 76)).alloc (.cells #[.slice none 0 0, .pointer (some ⟨w.heap.size, 0, none⟩)] 79)).heap[w.heap.size]? = some (.cells #[.int .i64 0, .slice none 0 0, .slice none 0 0, .slice none 0 0, .slice none 0 0] 76 (0, 0)) := by
    rw [Below.heap_alloc _ _ w.heap.size (by simp)]
    exact heap_alloc_new w _
  generalize (w.alloc (.cells #[.int .i64 0, .slice none 0 0, .slice none 0 0, .slice none 0 0, .slice none 0 0] 76)).alloc (.cells #[.slice none 0 0, .pointer (some ⟨w.heap.size, 0, none⟩)] 79) = w1 at *
  obtain ⟨own1, hI1⟩ := Inv.start (At := At) (DP := DS 0) (B := w.heap.size) hGo (hz w1 w.heap.size hDo) (by omega) (Nat.le_refl _) (Nat.le_succ _) (by omega)
  refine (opened_ok hC (hD 0) own1 400 8 3 w1 (by unfold okc; omega) hI1 (by omega) (by simp)).mono ?_
  rintro e w2 ⟨rfl, x, r, v2, own2, hI2, ho2⟩
  have hb2 : Below w.heap.size w w2 := hb0.trans (hI1.low (by omega) ho2)
  obtain ⟨g2, cap2, hv2⟩ : ∃ g cap, v2 = .slice (some ⟨g, 0, none⟩) 1 cap := by
    rcases hI2.row.2 with ⟨_, h0⟩ | ⟨g, cap, cur, rfl, _⟩
    · simp at h0
    · exact ⟨g, cap, rfl⟩
  subst hv2
  have cG2 : w2.cell? ⟨w.heap.size + 1, 0, none⟩ = some (.slice (some ⟨g2, 0, none⟩) 1 cap2) := by rw [cell_of_row w2 _ 0 _ 79 (0, 0) hI2.wo]; rfl
  have fG2 : w2.frozen? ⟨w.heap.size + 1, 0, none⟩ = false := frozen_of_row w2 _ 0 _ 79 hI2.wo
  have hI3 := hI2.reset (hD 0)
  have hb3 : Below w.heap.size w (w2.setCell ⟨w.heap.size + 1, 0, none⟩ (.slice none 0 0)) := hb2.setCell (p := ⟨w.heap.size + 1, 0, none⟩) (Nat.le_succ _) _
  have HI3 : Hid (Inv At (DS 0) (w2.setCell ⟨w.heap.size + 1, 0, none⟩ (.slice none 0 0)) w.heap.size (w.heap.size + 1) w.heap.size (.slice none 0 0) [] own2) := hI3
  clear hI1 hI2 hI3 ho2 hGo hDo hb0 hb2
  go_wp2_with fail
  generalize w2.setCell ⟨w.heap.size + 1, 0, none⟩ (.slice none 0 0) = w3 at *
  clear cG2 fG2
  go_loopw [9] (fun i wr => ∃ k : Nat, k ≤ len ∧ i = .int .i64 k ∧ (∃ m v bs own, m ≤ k ∧ Inv At (DS m) wr w.heap.size (w.heap.size + 1) w.heap.size v bs own ∧ Good bs k) ∧ Below w.heap.size w wr) (fun i _ => len - (intOf i).toNat)
  case atStart => exact ⟨0, Nat.zero_le _, rfl, ⟨0, _, _, _, Nat.le_refl _, HI3.out, ⟨Nat.le_refl _, by simp⟩⟩, hb3⟩
  case round =>
    obtain ⟨k, hk, rfl, hinv, hb⟩ := hrel
    clear HI3 hb3
    by_cases hlt : k < len
    · obtain ⟨gb, off, rfl, hcell⟩ := hsv hlt
      obtain ⟨hok, hcs⟩ := hcell k hlt
      have hal : gb < w.heap.size := World.block_lt_of_cell? w ⟨gb, off + k * 9 + 0, none⟩ (hcs 0 _ rfl)
      have cs : ∀ (j : Nat) (u : Value), (opCells (os k))[j]? = some u → wr.cell? ⟨gb, off + k * 9 + j, none⟩ = some u := fun j u hu => (hb.cell (p := ⟨gb, off + k * 9 + j, none⟩) hal).trans (hcs j u hu)
      have c0 : wr.cell? ⟨gb, off + k * 9, none⟩ = _ := cs 0 _ rfl
      have c1 := cs 1 _ rfl
      have c2 := cs 2 _ rfl
      have c3 := cs 3 _ rfl
      have c4 := cs 4 _ rfl
      have c5 := cs 5 _ rfl
      have c6 := cs 6 _ rfl
      have c7 := cs 7 _ rfl
      have c8 := cs 8 _ rfl
      clear cs hcs hcell hsv
      obtain ⟨m, v, bs, own, hm, hI, hgd⟩ := hinv
      have HR : (os k).k ≤ 3 ∨ lo ≤ (os k).k ∧ (os k).k ≤ hi → Calls Try.prog 25 #[.pointer (some ⟨w.heap.size + 1, 0, none⟩), opV (os k)] wr fun e w' => e = .returned (.bool true) ∧ Left At DS w.heap.size (w.heap.size + 1) w.heap.size (k + 1) wr w' := fun hkk => hst _ _ _ m k v bs own (os k) wr hm hI hb.size hgd (by omega) hok hkk
      have HS : Hid (∃ m v bs own, m ≤ k + 1 ∧ Inv At (DS m) wr w.heap.size (w.heap.size + 1) w.heap.size v bs own ∧ Good bs (k + 1)) := ⟨m, v, bs, own, by omega, hI, hgd.mono (Nat.le_succ _)⟩
      have HB : Hid (Below w.heap.size w wr) := hb
      have HD : Hid (∀ m, Drawn (DS m)) := hD
      have HC : Hid (Serves At 28 21 23 60 62 20 58 11) := hC
      clear hI hgd hst hb hok hz hD hC
      rcases Int.lt_or_le 3 (os k).k with q3 | q3
      · rcases Int.lt_or_le (os k).k lo with ql | ql
        · have d3 : decide (3 < (os k).k) = true := by simpa using q3
          have dl : decide ((os k).k < lo) = true := by simpa using ql
          clear HR
          go_wp2_with fail
          exact ⟨⟨k + 1, by omega, by go_num, HS.out, HB.out⟩, by simp [intOf]; omega⟩
        · rcases Int.lt_or_le hi (os k).k with qh | qh
          · have d3 : decide (3 < (os k).k) = true := by simpa using q3
            have dl : decide ((os k).k < lo) = false := by simpa using ql
            have dh : decide (hi < (os k).k) = true := by simpa using qh
            clear HR
            go_wp2_with fail
            exact ⟨⟨k + 1, by omega, by go_num, HS.out, HB.out⟩, by simp [intOf]; omega⟩
          · have d3 : decide (3 < (os k).k) = true := by simpa using q3
            have dl : decide ((os k).k < lo) = false := by simpa using ql
            have dh : decide (hi < (os k).k) = false := by simpa using qh
            have HRR : Hid (Calls Try.prog 25 #[.pointer (some ⟨w.heap.size + 1, 0, none⟩), opV (os k)] wr fun e w' => e = .returned (.bool true) ∧ Left At DS w.heap.size (w.heap.size + 1) w.heap.size (k + 1) wr w') := HR (.inr ⟨ql, qh⟩)
            clear HR
            go_wp2_with fail
            refine HRR.out.mono ?_
            rintro e w4 ⟨rfl, m4, v4, bs4, own4, hm4, hI4, hg4, hb4⟩
            clear HRR c0 c1 c2 c3 c4 c5 c6 c7 c8 HS
            have cD : w4.cell? ⟨w.heap.size + 1, 1, none⟩ = some (.pointer (some ⟨w.heap.size, 0, none⟩)) := by rw [cell_of_row w4 _ 1 _ 79 (0, 0) hI4.wo]; rfl
            have HL := (HD.out m4).looks hI4.dr
            have HI4 : Hid (Inv At (DS m4) w4 w.heap.size (w.heap.size + 1) w.heap.size v4 bs4 own4) := hI4
            have HB4 : Hid (Below w.heap.size w w4) := HB.out.trans hb4
            clear hI4 hb4 HB
            go_wp2_with fail
            refine HL.mono ?_
            rintro e w5 ⟨rfl, hb5⟩
            have HI5 : Hid (Inv At (DS m4) w5 w.heap.size (w.heap.size + 1) w.heap.size v4 bs4 own4) := HI4.out.quiet HC.out (HD.out m4) hb5
            have HB5 : Hid (Below w.heap.size w w5) := HB4.out.trans (hb5.mono HB4.out.size)
            clear HL HI4 HB4 hb5 cD
            go_wp2_with fail
            exact ⟨⟨k + 1, by omega, by go_num, ⟨m4, v4, bs4, own4, hm4, HI5.out, hg4⟩, HB5.out⟩, by simp [intOf]; omega⟩
      · have d3 : decide (3 < (os k).k) = false := by simpa using q3
        have HRR : Hid (Calls Try.prog 25 #[.pointer (some ⟨w.heap.size + 1, 0, none⟩), opV (os k)] wr fun e w' => e = .returned (.bool true) ∧ Left At DS w.heap.size (w.heap.size + 1) w.heap.size (k + 1) wr w') := HR (.inl q3)
        clear HR
        go_wp2_with fail
        refine HRR.out.mono ?_
        rintro e w4 ⟨rfl, m4, v4, bs4, own4, hm4, hI4, hg4, hb4⟩
        clear HRR c0 c1 c2 c3 c4 c5 c6 c7 c8 HS
        have cD : w4.cell? ⟨w.heap.size + 1, 1, none⟩ = some (.pointer (some ⟨w.heap.size, 0, none⟩)) := by rw [cell_of_row w4 _ 1 _ 79 (0, 0) hI4.wo]; rfl
        have HL := (HD.out m4).looks hI4.dr
        have HI4 : Hid (Inv At (DS m4) w4 w.heap.size (w.heap.size + 1) w.heap.size v4 bs4 own4) := hI4
        have HB4 : Hid (Below w.heap.size w w4) := HB.out.trans hb4
        clear hI4 hb4 HB
        go_wp2_with fail
        refine HL.mono ?_
        rintro e w5 ⟨rfl, hb5⟩
        have HI5 : Hid (Inv At (DS m4) w5 w.heap.size (w.heap.size + 1) w.heap.size v4 bs4 own4) := HI4.out.quiet HC.out (HD.out m4) hb5
        have HB5 : Hid (Below w.heap.size w w5) := HB4.out.trans (hb5.mono HB4.out.size)
        clear HL HI4 HB4 hb5 cD
        go_wp2_with fail
        exact ⟨⟨k + 1, by omega, by go_num, ⟨m4, v4, bs4, own4, hm4, HI5.out, hg4⟩, HB5.out⟩, by simp [intOf]; omega⟩
    · go_wp2_with fail
      go_ret
      exact ⟨rfl, hb⟩
end

end Go.Proofs.Ythkndfkkgncjfab

namespace Go.Proofs.Ythkndfkkgncjfab
open Go.RowKit
set_option maxRecDepth 100000

section
variable {At : World → Nat → Int → Int → Int → List Do.Chg → (Nat → Prop) → Prop}

/-- a step that asks a question which lays a list into the drawer -/
theorem step_lays (hC : Serves At 28 21 23 60 62 20 58 11) (B G D m n : Nat) (v : Value) (bs : List Bk) (own : Nat → Nat) (o : OpV) (w : World) (hm : m ≤ n) (h : Inv At (DS m) w B G D v bs own) (hB : B ≤ w.heap.size) (hg : Good bs n) (hn : n ≤ 2000000000000) (ho : o.ok)
    (h1 : o.k ≠ 1) (h2 : o.k ≠ 2) (h3 : o.k ≠ 3) (h10 : o.k ≠ 10) (h11 : o.k ≠ 11)
    (ask : ∀ (k : Nat) (b : Bk) (w1 : World), bs[k]? = some b → b.cx = b.cr → b.cr.length ≤ 2000000000000 → Inv At (DS m) w1 B G D v bs own → B ≤ w1.heap.size → Calls Try.prog 39 #[.pointer (some ⟨G, 0, none⟩), bkV b, opV o] w1 fun e w' => e = .returned (.bool true) ∧ (∃ own', Inv At (DS (m + 1)) w' B G D v bs own') ∧ Below B w1 w') :
    Calls Try.prog 25 #[.pointer (some ⟨G, 0, none⟩), opV o] w fun e w' => e = .returned (.bool true) ∧ Left At DS B G D (n + 1) w w' := by
  obtain ⟨rk, ron, ra, rb, rc, rf0, rf1, rf2, rs⟩ := ho
  have hD := drawn_some m
  have hGl := (h.mine G (by rw [h.ownG]; decide)).2
  have b1 : (o.k == 1) = false := by simpa using h1
  have b10 : (o.k == 10) = false := by simpa using h10
  have b11 : (o.k == 11) = false := by simpa using h11
  have cG : w.cell? ⟨G, 0, none⟩ = some v := by rw [cell_of_row w G 0 _ 79 (0, 0) h.wo]; rfl
  rcases Nat.eq_zero_or_pos bs.length with hz | hz
  · obtain ⟨a0, cap, hv⟩ : ∃ a0 cap, v = .slice a0 0 cap := by
      rcases h.row.2 with ⟨rfl, _⟩ | ⟨g, cap, cur, rfl, _⟩
      · exact ⟨none, 0, rfl⟩
      · exact ⟨_, cap, by rw [hz]⟩
    rw [hv] at cG
    refine (step_none o w a0 cap b1 b10 b11 cG hGl).mono ?_
    rintro e w' ⟨he, hb⟩
    exact ⟨he, m, v, bs, own, by omega, h.quiet hC hD hb, hg.mono (Nat.le_succ _), hb.mono hB⟩
  · obtain ⟨g, cap, hv, hgo⟩ : ∃ g cap, v = .slice (some ⟨g, 0, none⟩) bs.length cap ∧ own g = 1 := by
      rcases h.row.2 with ⟨_, h0⟩ | ⟨g, cap, cur, rfl, _⟩
      · omega
      · exact ⟨g, cap, rfl, h.rowOwn g rfl⟩
    rw [hv] at cG
    have hgl := (h.mine g (by rw [hgo]; decide)).2
    have hrow := h.row
    rw [hv] at hrow
    refine step_at (fun _ w' => Left At DS B G D (n + 1) w w') o w g bs.length cap b1 b10 b11 ron cG hGl hgl hz (Nat.le_trans hg.len hn) ?_
    intro k hk
    have hi : bs[k]? = some bs[k] := List.getElem?_eq_getElem hk
    generalize bs[k] = b at hi
    have hmem : b ∈ bs := List.mem_of_getElem? hi
    obtain ⟨hcx, hl⟩ := hg.each b hmem
    have c0 : w.cell? ⟨g, k * 2, none⟩ = some (.pointer (some ⟨b.x, 0, none⟩)) := by
      rw [World.ownsRow.cellAt hrow (k * 2) (by omega)]
      exact bks_get bs k 0 b hi (by omega)
    have c1 : w.cell? ⟨g, k * 2 + 1, none⟩ = some (.pointer (some ⟨b.r, 0, none⟩)) := by
      rw [World.ownsRow.cellAt hrow (k * 2 + 1) (by omega)]
      exact bks_get bs k 1 b hi (by omega)
    refine ⟨b.x, b.r, c0, c1, fun w1 hb => ?_⟩
    have hI := h.quiet hC hD hb
    have hB' : B ≤ w1.heap.size := Nat.le_trans hB hb.size
    rw [if_neg (by omega), if_neg (by omega)]
    refine (ask k b w1 hi hcx (Nat.le_trans hl hn) hI hB').mono ?_
    rintro e w' ⟨he, ⟨own', hI'⟩, hb'⟩
    exact ⟨he, m + 1, v, bs, own', by omega, hI', hg.mono (Nat.le_succ _), (hb.mono hB).trans hb'⟩

end

end Go.Proofs.Ythkndfkkgncjfab

namespace Go.Proofs.Ythkndfkkgncjfab
open Go.RowKit
set_option maxRecDepth 100000

section
variable {At : World → Nat → Int → Int → Int → List Do.Chg → (Nat → Prop) → Prop}
variable {B G D m : Nat} {v : Value} {bs : List Bk}

set_option maxHeartbeats 2000000 in
theorem asked_loc (hC : Serves At 28 21 23 60 62 20 58 11) (own : Nat → Nat) (i : Nat) (b : Bk) (o : OpV) (w : World) (hm : m ≤ 1999999999998) (h : Inv At (DS m) w B G D v bs own) (hB : B ≤ w.heap.size) (hi : bs[i]? = some b) (hcx : b.cx = b.cr) (hl : b.cr.length ≤ 2000000000000) (hk : o.k = 8) (hra : inR o.a) (hrb : inR o.b) (hrc : inR o.c) (hs : o.s.size ≤ 9223372036854775807) :
    Calls Try.prog 39 #[.pointer (some ⟨G, 0, none⟩), bkV b, opV o] w fun e w' => e = .returned (.bool true) ∧ (∃ own', Inv At (DS (m + 1)) w' B G D v bs own') ∧ Below B w w' := by
  obtain ⟨ok, oon, oa, ob, oc, os, f0, f1, f2⟩ := o
  dsimp only at *
  subst hk
  unfold bkV opV
  dsimp only
  have hD := drawn_some m
  go_enter Try.func39, Try.ntmps39
  have y0 := World.news_of_block (Below.heap_alloc _ (.cells #[.int .i64 8, .int .i64 oon, .int .i64 oa, .int .i64 ob, .int .i64 oc, .string os, .int .i64 f0, .int .i64 f1, .int .i64 f2] 82) w.heap.size (by simp) |>.trans (heap_alloc_new w (.cells #[.pointer (some ⟨b.x, 0, none⟩), .pointer (some ⟨b.r, 0, none⟩)] 94)))
  have y1 := World.news_of_block (heap_alloc_new (w.alloc (.cells #[.pointer (some ⟨b.x, 0, none⟩), .pointer (some ⟨b.r, 0, none⟩)] 94)) (.cells #[.int .i64 8, .int .i64 oon, .int .i64 oa, .int .i64 ob, .int .i64 oc, .string os, .int .i64 f0, .int .i64 f1, .int .i64 f2] 82))
  have hb0 : Below w.heap.size w ((w.alloc (.cells #[.pointer (some ⟨b.x, 0, none⟩), .pointer (some ⟨b.r, 0, none⟩)] 94)).alloc (.cells #[.int .i64 8, .int .i64 oon, .int .i64 oa, .int .i64 ob, .int .i64 oc, .string os, .int .i64 f0, .int .i64 f1, .int .i64 f2] 82)) := ((Below.refl _ _).alloc (Nat.le_refl _) _).alloc (by simp) _
  have hsz : ((w.alloc (.cells #[.pointer (some ⟨b.x, 0, none⟩), .pointer (some ⟨b.r, 0, none⟩)] 94)).alloc (.cells #[.int .i64 8, .int .i64 oon, .int .i64 oa, .int .i64 ob, .int .i64 oc, .string os, .int .i64 f0, .int .i64 f1, .int .i64 f2] 82)).heap.size = w.heap.size + 2 := by simp
  have zp := y0 1 _ rfl
  have z2 := y1 2 _ rfl
  have z3 := y1 3 _ rfl
  have z4 := y1 4 _ rfl
  have z5 := y1 5 _ rfl
  clear y0 y1
  go_wp2_with fail
  have hI1 := h.quiet hC hD hb0
  generalize (w.alloc (.cells #[.pointer (some ⟨b.x, 0, none⟩), .pointer (some ⟨b.r, 0, none⟩)] 94)).alloc (.cells #[.int .i64 8, .int .i64 oon, .int .i64 oa, .int .i64 ob, .int .i64 oc, .string os, .int .i64 f0, .int .i64 f1, .int .i64 f2] 82) = w1 at *
  refine (hC.locate os oa ob oc (by rw [hcx]; exact hl) hs hra hrb hrc (hI1.code i b hi)).mono ?_
  rintro e w2 ⟨lv, rfl, hlv, hb2⟩
  have s2 := hb2.size
  have zzp : w2.cell? ⟨w.heap.size, 1, none⟩ = some (.pointer (some ⟨b.r, 0, none⟩)) := by
    rw [hb2.cell (by show w.heap.size < w1.heap.size; omega)]; simpa [Addr.add] using zp
  have zz2 : w2.cell? ⟨w.heap.size + 1, 2, none⟩ = some (.int .i64 oa) := by
    rw [hb2.cell (by show w.heap.size + 1 < w1.heap.size; omega)]; simpa [Addr.add] using z2
  have zz3 : w2.cell? ⟨w.heap.size + 1, 3, none⟩ = some (.int .i64 ob) := by
    rw [hb2.cell (by show w.heap.size + 1 < w1.heap.size; omega)]; simpa [Addr.add] using z3
  have zz4 : w2.cell? ⟨w.heap.size + 1, 4, none⟩ = some (.int .i64 oc) := by
    rw [hb2.cell (by show w.heap.size + 1 < w1.heap.size; omega)]; simpa [Addr.add] using z4
  have zz5 : w2.cell? ⟨w.heap.size + 1, 5, none⟩ = some (.string os) := by
    rw [hb2.cell (by show w.heap.size + 1 < w1.heap.size; omega)]; simpa [Addr.add] using z5
  have hI2 := hI1.quiet hC hD hb2
  have hcf : okc b.a b.b b.p := (hI2.ref i b hi).conf
  have HR : Hid (Calls Try.prog 64 #[.pointer (some ⟨b.r, 0, none⟩), .string os, .int .i64 oa, .int .i64 ob, .int .i64 oc] w2 fun e w' => ∃ v, e = .returned (.tuple #[v, .bool (locRes b.cr b.p os oa ob oc).2.1, .int .i64 (locRes b.cr b.p os oa ob oc).2.2]) ∧ OwnO w' w2.heap.size v (locRes b.cr b.p os oa ob oc).1 ∧ Below w2.heap.size w2 w') := ref_serves.locate os oa ob oc hl hs hra hrb hrc (hI2.ref i b hi)
  have hlen : (locRes b.cr b.p os oa ob oc).1.length ≤ 8 := by
    unfold locRes
    split
    · simp
    · split
      · simp
      · have h1 := Do.pageTo_len (Do.hits (Do.there b.cr) os.data.toList) ob oc b.p.toNat (Do.hits (Do.there b.cr) os.data.toList).length
        unfold okc at hcf
        show (Do.pageTo _ _ _ _ _).1.length ≤ 8
        omega
  clear hI1 zp z2 z3 z4 z5
  rw [hcx]
  rw [hcx] at hlv
  generalize (locRes b.cr b.p os oa ob oc).1 = q1 at *
  generalize (locRes b.cr b.p os oa ob oc).2.1 = q2 at *
  generalize (locRes b.cr b.p os oa ob oc).2.2 = q3 at *
  have hbq : (q2 == q2) = true := by simp
  go_wp2_with fail
  refine HR.out.mono ?_
  rintro e w3 ⟨mv, rfl, hmv, hb3⟩
  have s3 := hb3.size
  have hlv3 := hlv.below hb3
  have hI3 := hI2.quiet hC hD hb3
  clear HR zzp zz2 zz3 zz4 zz5 hlv hI2
  go_wp2_with fail
  refine (sameH_any _ _ lv mv q1 w3 (by omega) hlv3 hmv).mono ?_
  rintro e w4 ⟨rfl, hb4⟩
  have s4 := hb4.size
  have hlv4 := hlv3.below hb4
  have hI4 := hI3.quiet hC hD hb4
  clear hlv3 hmv hI3
  have cD : w4.cell? ⟨G, 1, none⟩ = some (.pointer (some ⟨D, 0, none⟩)) := by rw [cell_of_row w4 _ 1 _ 79 (0, 0) hI4.wo]; rfl
  have h0 : ∀ k, w.heap.size ≤ k → own k = 0 := fun k hk => by
    cases hc : own k with
    | zero => rfl
    | succ n => have := (h.mine k (by rw [hc]; omega)).2; omega
  have hlb : ∀ g, lv.ownBlock = some g → w.heap.size ≤ g := fun g hg => by have := (World.ownsRow.lt hlv4 g hg).1; omega
  obtain ⟨hmm, vi, vh, vn, vm, Li, Lh, hda⟩ := hI4.dr
  have HK : Hid (Calls Try.prog 66 #[.pointer (some ⟨D, 0, none⟩), lv] w4 fun e w' => e = .returned (.tuple #[]) ∧ Only (fun k => own k = 2 ∨ lv.ownBlock = some k) w4 w' ∧ ∃ G, DS (m + 1) w' D G ∧ ∀ k, G k → own k = 2 ∨ lv.ownBlock = some k ∨ w4.heap.size ≤ k) :=
    keepH_any m D _ vi vh vn vm Li Lh lv q1.length (OC q1) w4 hm (by omega) hda (OwnO.weaken hlv4 (Nat.zero_le _)) (fun g hg => by rw [h0 g (hlb g hg)]; decide)
  clear hda hlv4
  go_wp2_with fail
  refine HK.out.mono ?_
  rintro e w5 ⟨rfl, ho5, hn5⟩
  obtain ⟨own', hI5⟩ := hI4.drawStep hC (drawn_some (m + 1)) (fun k => lv.ownBlock = some k) (fun k hk => ⟨h0 k (hlb k hk), by have := hlb k hk; omega⟩) ho5 hn5 (by omega)
  have hbl : Below B w w5 := by
    refine ((hb0.trans (hb2.mono (by omega))).trans ((hb3.mono (by omega)).trans (hb4.mono (by omega)))).mono hB |>.trans ⟨ho5.os, ho5.tape, ho5.output, ho5.size, fun k hk => ho5.block k (by omega) (fun hf => ?_)⟩
    rcases hf with hf | hf
    · have := (h.mine k (by rw [hf]; decide)).1; omega
    · have := hlb k hf; omega
  clear HK hI4 cD ho5 hn5
  go_wp2_with fail
  refine (num_any _ _).mono ?_
  rintro e w6 ⟨rfl, hw6⟩; rw [hw6]; clear hw6
  go_wp2_with fail
  go_ret
  exact ⟨rfl, ⟨own', hI5⟩, hbl⟩

end

end Go.Proofs.Ythkndfkkgncjfab
