/- BASE2. The law's drawer turned; List asked. -/
import Derived.Test.YtpikkedeoebiaaaLawH
import Derived.Test.YtpikkedeoebiaaaLawM
namespace Go.Proofs.Ytpikkedeoebiaaa
open Go.RowKit
set_option maxRecDepth 100000

theorem OwnV.cells {w : World} {B : Nat} {v : Value} {l : List Nat} (h : OwnV w B v l) : ∃ ao cap, v = .slice ao l.length cap ∧ ∀ k, k < l.length → ∃ g, ao = some ⟨g, 0, none⟩ ∧ w.cell? ⟨g, k, none⟩ = some (.int .i64 (l.getD k 0 : Nat)) := by
  rcases h.2 with ⟨rfl, h0⟩ | ⟨g, cap, cur, rfl, _⟩
  · exact ⟨none, 0, by rw [h0], fun k hk => by omega⟩
  · exact ⟨_, cap, rfl, fun k hk => ⟨g, rfl, by rw [World.ownsRow.cellAt h k (by omega)]; exact I_get l k hk⟩⟩

theorem OwnV.weaken' {w : World} {B : Nat} {v : Value} {l : List Nat} (h : OwnV w B v l) : w.ownsRow 0 3 1 v l.length (I l) := by
  refine ⟨h.1, ?_⟩
  rcases h.2 with hn | ⟨g1, cap, cur, e, hB, rest⟩
  · exact .inl hn
  · exact .inr ⟨g1, cap, cur, e, Nat.zero_le _, rest⟩

set_option maxHeartbeats 400000 in
theorem sameI_any (B C : Nat) (v u : Value) (l : List Nat) (w : World) (hl : l.length ≤ 1000000) (ho : OwnV w B v l) (hr : OwnV w C u l) :
    Calls Try.prog 38 #[v, u] w fun e w' => e = .returned (.bool true) ∧ Below w.heap.size w w' := by
  obtain ⟨av, cv, rfl, hv⟩ := ho.cells
  obtain ⟨au, cu, rfl, hu⟩ := hr.cells
  have HV : Hid (∀ k, k < l.length → ∃ g, av = some ⟨g, 0, none⟩ ∧ w.cell? ⟨g, k, none⟩ = some (.int .i64 (l.getD k 0 : Nat))) := hv
  have HU : Hid (∀ k, k < l.length → ∃ g, au = some ⟨g, 0, none⟩ ∧ w.cell? ⟨g, k, none⟩ = some (.int .i64 (l.getD k 0 : Nat))) := hu
  have hne : ((l.length : Int) != (l.length : Int)) = false := by simp
  clear ho hr hv hu
  go_enter Try.func38, Try.ntmps38
  go_wp2
  go_loopw [5] (fun i wr => ∃ k : Nat, k ≤ l.length ∧ i = .int .i64 k ∧ ∃ m, wr = w.drewN m) (fun i _ => l.length - (intOf i).toNat)
  case atStart => exact ⟨0, Nat.zero_le _, rfl, 0, rfl⟩
  case round =>
    obtain ⟨k, hk, rfl, m, rfl⟩ := hrel
    by_cases hlt : k < l.length
    · obtain ⟨gv, rfl, c1⟩ := HV.out k hlt
      obtain ⟨gu, rfl, c2⟩ := HU.out k hlt
      obtain ⟨x, hx⟩ : ∃ x, l.getD k 0 = x := ⟨_, rfl⟩
      rw [hx] at c1 c2
      clear hx HV HU
      have hn : ((x : Int) != (x : Int)) = false := by simp
      go_wp2
      go_quiet (fail)
      go_wp2
      go_roundw
      case rel => exact ⟨k + 1, by omega, by go_num, _, rfl⟩
      case measure => simp [intOf]; omega
    · go_wp2
      go_ret
      exact ⟨rfl, below_drewN (Below.refl _ _) _⟩

theorem OwnO.cells {w : World} {B : Nat} {v : Value} {l : List Do.Oc} (h : OwnO w B v l) : ∃ ao cap, v = .slice ao l.length cap ∧ ∀ k o, l[k]? = some o → ∃ g, ao = some ⟨g, 0, none⟩ ∧ w.cell? ⟨g, k * 2, none⟩ = some (.int .i64 (o.id : Int)) ∧ w.cell? ⟨g, k * 2 + 1, none⟩ = some (.int .i64 (o.at' : Int)) := by
  rcases h.shape with ⟨rfl, rfl⟩ | ⟨g, cap, rfl, _, _⟩
  · exact ⟨none, 0, rfl, fun k o hk => by simp at hk⟩
  · exact ⟨_, cap, rfl, fun k o hk => ⟨g, rfl, h.cell rfl k o hk⟩⟩

set_option maxHeartbeats 400000 in
theorem sameH_any (B C : Nat) (v u : Value) (l : List Do.Oc) (w : World) (hl : l.length ≤ 1000000) (ho : OwnO w B v l) (hr : OwnO w C u l) :
    Calls Try.prog 85 #[v, u] w fun e w' => e = .returned (.bool true) ∧ Below w.heap.size w w' := by
  obtain ⟨av, cv, rfl, hv⟩ := ho.cells
  obtain ⟨au, cu, rfl, hu⟩ := hr.cells
  have HV : Hid (∀ k o, l[k]? = some o → ∃ g, av = some ⟨g, 0, none⟩ ∧ w.cell? ⟨g, k * 2, none⟩ = some (.int .i64 (o.id : Int)) ∧ w.cell? ⟨g, k * 2 + 1, none⟩ = some (.int .i64 (o.at' : Int))) := hv
  have HU : Hid (∀ k o, l[k]? = some o → ∃ g, au = some ⟨g, 0, none⟩ ∧ w.cell? ⟨g, k * 2, none⟩ = some (.int .i64 (o.id : Int)) ∧ w.cell? ⟨g, k * 2 + 1, none⟩ = some (.int .i64 (o.at' : Int))) := hu
  have hne : ((l.length : Int) != (l.length : Int)) = false := by simp
  clear ho hr hv hu
  go_enter Try.func85, Try.ntmps85
  go_wp2
  go_loopw [5] (fun i wr => ∃ k : Nat, k ≤ l.length ∧ i = .int .i64 k ∧ ∃ m, wr = w.drewN m) (fun i _ => l.length - (intOf i).toNat)
  case atStart => exact ⟨0, Nat.zero_le _, rfl, 0, rfl⟩
  case round =>
    obtain ⟨k, hk, rfl, m, rfl⟩ := hrel
    by_cases hlt : k < l.length
    · obtain ⟨o, hok⟩ : ∃ o, l[k]? = some o := ⟨l[k], List.getElem?_eq_getElem hlt⟩
      obtain ⟨gv, rfl, c1, c2⟩ := HV.out k o hok
      obtain ⟨gu, rfl, c3, c4⟩ := HU.out k o hok
      clear HV HU hok
      have hn : ((o.id : Int) != (o.id : Int)) = false := by simp
      have hn2 : ((o.at' : Int) != (o.at' : Int)) = false := by simp
      go_wp2
      go_quiet (fail)
      go_wp2
      go_roundw
      case rel => exact ⟨k + 1, by omega, by go_num, _, rfl⟩
      case measure => simp [intOf]; omega
    · go_wp2
      go_ret
      exact ⟨rfl, below_drewN (Below.refl _ _) _⟩

section
variable {At : World → Nat → Int → Int → Int → List Do.Chg → (Nat → Prop) → Prop} {DP DQ : World → Nat → (Nat → Prop) → Prop}
variable {w w' : World} {B G D : Nat} {v : Value} {bs : List Bk} {own : Nat → Nat}

/-- the drawer has turned, and nothing else that is labelled -/
theorem Inv.drawStep (hC : Serves At 67 73 74 28 34 36 56 35) (hD : Drawn DQ) (h : Inv At DP w B G D v bs own) (X : Nat → Prop) (hX : ∀ k, X k → own k = 0 ∧ B ≤ k) (ho : Only (fun k => own k = 2 ∨ X k) w w')
    (hn : ∃ N, DQ w' D N ∧ ∀ k, N k → own k = 2 ∨ X k ∨ w.heap.size ≤ k) (hB : B ≤ w.heap.size) : ∃ own', Inv At DQ w' B G D v bs own' := by
  obtain ⟨N, hN, hNk⟩ := hn
  have dec : DecidablePred N := fun _ => Classical.propDecidable _
  have hs : ∀ k, own k ≠ 0 → own k ≠ 2 → w'.heap[k]? = w.heap[k]? := fun k hk hne => ho.block k (h.mine k hk).2 (fun hf => by
    rcases hf with hf | hf
    · exact hne hf
    · exact hk (hX k hf).1)
  have up : ∀ t, t ≠ 0 → ∀ k, own k = t → (if own k = 0 then (if N k then 2 else 0) else own k) = t := fun t ht k hk => by rw [if_neg (by rw [hk]; exact ht)]; exact hk
  have dn : ∀ t, t ≠ 0 → t ≠ 2 → ∀ k, (if own k = 0 then (if N k then 2 else 0) else own k) = t → own k = t := fun t h0 h2 k hk => by
    by_cases e : own k = 0
    · rw [if_pos e] at hk
      by_cases e2 : N k
      · rw [if_pos e2] at hk; exact absurd hk.symm h2
      · rw [if_neg e2] at hk; exact absurd hk.symm h0
    · rw [if_neg e] at hk; exact hk
  have hlt : ∀ k, (if own k = 0 then (if N k then 2 else 0) else own k) ≠ 0 → B ≤ k ∧ k < w'.heap.size := fun k hk => by
    by_cases e : own k = 0
    · rw [if_pos e] at hk
      by_cases e2 : N k
      · refine ⟨?_, hD.lt hN k e2⟩
        rcases hNk k e2 with q | q | q
        · rw [e] at q; cases q
        · exact (hX k q).2
        · omega
      · rw [if_neg e2] at hk; exact absurd rfl hk
    · exact ⟨(h.mine k e).1, Nat.lt_of_lt_of_le (h.mine k e).2 ho.size⟩
  refine ⟨fun k => if own k = 0 then (if N k then 2 else 0) else own k, ⟨?_, ?_, ?_, ?_, ?_, ?_, ?_, ?_⟩⟩
  · exact (hs G (by rw [h.ownG]; decide) (by rw [h.ownG]; decide)).trans h.wo
  · exact row_same h.row (fun g hg => hs g (by rw [h.rowOwn g hg]; decide) (by rw [h.rowOwn g hg]; decide))
  · intro g hg; exact up 1 (by decide) g (h.rowOwn g hg)
  · exact up 1 (by decide) G h.ownG
  · refine hD.wide hN (fun k hk => ?_) (fun k hk => (hlt k (by rw [hk]; decide)).2)
    by_cases e : own k = 0
    · rw [if_pos e, if_pos hk]
    · rw [if_neg e]
      rcases hNk k hk with q | q | q
      · exact q
      · exact absurd (hX k q).1 e
      · have := (h.mine k e).2; omega
  · intro i b hi
    exact hC.wide (hC.frame (h.code i b hi) ho.size (fun k hk => hs k (by rw [hk]; omega) (by rw [hk]; omega))) (up _ (by omega)) (fun k hk => (hlt k (by rw [hk]; omega)).2)
  · intro i b hi
    exact ref_serves.wide (ref_serves.frame (h.ref i b hi) ho.size (fun k hk => hs k (by rw [hk]; omega) (by rw [hk]; omega))) (up _ (by omega)) (fun k hk => (hlt k (by rw [hk]; omega)).2)
  · exact hlt
end

section
variable {At : World → Nat → Int → Int → Int → List Do.Chg → (Nat → Prop) → Prop}
variable {B G D m : Nat} {v : Value} {bs : List Bk}

set_option maxHeartbeats 2000000 in
theorem asked_lst (hC : Serves At 67 73 74 28 34 36 56 35) (own : Nat → Nat) (i : Nat) (b : Bk) (o : OpV) (w : World) (hm : m ≤ 1999999999998) (h : Inv At (DS m) w B G D v bs own) (hB : B ≤ w.heap.size) (hi : bs[i]? = some b) (hcx : b.cx = b.cr) (hl : b.cr.length ≤ 2000000000000) (hk : o.k = 5) (hra : inR o.a) (hrb : inR o.b) :
    Calls Try.prog 72 #[.pointer (some ⟨G, 0, none⟩), bkV b, opV o] w fun e w' => e = .returned (.bool true) ∧ (∃ own', Inv At (DS (m + 1)) w' B G D v bs own') ∧ Below B w w' := by
  obtain ⟨ok, oon, oa, ob, oc, os, f0, f1, f2⟩ := o
  dsimp only at *
  subst hk
  unfold bkV opV
  dsimp only
  have hD := drawn_some m
  go_enter Try.func72, Try.ntmps72
  have y0 := World.news_of_block (Below.heap_alloc _ (.cells #[.int .i64 5, .int .i64 oon, .int .i64 oa, .int .i64 ob, .int .i64 oc, .string os, .int .i64 f0, .int .i64 f1, .int .i64 f2] 98) w.heap.size (by simp) |>.trans (heap_alloc_new w (.cells #[.pointer (some ⟨b.x, 0, none⟩), .pointer (some ⟨b.r, 0, none⟩)] 121)))
  have y1 := World.news_of_block (heap_alloc_new (w.alloc (.cells #[.pointer (some ⟨b.x, 0, none⟩), .pointer (some ⟨b.r, 0, none⟩)] 121)) (.cells #[.int .i64 5, .int .i64 oon, .int .i64 oa, .int .i64 ob, .int .i64 oc, .string os, .int .i64 f0, .int .i64 f1, .int .i64 f2] 98))
  have hb0 : Below w.heap.size w ((w.alloc (.cells #[.pointer (some ⟨b.x, 0, none⟩), .pointer (some ⟨b.r, 0, none⟩)] 121)).alloc (.cells #[.int .i64 5, .int .i64 oon, .int .i64 oa, .int .i64 ob, .int .i64 oc, .string os, .int .i64 f0, .int .i64 f1, .int .i64 f2] 98)) := ((Below.refl _ _).alloc (Nat.le_refl _) _).alloc (by simp) _
  have hsz : ((w.alloc (.cells #[.pointer (some ⟨b.x, 0, none⟩), .pointer (some ⟨b.r, 0, none⟩)] 121)).alloc (.cells #[.int .i64 5, .int .i64 oon, .int .i64 oa, .int .i64 ob, .int .i64 oc, .string os, .int .i64 f0, .int .i64 f1, .int .i64 f2] 98)).heap.size = w.heap.size + 2 := by simp
  have zp := y0 1 _ rfl
  have z2 := y1 2 _ rfl
  have z3 := y1 3 _ rfl
  clear y0 y1
  go_wp2_with fail
  have hI1 := h.quiet hC hD hb0
  generalize (w.alloc (.cells #[.pointer (some ⟨b.x, 0, none⟩), .pointer (some ⟨b.r, 0, none⟩)] 121)).alloc (.cells #[.int .i64 5, .int .i64 oon, .int .i64 oa, .int .i64 ob, .int .i64 oc, .string os, .int .i64 f0, .int .i64 f1, .int .i64 f2] 98) = w1 at *
  refine (hC.list oa ob (by rw [hcx]; exact hl) hra hrb (hI1.code i b hi)).mono ?_
  rintro e w2 ⟨lv, rfl, hlv, hb2⟩
  have s2 := hb2.size
  have zzp : w2.cell? ⟨w.heap.size, 1, none⟩ = some (.pointer (some ⟨b.r, 0, none⟩)) := by
    rw [hb2.cell (by show w.heap.size < w1.heap.size; omega)]; simpa [Addr.add] using zp
  have zz2 : w2.cell? ⟨w.heap.size + 1, 2, none⟩ = some (.int .i64 oa) := by
    rw [hb2.cell (by show w.heap.size + 1 < w1.heap.size; omega)]; simpa [Addr.add] using z2
  have zz3 : w2.cell? ⟨w.heap.size + 1, 3, none⟩ = some (.int .i64 ob) := by
    rw [hb2.cell (by show w.heap.size + 1 < w1.heap.size; omega)]; simpa [Addr.add] using z3
  have hI2 := hI1.quiet hC hD hb2
  have HR : Hid (Calls Try.prog 81 #[.pointer (some ⟨b.r, 0, none⟩), .int .i64 oa, .int .i64 ob] w2 fun e w' => ∃ v, e = .returned (.tuple #[v, .int .i64 (lstRes b.cr oa ob).2]) ∧ OwnV w' w2.heap.size v (lstRes b.cr oa ob).1 ∧ Below w2.heap.size w2 w') := ref_serves.list oa ob hl hra hrb (hI2.ref i b hi)
  have hlen : (lstRes b.cr oa ob).1.length ≤ 8 := by
    unfold lstRes
    split
    · simp
    · rename_i hnn
      have := Do.idsTo_len (Do.there b.cr) oa ob.toNat (Do.there b.cr).length
      show (Do.idsTo _ _ _ _).length ≤ 8
      omega
  clear hI1 zp z2 z3
  rw [hcx]
  rw [hcx] at hlv
  generalize (lstRes b.cr oa ob).1 = q1 at *
  generalize (lstRes b.cr oa ob).2 = q2 at *
  go_wp2_with fail
  refine HR.out.mono ?_
  rintro e w3 ⟨mv, rfl, hmv, hb3⟩
  have s3 := hb3.size
  have hlv3 := hlv.below hb3
  have hI3 := hI2.quiet hC hD hb3
  clear HR zzp zz2 zz3 hlv hI2
  go_wp2_with fail
  refine (sameI_any _ _ lv mv q1 w3 (by omega) hlv3 hmv).mono ?_
  rintro e w4 ⟨rfl, hb4⟩
  have s4 := hb4.size
  have hlv4 := hlv3.below hb4
  have hI4 := hI3.quiet hC hD hb4
  clear hlv3 hmv hI3
  have cD : w4.cell? ⟨G, 1, none⟩ = some (.pointer (some ⟨D, 0, none⟩)) := by rw [cell_of_row w4 _ 1 _ 31 (0, 0) hI4.wo]; rfl
  have h0 : ∀ k, w.heap.size ≤ k → own k = 0 := fun k hk => by
    cases hc : own k with
    | zero => rfl
    | succ n => have := (h.mine k (by rw [hc]; omega)).2; omega
  have hlb : ∀ g, lv.ownBlock = some g → w.heap.size ≤ g := fun g hg => by have := (World.ownsRow.lt hlv4 g hg).1; omega
  obtain ⟨hmm, vi, vh, vn, vm, Li, Lh, hda⟩ := hI4.dr
  have HK : Hid (Calls Try.prog 39 #[.pointer (some ⟨D, 0, none⟩), lv] w4 fun e w' => e = .returned (.tuple #[]) ∧ Only (fun k => own k = 2 ∨ lv.ownBlock = some k) w4 w' ∧ ∃ G, DS (m + 1) w' D G ∧ ∀ k, G k → own k = 2 ∨ lv.ownBlock = some k ∨ w4.heap.size ≤ k) :=
    keepI_any m D _ vi vh vn vm Li Lh lv q1.length (I q1) w4 hm (by omega) hda (OwnV.weaken' hlv4) (fun g hg => by rw [h0 g (hlb g hg)]; decide)
  clear hda hlv4
  go_wp2_with fail
  refine HK.out.mono ?_
  rintro e w5 ⟨rfl, ho5, hn5⟩
  obtain ⟨own', hI5⟩ := hI4.drawStep hC (drawn_some (m + 1)) (fun k => lv.ownBlock = some k) (fun k hk => ⟨h0 k (hlb k hk), by have := hlb k hk; omega⟩) ho5 hn5 (by omega)
  have hbl : Below B w w5 := by
    refine ((hb0.trans (hb2.mono (by omega))).trans ((hb3.mono (by omega)).trans (hb4.mono (by omega)))).mono hB |>.trans ⟨ho5.os, ho5.tape, ho5.output, ho5.size, fun k hk => ho5.block k (by omega) (fun hf => ?_)⟩
    rcases hf with hf | hf
    · have := (h.mine k (by rw [hf]; decide)).1; omega
    · have := hlb k hf; omega
  clear HK hI4 cD ho5 hn5
  go_wp2_with fail
  refine (num_any _ _).mono ?_
  rintro e w6 ⟨rfl, hw6⟩; rw [hw6]; clear hw6
  go_wp2_with fail
  go_ret
  exact ⟨rfl, ⟨own', hI5⟩, hbl⟩
end

end Go.Proofs.Ytpikkedeoebiaaa
