/- BASE2. keepHits: its walk. -/
import Derived.Test.YtpikkedeoebiaaaLawP
namespace Go.Proofs.Ytpikkedeoebiaaa
open Go.RowKit
set_option maxRecDepth 100000

theorem Try.info66' : (Try.prog.info? 66).map (fun i => (i.zero, i.size, i.bytes)) = some (some (.slice none 0 0), 1, 24) := by kernel_rfl

theorem OverH.drew {w : World} {v : Value} {len k : Nat} {x : Int} (h : OverH w v len k x) : OverH w.drew v len k x := by
  obtain ⟨xs, h1, h2⟩ := h
  exact ⟨xs, row_same h1 (fun _ _ => rfl), h2⟩

theorem DAt.c2 {m : Nat} {n : Int} {w : World} {D : Nat} {F : Nat → Prop} {vi vh vn vm : Value} {Li Lh : List (Value × Int)} (h : DAt m n w D F vi vh vn vm Li Lh) : w.cell? ⟨D, 2, none⟩ = some vh := by rw [cell_of_row w D 2 _ 28 (0, 0) h.blk]; rfl
theorem Try.underlying25 : Try.prog.underlying 25 = some (.slice 66) := by kernel_rfl
theorem s4_same {D : Nat} {x : Int} {W W' : World} (h : W.cell? ⟨D, 0, none⟩ = some (.int .i64 x) ∧ W.frozen? ⟨D, 4, none⟩ = false) (hb : W'.heap[D]? = W.heap[D]?) : W'.cell? ⟨D, 0, none⟩ = some (.int .i64 x) ∧ W'.frozen? ⟨D, 4, none⟩ = false :=
  ⟨(World.cell?_of_block (a := ⟨D, 0, none⟩) hb).trans h.1, (World.frozen?_of_block (a := ⟨D, 4, none⟩) hb).trans h.2⟩
theorem s4_alloc {D : Nat} {x : Int} {W : World} (h : W.cell? ⟨D, 0, none⟩ = some (.int .i64 x) ∧ W.frozen? ⟨D, 4, none⟩ = false) (o : Obj) : (W.alloc o).cell? ⟨D, 0, none⟩ = some (.int .i64 x) ∧ (W.alloc o).frozen? ⟨D, 4, none⟩ = false :=
  s4_same h (Below.heap_alloc W o D (World.block_lt_of_cell? W ⟨D, 0, none⟩ h.1))
theorem s4_set {D : Nat} {x : Int} {W : World} (h : W.cell? ⟨D, 0, none⟩ = some (.int .i64 x) ∧ W.frozen? ⟨D, 4, none⟩ = false) (u : Value) : (W.setCell ⟨D, 4, none⟩ u).cell? ⟨D, 0, none⟩ = some (.int .i64 x) ∧ (W.setCell ⟨D, 4, none⟩ u).frozen? ⟨D, 4, none⟩ = false :=
  ⟨by rw [World.cell?_setCell_other _ _ _ _ (by simp)]; exact h.1, by rw [World.frozen?_setCell]; exact h.2⟩
theorem cell_keep {w : World} (o : Obj) {a : Addr} {v : Value} (h : w.cell? a = some v) : (w.alloc o).cell? a = some v :=
  (World.cell?_of_block (Below.heap_alloc w o a.block (World.block_lt_of_cell? w a h))).trans h

set_option maxHeartbeats 4000000 in
theorem keepH_any (m : Nat) (D : Nat) (F : Nat → Prop) (vi vh vn vm : Value) (Li Lh : List (Value × Int)) (v : Value) (len : Nat) (xs : List Value) (w : World) (hm : m ≤ 1999999999998) (hl : len ≤ 1000) (h : DAt m (m : Int) w D F vi vh vn vm Li Lh) (ho : w.ownsRow 0 77 2 v len xs) (hv : ∀ g, v.ownBlock = some g → ¬ F g) :
    Calls Try.prog 86 #[.pointer (some ⟨D, 0, none⟩), v] w fun e w' => e = .returned (.tuple #[]) ∧ Only (fun k => F k ∨ v.ownBlock = some k) w w' ∧ ∃ G, DS (m + 1) w' D G ∧ ∀ k, G k → F k ∨ v.ownBlock = some k ∨ w.heap.size ≤ k := by
  obtain ⟨i0, hi, hz0, hz1, hz2⟩ := info_parts Try.info3
  obtain ⟨i1, hj, hy0, hy1, hy2⟩ := info_parts Try.info66'
  obtain ⟨i2, hk2, hx0, hx1, hx2⟩ := info_parts Try.info77
  obtain ⟨av, cap, rfl⟩ : ∃ av cap, v = .slice av len cap := by
    rcases ho.2 with ⟨h1, h2⟩ | ⟨g, cap, cur, h1, _⟩
    · exact ⟨none, 0, by rw [h1, h2]⟩
    · exact ⟨_, cap, h1⟩
  obtain ⟨ah, ch, rfl⟩ := row_slice h.rh
  have HF : Hid (∀ k, F k → k < w.heap.size) := h.lt
  have HVL : Hid (∀ g, (Value.slice av len cap).ownBlock = some g → g < w.heap.size) := fun g e => (World.ownsRow.lt ho g e).2
  have c0 := h.c0
  have f0 := h.free 0
  have hwr : wrap64 ((m : Int) + 1) = (m : Int) + 1 := by unfold wrap64; omega
  go_enter Try.func86, Try.ntmps86
  go_wp2
  have h1 := h.count ((m : Int) + 1)
  have ho1 : (w.setCell ⟨D, 0, none⟩ (.int .i64 ((m : Int) + 1))).ownsRow 0 77 2 (.slice av len cap) len xs := ownsRow_setCell_other ho (fun e => hv _ e h.mine) _
  have hO1 : Only (fun k => F k ∨ (Value.slice av len cap).ownBlock = some k) w (w.setCell ⟨D, 0, none⟩ (.int .i64 ((m : Int) + 1))) := Only.setCell ⟨D, 0, none⟩ _ (.inl h.mine)
  clear c0 f0
  go_loopw [4] (fun i wr => ∃ k : Nat, k ≤ len ∧ i = .int .i64 k ∧ OverH wr (.slice av len cap) len k ((m : Int) + 1) ∧ DAt m ((m : Int) + 1) wr D F vi (.slice ah Lh.length ch) vn vm Li Lh ∧ Only (fun k => F k ∨ (Value.slice av len cap).ownBlock = some k) w wr) (fun i _ => len - (intOf i).toNat)
  case atStart => exact ⟨0, Nat.zero_le _, rfl, ⟨xs, ho1, fun j hj => by omega⟩, h1, hO1⟩
  case round =>
    obtain ⟨k, hk, rfl, hov, hd2, hO2⟩ := hrel
    clear h1 ho1 hO1 ho h
    have c0 := hd2.c0
    by_cases hlt : k < len
    · obtain ⟨g, rfl⟩ : ∃ g, av = some ⟨g, 0, none⟩ := by
        obtain ⟨xs1, q1, _⟩ := hov
        rcases q1.2 with ⟨_, h0⟩ | ⟨g, cap', cur, h1, _⟩
        · omega
        · cases h1; exact ⟨g, rfl⟩
      have hcell : ∃ u u', wr.cell? ⟨g, k * 2, none⟩ = some u ∧ wr.cell? ⟨g, k * 2 + 1, none⟩ = some u' ∧ ∀ j, wr.frozen? ⟨g, j, none⟩ = false := by
        obtain ⟨xs1, q1, _⟩ := hov
        have hq := q1.1
        refine ⟨xs1[k * 2]'(by omega), xs1[k * 2 + 1]'(by omega), ?_, ?_, fun j => ?_⟩
        · rw [World.ownsRow.cellAt q1 (k * 2) (by omega)]; exact List.getElem?_eq_getElem (by omega)
        · rw [World.ownsRow.cellAt q1 (k * 2 + 1) (by omega)]; exact List.getElem?_eq_getElem (by omega)
        · rcases q1.2 with ⟨_, h0⟩ | ⟨g', cap', cur, h1, _, hgg, _⟩
          · omega
          · cases h1; exact frozen_of_row wr g j _ 77 hgg
      obtain ⟨u, u', c2, c2', f2a⟩ := hcell
      have f2 := f2a (k * 2)
      have f2' := f2a (k * 2 + 1)
      have hgD : g ≠ D := fun e => hv g rfl (by rw [e]; exact hd2.mine)
      have hkl : (k : Int) < (len : Int) := by omega
      generalize hxm : (m : Int) + 1 = x at *
      have HREL : Hid (OverH ((wr.setCell ⟨g, k * 2, none⟩ (.int .i64 x)).setCell ⟨g, k * 2 + 1, none⟩ (.int .i64 x)) (.slice (some ⟨g, 0, none⟩) len cap) len (k + 1) x ∧ DAt m x ((wr.setCell ⟨g, k * 2, none⟩ (.int .i64 x)).setCell ⟨g, k * 2 + 1, none⟩ (.int .i64 x)) D F vi (.slice ah Lh.length ch) vn vm Li Lh ∧ Only (fun q => F q ∨ (Value.slice (some ⟨g, 0, none⟩) len cap).ownBlock = some q) w ((wr.setCell ⟨g, k * 2, none⟩ (.int .i64 x)).setCell ⟨g, k * 2 + 1, none⟩ (.int .i64 x))) :=
        ⟨hov.put hlt, hd2.frame (by simp) (fun q hq => by
          have hne : q ≠ g := fun e => hv g rfl (by rw [← e]; exact hq)
          rw [Below.heap_setCell _ ⟨g, k * 2 + 1, none⟩ _ q hne, Below.heap_setCell _ ⟨g, k * 2, none⟩ _ q hne]), (hO2.trans (Only.setCell ⟨g, k * 2, none⟩ _ (.inr rfl))).trans (Only.setCell ⟨g, k * 2 + 1, none⟩ _ (.inr rfl))⟩
      have hcD : ((wr.setCell ⟨g, k * 2, none⟩ (.int .i64 x)).setCell ⟨g, k * 2 + 1, none⟩ (.int .i64 x)).drew.cell? ⟨D, 0, none⟩ = some (.int .i64 x) := HREL.out.2.1.c0
      go_wp2_with fail
      refine wp_region_held_drew (S := fun w' => w'.cell? ⟨D, 0, none⟩ = some (.int .i64 x)) (by kernel_rfl) c0 (fun hHeld => ?_)
      refine wpAnyH_take (i := 0) (v := ?t501_0) rfl (by kernel_rfl) (by kernel_rfl) (by kernel_rfl) (fun _ _ _ h => h) (Or.inl ⟨by rfl, ?hyt501_0⟩) (by assumption) ?restt501_0
      case hyt501_0 => intro w hSw; (try dsimp only at hSw); go_simp; (try with_reducible rfl)
      simp only [Act.put]
      refine wpAnyH_take (i := 1) (v := ?t501_1) rfl (by kernel_rfl) (by kernel_rfl) (by kernel_rfl) (fun _ _ _ h => h) (Or.inl ⟨by rfl, ?hyt501_1⟩) (by assumption) ?restt501_1
      case hyt501_1 => intro w hSw; (try dsimp only at hSw); go_simp; (try with_reducible rfl)
      simp only [Act.put]
      refine wpAnyH_take (i := 2) (v := ?t501_2) rfl (by kernel_rfl) (by kernel_rfl) (by kernel_rfl) (fun _ _ _ h => h) (Or.inl ⟨by rfl, ?hyt501_2⟩) (by assumption) ?restt501_2
      case hyt501_2 => intro w hSw; (try dsimp only at hSw); go_simp; (try with_reducible rfl)
      simp only [Act.put]
      refine wpAnyH_take (i := 3) (v := ?t501_3) rfl (by kernel_rfl) (by kernel_rfl) (by kernel_rfl) (fun _ _ _ h => h) (Or.inl ⟨by rfl, ?hyt501_3⟩) (by assumption) ?restt501_3
      case hyt501_3 => intro w hSw; (try dsimp only at hSw); go_simp; (try with_reducible rfl)
      simp only [Act.put]
      refine wpAnyH_take (i := 4) (v := ?t501_4) rfl (by kernel_rfl) (by kernel_rfl) (by kernel_rfl) (fun _ _ _ h => h) (Or.inl ⟨by rfl, ?hyt501_4⟩) (by assumption) ?restt501_4
      case hyt501_4 => intro w hSw; (try dsimp only at hSw); go_simp; (try with_reducible rfl)
      simp only [Act.put]
      refine wpAnyH_take (i := 5) (v := ?t501_5) rfl (by kernel_rfl) (by kernel_rfl) (by kernel_rfl) (fun _ _ _ h => h) (Or.inl ⟨by rfl, ?hyt501_5⟩) (by assumption) ?restt501_5
      case hyt501_5 => intro w hSw; (try dsimp only at hSw); go_simp; (try with_reducible rfl)
      simp only [Act.put]
      refine wpAnyH_take (i := 6) (v := ?t501_6) rfl (by kernel_rfl) (by kernel_rfl) (by kernel_rfl) (fun _ _ _ h => h) (Or.inl ⟨by rfl, ?hyt501_6⟩) (by assumption) ?restt501_6
      case hyt501_6 => intro w hSw; (try dsimp only at hSw); go_simp; (try with_reducible rfl)
      simp only [Act.put]
      refine wpAnyH_take (i := 7) (v := ?t501_7) rfl (by kernel_rfl) (by kernel_rfl) (by kernel_rfl) (fun _ _ _ h => h) (Or.inl ⟨by rfl, ?hyt501_7⟩) (by assumption) ?restt501_7
      case hyt501_7 => intro w hSw; (try dsimp only at hSw); go_simp; (try with_reducible rfl)
      simp only [Act.put]
      refine wpAnyH_take (i := 8) (v := ?t501_8) rfl (by kernel_rfl) (by kernel_rfl) (by kernel_rfl) (fun _ _ _ h => h) (Or.inl ⟨by rfl, ?hyt501_8⟩) (by assumption) ?restt501_8
      case hyt501_8 => intro w hSw; (try dsimp only at hSw); go_simp; (try with_reducible rfl)
      simp only [Act.put]
      refine wpAnyH_take (i := 9) (v := ?t501_9) rfl (by kernel_rfl) (by kernel_rfl) (by kernel_rfl) (fun _ _ _ h => h) (Or.inl ⟨by rfl, ?hyt501_9⟩) (by assumption) ?restt501_9
      case hyt501_9 => intro w hSw; (try dsimp only at hSw); go_simp; (try with_reducible rfl)
      simp only [Act.put]
      refine wpAnyH_take (i := 10) (v := ?t501_10) rfl (by kernel_rfl) (by kernel_rfl) (by kernel_rfl) (fun _ _ _ h => h) (Or.inl ⟨by rfl, ?hyt501_10⟩) (by assumption) ?restt501_10
      case hyt501_10 => intro w hSw; (try dsimp only at hSw); go_simp; (try with_reducible rfl)
      simp only [Act.put]
      refine wpAnyH_take (i := 11) (v := ?t501_11) rfl (by kernel_rfl) (by kernel_rfl) (by kernel_rfl) (fun _ _ _ h => h) (Or.inl ⟨by rfl, ?hyt501_11⟩) (by assumption) ?restt501_11
      case hyt501_11 => intro w hSw; (try dsimp only at hSw); go_simp; (try with_reducible rfl)
      simp only [Act.put]
      refine wpAnyH_ready (rs := [12]) (by kernel_rfl) (by simp) ?_
      refine AllReadyH.cons rfl (fun K hK => ?_) AllReadyH.nil
      go_simp
      refine hK.out _ _ hcD (fun _ => ?_)
      clear hK K
      refine wpAnyH_done (by kernel_rfl) ?_ _
      go_wp2
      go_roundw
      case rel =>
        exact ⟨k + 1, by omega, by go_num, HREL.out.1.drew, HREL.out.2.1.frame (by simp) (fun q hq => rfl), HREL.out.2.2.trans (Only.of_below ((Below.refl _ _).drew))⟩
      case measure => simp [intOf]; omega
    · have hke : k = len := by omega
      subst hke
      generalize hxm : (m : Int) + 1 = x at *
      have hK : KpH m x w wr D F vi (.slice ah Lh.length ch) vn vm Li Lh (.slice av k cap) k [] := ⟨hd2, hov.all, hO2, by simp⟩
      have hrow := hK.row
      have HK : Hid (KpH m x w wr D F vi (.slice ah Lh.length ch) vn vm Li Lh (.slice av k cap) k []) := hK
      have HV : Hid (∀ g, (Value.slice av k cap).ownBlock = some g → ¬ F g) := hv
      clear hK hd2 hov hO2 hv
      have hDl0 : D < wr.heap.size := HK.out.dr.lt D HK.out.dr.mine
      go_wp2_with fail
      refine wp_region_held_drew (S := fun w' => w'.cell? ⟨D, 0, none⟩ = some (.int .i64 x)) (by kernel_rfl) c0 (fun hHeld => ?_)
      refine wpAnyH_take (i := 0) (v := ?h50) rfl (by kernel_rfl) (by kernel_rfl) (by kernel_rfl) (fun _ _ _ h => h) (Or.inl ⟨by rfl, ?hyh50⟩) (by assumption) ?resth50
      case hyh50 => intro w hSw; (try dsimp only at hSw); go_simp; (try with_reducible rfl)
      simp only [Act.put]
      refine wpAnyH_take (i := 1) (v := ?h51) rfl (by kernel_rfl) (by kernel_rfl) (by kernel_rfl) (fun _ _ _ h => h) (Or.inl ⟨by rfl, ?hyh51⟩) (by assumption) ?resth51
      case hyh51 => intro w hSw; (try dsimp only at hSw); go_simp; (try with_reducible rfl)
      simp only [Act.put]
      refine wpAnyH_take (i := 2) (v := ?h52) rfl (by kernel_rfl) (by kernel_rfl) (by kernel_rfl) (fun _ _ _ h => h) (Or.inl ⟨by rfl, ?hyh52⟩) (by assumption) ?resth52
      case hyh52 => intro w hSw; (try dsimp only at hSw); go_simp; (try with_reducible rfl)
      simp only [Act.put]
      refine wpAnyH_take (i := 3) (v := ?h53) rfl (by kernel_rfl) (by kernel_rfl) (by kernel_rfl) (fun _ _ _ h => h) (Or.inl ⟨by rfl, ?hyh53⟩) (by assumption) ?resth53
      case hyh53 => intro w hSw; (try dsimp only at hSw); go_simp; (try with_reducible rfl)
      simp only [Act.put]
      refine wpAnyH_take (i := 4) (v := ?h54) rfl (by kernel_rfl) (by kernel_rfl) (by kernel_rfl) (fun _ _ _ h => h) (Or.inl ⟨by rfl, ?hyh54⟩) (by assumption) ?resth54
      case hyh54 => intro w hSw; (try dsimp only at hSw); go_simp; (try with_reducible rfl)
      simp only [Act.put]
      refine wpAnyH_take (i := 5) (v := ?h55) rfl (by kernel_rfl) (by kernel_rfl) (by kernel_rfl) (fun _ _ _ h => h) (Or.inl ⟨by rfl, ?hyh55⟩) (by assumption) ?resth55
      case hyh55 => intro w hSw; (try dsimp only at hSw); go_simp; (try with_reducible rfl)
      simp only [Act.put]
      refine wpAnyH_take (i := 6) (v := ?h56) rfl (by kernel_rfl) (by kernel_rfl) (by kernel_rfl) (fun _ _ _ h => h) (Or.inl ⟨by rfl, ?hyh56⟩) (by assumption) ?resth56
      case hyh56 => intro w hSw; (try dsimp only at hSw); go_simp; (try with_reducible rfl)
      simp only [Act.put]
      refine wpAnyH_take (i := 7) (v := ?h57) rfl (by kernel_rfl) (by kernel_rfl) (by kernel_rfl) (fun _ _ _ h => h) (Or.inl ⟨by rfl, ?hyh57⟩) (by assumption) ?resth57
      case hyh57 => intro w hSw; (try dsimp only at hSw); go_simp; (try with_reducible rfl)
      simp only [Act.put]
      refine wpAnyH_take (i := 8) (v := ?h58) rfl (by kernel_rfl) (by kernel_rfl) (by kernel_rfl) (fun _ _ _ h => h) (Or.inl ⟨by rfl, ?hyh58⟩) (by assumption) ?resth58
      case hyh58 => intro w hSw; (try dsimp only at hSw); go_simp; (try with_reducible rfl)
      simp only [Act.put]
      refine wpAnyH_ready (rs := [9]) (by kernel_rfl) (by simp) ?_
      refine AllReadyH.cons rfl (fun K hK => ?_) AllReadyH.nil
      go_simp
      refine hK.out _ _ ((World.cell?_of_block (a := ⟨D, 0, none⟩) (Below.heap_alloc wr _ D hDl0)).trans c0) (fun hHeld => ?_)
      clear hK K
      refine wpAnyH_ready (rs := [10]) (by kernel_rfl) (by simp) ?_
      refine AllReadyH.cons rfl (fun K hK => ?_) AllReadyH.nil
      go_simp
      refine hK.out _ _ ((World.cell?_of_block (a := ⟨D, 0, none⟩) (Below.heap_alloc wr _ D hDl0)).trans c0) (fun hHeld => ?_)
      clear hK K
      refine wpAnyH_done (by kernel_rfl) ?_ _
      have hK5 : KpH m x w (wr.alloc (.cells #[.int .i64 x, .int .i64 x] 77)).drew D F vi (.slice ah Lh.length ch) vn vm Li Lh (.slice av k cap) k [] := HK.out.quiet (((Below.refl _ _).alloc (Nat.le_refl _) _).drew)
      have cA0 : (wr.alloc (.cells #[.int .i64 x, .int .i64 x] 77)).drew.cell? ⟨wr.heap.size, 0, none⟩ = some (.int .i64 x) := (World.news_of_block (cs := #[.int .i64 x, .int .i64 x]) (heap_alloc_new wr (.cells #[.int .i64 x, .int .i64 x] 77))) 0 _ rfl
      have cB0 : (wr.alloc (.cells #[.int .i64 x, .int .i64 x] 77)).drew.cell? ⟨wr.heap.size, 1, none⟩ = some (.int .i64 x) := (World.news_of_block (cs := #[.int .i64 x, .int .i64 x]) (heap_alloc_new wr (.cells #[.int .i64 x, .int .i64 x] 77))) 1 _ rfl
      have HVH : Hid ((Value.slice av k cap).ownBlock ≠ some wr.heap.size) := fun e => by have h1 := HVL.out _ e; have h2 := HK.out.only.size; omega
      clear HK hrow c0 hHeld hDl0
      generalize (wr.alloc (.cells #[.int .i64 x, .int .i64 x] 77)).drew = w5 at *
      generalize wr.heap.size = hb at *
      have HK0 : Hid (KpH m x w w5 D F vi (.slice ah Lh.length ch) vn vm Li Lh (.slice av k cap) k []) := hK5
      have hrow0 := hK5.row
      clear hK5
      go_wp2_with (at_builtin; first | (refine wpList_append_fill _ rfl _ _ 66 rfl 0 77 i2 (.agg #[.int .i64 0, .int .i64 0]) 2 16 Try.underlying66 hk2 hx0 hx1 hx2 rfl (by decide) (.slice av k cap) k _ rfl (World.ownsRow.alloc hrow0 _) ⟨w5.heap.size, 0, none⟩ 1 1 [.int .i64 x, .int .i64 x] (.int .i64 x) rfl rfl (World.news_of_block (cs := #[.int .i64 x, .int .i64 x]) (heap_alloc_new w5 _)) (by intro u hu2; simp at hu2; subst hu2; rfl) (by simp) (by decide) (by unfold maxLen; omega) (by omega) (Nat.zero_le _) (w5.heap.size + 1) (by simp) ?_; intro ga capa wa a1 a2 a3 a4 a5 a6; have cA1 : wa.cell? ⟨hb, 0, none⟩ = some (.int .i64 x) := World.grownBy.cell a3 (cell_keep _ cA0) (fun e => HVH.out e.symm); have cB1 : wa.cell? ⟨hb, 1, none⟩ = some (.int .i64 x) := World.grownBy.cell a3 (cell_keep _ cB0) (fun e => HVH.out e.symm); have hK1 : KpH m x w wa D F vi (.slice ah Lh.length ch) vn vm Li Lh (.slice av k cap) k ([] ++ [.slice (some ⟨ga, 0, none⟩) (k + 1) capa]) := KpH.next (HK0.out.quiet ((Below.refl _ _).alloc (Nat.le_refl _) _)) HV.out (by simp) (by omega) a1 a2 a3 (by simpa using a4) a5 a6; have HK1 : Hid (KpH m x w wa D F vi (.slice ah Lh.length ch) vn vm Li Lh (.slice av k cap) k [.slice (some ⟨ga, 0, none⟩) (k + 1) capa]) := hK1; have hrow1 := hK1.row; clear hK1 HK0 hrow0 a1 a2 a3 a4 a5 a6 cA0 cB0) | (refine wpList_append_fill _ rfl _ _ 66 rfl 0 77 i2 (.agg #[.int .i64 0, .int .i64 0]) 2 16 Try.underlying66 hk2 hx0 hx1 hx2 rfl (by decide) (.slice av k cap) k _ rfl (World.ownsRow.alloc hrow1 _) ⟨wa.heap.size, 0, none⟩ 2 2 [.int .i64 x, .int .i64 x, .int .i64 x, .int .i64 x] (.int .i64 x) rfl rfl (World.news_of_block (cs := #[.int .i64 x, .int .i64 x, .int .i64 x, .int .i64 x]) (heap_alloc_new wa _)) (by intro u hu2; simp at hu2; subst hu2; rfl) (by simp) (by decide) (by unfold maxLen; omega) (by omega) (Nat.zero_le _) (wa.heap.size + 1) (by simp) ?_; intro gb capb wb a1 a2 a3 a4 a5 a6; have cA2 : wb.cell? ⟨hb, 0, none⟩ = some (.int .i64 x) := World.grownBy.cell a3 (cell_keep _ cA1) (fun e => HVH.out e.symm); have cB2 : wb.cell? ⟨hb, 1, none⟩ = some (.int .i64 x) := World.grownBy.cell a3 (cell_keep _ cB1) (fun e => HVH.out e.symm); have hK2 : KpH m x w wb D F vi (.slice ah Lh.length ch) vn vm Li Lh (.slice av k cap) k ([.slice (some ⟨ga, 0, none⟩) (k + 1) capa] ++ [.slice (some ⟨gb, 0, none⟩) (k + 2) capb]) := KpH.next (HK1.out.quiet ((Below.refl _ _).alloc (Nat.le_refl _) _)) HV.out (by simp) (by omega) a1 a2 a3 (by simpa using a4) a5 a6; have HK2 : Hid (KpH m x w wb D F vi (.slice ah Lh.length ch) vn vm Li Lh (.slice av k cap) k [.slice (some ⟨ga, 0, none⟩) (k + 1) capa, .slice (some ⟨gb, 0, none⟩) (k + 2) capb]) := hK2; have hrow2 := hK2.row; clear hK2 HK1 hrow1 a1 a2 a3 a4 a5 a6 cA1 cB1) | (refine wpList_append_fill _ rfl _ _ 66 rfl 0 77 i2 (.agg #[.int .i64 0, .int .i64 0]) 2 16 Try.underlying66 hk2 hx0 hx1 hx2 rfl (by decide) (.slice av k cap) k _ rfl (World.ownsRow.alloc hrow2 _) ⟨wb.heap.size, 0, none⟩ 3 3 [.int .i64 x, .int .i64 x, .int .i64 x, .int .i64 x, .int .i64 x, .int .i64 x] (.int .i64 x) rfl rfl (World.news_of_block (cs := #[.int .i64 x, .int .i64 x, .int .i64 x, .int .i64 x, .int .i64 x, .int .i64 x]) (heap_alloc_new wb _)) (by intro u hu2; simp at hu2; subst hu2; rfl) (by simp) (by decide) (by unfold maxLen; omega) (by omega) (Nat.zero_le _) (wb.heap.size + 1) (by simp) ?_; intro gc capc wc a1 a2 a3 a4 a5 a6; have cA3 : wc.cell? ⟨hb, 0, none⟩ = some (.int .i64 x) := World.grownBy.cell a3 (cell_keep _ cA2) (fun e => HVH.out e.symm); have cB3 : wc.cell? ⟨hb, 1, none⟩ = some (.int .i64 x) := World.grownBy.cell a3 (cell_keep _ cB2) (fun e => HVH.out e.symm); have hK3 : KpH m x w wc D F vi (.slice ah Lh.length ch) vn vm Li Lh (.slice av k cap) k ([.slice (some ⟨ga, 0, none⟩) (k + 1) capa, .slice (some ⟨gb, 0, none⟩) (k + 2) capb] ++ [.slice (some ⟨gc, 0, none⟩) (k + 3) capc]) := KpH.next (HK2.out.quiet ((Below.refl _ _).alloc (Nat.le_refl _) _)) HV.out (by simp) (by omega) a1 a2 a3 (by simpa using a4) a5 a6; have HK3 : Hid (KpH m x w wc D F vi (.slice ah Lh.length ch) vn vm Li Lh (.slice av k cap) k [.slice (some ⟨ga, 0, none⟩) (k + 1) capa, .slice (some ⟨gb, 0, none⟩) (k + 2) capb, .slice (some ⟨gc, 0, none⟩) (k + 3) capc]) := hK3; have hrow3 := hK3.row; have cc2 := hK3.dr.c2; have cf2 := hK3.dr.free 2; have hrh := hK3.dr.rh; have hlh := hK3.dr.lh; have hDl := hK3.dr.lt D hK3.dr.mine; have hbh := hK3.dr.bh; clear hK3 HK2 hrow2 a1 a2 a3 a4 a5 a6 cA2 cB2) | (refine wpList_lies_wide _ rfl _ _ 25 rfl 0 66 i1 (.slice none 0 0) 1 24 Try.underlying25 hj hy0 hy1 hy2 rfl (by decide) (.slice ah Lh.length ch) Lh.length (Lh.map (·.1)) rfl (World.ownsRow.alloc hrh _) ⟨wc.heap.size, 0, none⟩ 4 4 [.slice av k cap, .slice (some ⟨ga, 0, none⟩) (k + 1) capa, .slice (some ⟨gb, 0, none⟩) (k + 2) capb, .slice (some ⟨gc, 0, none⟩) (k + 3) capc] rfl rfl (World.news_of_block (heap_alloc_new wc _)) (by simp [Value.oneCell']) (by decide) (by unfold maxLen; omega) (by omega) (Nat.zero_le _) (wc.heap.size + 1) (by simp) ?_; intro ge cape we e1 e2 e3 e4; have hDe : we.heap[D]? = wc.heap[D]? := (e2.block D (by simp; omega) (fun e => (hbh D e.symm).2 rfl)).trans (Below.heap_alloc wc _ D hDl); have c2e : we.cell? ⟨D, 2, none⟩ = some (.slice ah Lh.length ch) := (World.cell?_of_block (a := ⟨D, 2, none⟩) hDe).trans cc2; have f2e : we.frozen? ⟨D, 2, none⟩ = false := (World.frozen?_of_block (a := ⟨D, 2, none⟩) hDe).trans cf2))
      have hKd := HK3.out.dr
      have hwf : (we.setCell ⟨D, 2, none⟩ (.slice (some ⟨ge, 0, none⟩) (Lh.length + 4) cape)).heap[D]? = some (.cells #[.int .i64 x, vi, .slice (some ⟨ge, 0, none⟩) (Lh.length + 4) cape, vn, vm] 28 (0, 0)) := (heap_setCell_same we D 2 _ 28 _ (hDe.trans hKd.blk)).trans rfl
      have hwe := e2.size
      have hvnD : vm.ownBlock ≠ some D := fun e => (hKd.bm D e).2.1 rfl
      have hvni : ∀ g, vm.ownBlock = some g → g < wc.heap.size ∧ some g ≠ (Value.slice ah Lh.length ch).ownBlock := fun g e => ⟨hKd.lt g (hKd.bm g e).1, fun e' => kinds_apartH hKd.rm hKd.rh (by decide) e e'.symm⟩
      have HRN : Hid (∀ W, Below (we.setCell ⟨D, 2, none⟩ (.slice (some ⟨ge, 0, none⟩) (Lh.length + 4) cape)).heap.size (we.setCell ⟨D, 2, none⟩ (.slice (some ⟨ge, 0, none⟩) (Lh.length + 4) cape)) W → W.ownsRow 0 3 1 vm Lh.length (Lh.map fun p => .int .i64 p.2)) := fun W hb => row_same hKd.rm fun g hg => by
        have hgl := (hvni g hg).1
        rw [hb.block g (by simp; simp at hwe; omega), Below.heap_setCell we ⟨D, 2, none⟩ _ g (fun e => hvnD (by have e' : g = D := e; rw [← e']; exact hg)), e2.block g (by simp; omega) (hvni g hg).2, Below.heap_alloc wc _ g hgl]
      have HFIN : Hid (∀ gg capg wg, wg.ownsRow 0 3 1 (.slice (some ⟨gg, 0, none⟩) (Lh.length + 4) capg) (Lh.length + 4) ((Lh.map fun p => .int .i64 p.2) ++ [.int .i64 x, .int .i64 x, .int .i64 x, .int .i64 x]) → (((we.setCell ⟨D, 2, none⟩ (.slice (some ⟨ge, 0, none⟩) (Lh.length + 4) cape)).alloc (.cells #[.int .i64 x, .int .i64 x, .int .i64 x, .int .i64 x] 3)).drew).grownBy wg vm.ownBlock → (vm.ownBlock = some gg ∨ gg = we.heap.size + 1) → gg < wg.heap.size →
          Only (fun q => F q ∨ (Value.slice av k cap).ownBlock = some q) w (wg.setCell ⟨D, 4, none⟩ (.slice (some ⟨gg, 0, none⟩) (Lh.length + 4) capg)) ∧ ∃ G, DS (m + 1) (wg.setCell ⟨D, 4, none⟩ (.slice (some ⟨gg, 0, none⟩) (Lh.length + 4) capg)) D G ∧ ∀ q, G q → F q ∨ (Value.slice av k cap).ownBlock = some q ∨ w.heap.size ≤ q) := fun gg capg wg n1 n2 n3 n4 => KpH.lay HK3.out hm hxm hl HF.out (fun g e => ⟨HV.out g e, HVL.out g e⟩) rfl e1 e2 e3 e4 n1 n2 n3 n4
      have hsf : (we.setCell ⟨D, 2, none⟩ (.slice (some ⟨ge, 0, none⟩) (Lh.length + 4) cape)).heap.size = we.heap.size := by simp
      have hDf := lt_of_block hwf
      have c3f : (we.setCell ⟨D, 2, none⟩ (.slice (some ⟨ge, 0, none⟩) (Lh.length + 4) cape)).cell? ⟨D, 4, none⟩ = some vm := by rw [cell_of_row _ D 4 _ 28 (0, 0) hwf]; rfl
      have c0f : (we.setCell ⟨D, 2, none⟩ (.slice (some ⟨ge, 0, none⟩) (Lh.length + 4) cape)).cell? ⟨D, 0, none⟩ = some (.int .i64 x) := by rw [cell_of_row _ D 0 _ 28 (0, 0) hwf]; rfl
      have f3f : (we.setCell ⟨D, 2, none⟩ (.slice (some ⟨ge, 0, none⟩) (Lh.length + 4) cape)).frozen? ⟨D, 4, none⟩ = false := frozen_of_row _ D 4 _ 28 hwf
      clear hwf hKd HK3 hrh hbh cc2 cf2 hDe c2e f2e e1 e2 e3 e4 cA3 cB3 HVH hrow3
      rw [← hsf] at HFIN
      generalize we.setCell ⟨D, 2, none⟩ (.slice (some ⟨ge, 0, none⟩) (Lh.length + 4) cape) = wf at *
      have HDG : Hid (∀ wg, ((wf.alloc (.cells #[.int .i64 x, .int .i64 x, .int .i64 x, .int .i64 x] 3)).drew).grownBy wg vm.ownBlock → wg.heap[D]? = wf.heap[D]?) := fun wg n2 => (n2.block D (by simp; omega) (fun e => hvnD e.symm)).trans (Below.heap_alloc wf _ D hDf)
      have c3w : ((wf.alloc (.cells #[.int .i64 x, .int .i64 x, .int .i64 x, .int .i64 x] 3)).drew).cell? ⟨D, 4, none⟩ = some vm := (World.cell?_of_block (a := ⟨D, 4, none⟩) (Below.heap_alloc wf _ D hDf)).trans c3f
      have HS2 : Hid (wf.cell? ⟨D, 0, none⟩ = some (.int .i64 x) ∧ wf.frozen? ⟨D, 4, none⟩ = false) := ⟨c0f, f3f⟩
      refine wp_region_held_drew (S := fun w' => w'.cell? ⟨D, 0, none⟩ = some (.int .i64 x) ∧ w'.frozen? ⟨D, 4, none⟩ = false) (by kernel_rfl) ⟨c0f, f3f⟩ (fun hHeld => ?_)
      refine wpAnyH_take (i := 0) (v := ?a0) rfl (by kernel_rfl) (by kernel_rfl) (by kernel_rfl) (fun _ _ _ h => h) (Or.inl ⟨by rfl, ?hya0⟩) (by assumption) ?resta0
      case hya0 => intro w hSw; (try dsimp only at hSw); go_simp; (try with_reducible rfl)
      simp only [Act.put]
      refine wpAnyH_take (i := 1) (v := ?a1) rfl (by kernel_rfl) (by kernel_rfl) (by kernel_rfl) (fun _ _ _ h => h) (Or.inl ⟨by rfl, ?hya1⟩) (by assumption) ?resta1
      case hya1 => intro w hSw; (try dsimp only at hSw); go_simp; (try with_reducible rfl)
      simp only [Act.put]
      refine wpAnyH_take (i := 2) (v := ?a2) rfl (by kernel_rfl) (by kernel_rfl) (by kernel_rfl) (fun _ _ _ h => h) (Or.inl ⟨by rfl, ?hya2⟩) (by assumption) ?resta2
      case hya2 => intro w hSw; (try dsimp only at hSw); go_simp; (try with_reducible rfl)
      simp only [Act.put]
      refine wpAnyH_take (i := 3) (v := ?a3) rfl (by kernel_rfl) (by kernel_rfl) (by kernel_rfl) (fun _ _ _ h => h) (Or.inl ⟨by rfl, ?hya3⟩) (by assumption) ?resta3
      case hya3 => intro w hSw; (try dsimp only at hSw); go_simp; (try with_reducible rfl)
      simp only [Act.put]
      refine wpAnyH_take (i := 5) (v := ?a5) rfl (by kernel_rfl) (by kernel_rfl) (by kernel_rfl) (fun _ _ _ h => h) (Or.inl ⟨by rfl, ?hya5⟩) (by assumption) ?resta5
      case hya5 => intro w hSw; (try dsimp only at hSw); go_simp; (try with_reducible rfl)
      simp only [Act.put]
      refine wpAnyH_take (i := 6) (v := ?a6) rfl (by kernel_rfl) (by kernel_rfl) (by kernel_rfl) (fun _ _ _ h => h) (Or.inl ⟨by rfl, ?hya6⟩) (by assumption) ?resta6
      case hya6 => intro w hSw; (try dsimp only at hSw); go_simp; (try with_reducible rfl)
      simp only [Act.put]
      refine wpAnyH_take (i := 7) (v := ?a7) rfl (by kernel_rfl) (by kernel_rfl) (by kernel_rfl) (fun _ _ _ h => h) (Or.inl ⟨by rfl, ?hya7⟩) (by assumption) ?resta7
      case hya7 => intro w hSw; (try dsimp only at hSw); go_simp; (try with_reducible rfl)
      simp only [Act.put]
      refine wpAnyH_take (i := 8) (v := ?a8) rfl (by kernel_rfl) (by kernel_rfl) (by kernel_rfl) (fun _ _ _ h => h) (Or.inl ⟨by rfl, ?hya8⟩) (by assumption) ?resta8
      case hya8 => intro w hSw; (try dsimp only at hSw); go_simp; (try with_reducible rfl)
      simp only [Act.put]
      refine wpAnyH_take (i := 9) (v := ?a9) rfl (by kernel_rfl) (by kernel_rfl) (by kernel_rfl) (fun _ _ _ h => h) (Or.inl ⟨by rfl, ?hya9⟩) (by assumption) ?resta9
      case hya9 => intro w hSw; (try dsimp only at hSw); go_simp; (try with_reducible rfl)
      simp only [Act.put]
      refine wpAnyH_take (i := 10) (v := ?a10) rfl (by kernel_rfl) (by kernel_rfl) (by kernel_rfl) (fun _ _ _ h => h) (Or.inl ⟨by rfl, ?hya10⟩) (by assumption) ?resta10
      case hya10 => intro w hSw; (try dsimp only at hSw); go_simp; (try with_reducible rfl)
      simp only [Act.put]
      refine wpAnyH_take (i := 11) (v := ?a11) rfl (by kernel_rfl) (by kernel_rfl) (by kernel_rfl) (fun _ _ _ h => h) (Or.inl ⟨by rfl, ?hya11⟩) (by assumption) ?resta11
      case hya11 => intro w hSw; (try dsimp only at hSw); go_simp; (try with_reducible rfl)
      simp only [Act.put]
      refine wpAnyH_take (i := 12) (v := ?a12) rfl (by kernel_rfl) (by kernel_rfl) (by kernel_rfl) (fun _ _ _ h => h) (Or.inl ⟨by rfl, ?hya12⟩) (by assumption) ?resta12
      case hya12 => intro w hSw; (try dsimp only at hSw); go_simp; (try with_reducible rfl)
      simp only [Act.put]
      refine wpAnyH_take (i := 13) (v := ?a13) rfl (by kernel_rfl) (by kernel_rfl) (by kernel_rfl) (fun _ _ _ h => h) (Or.inl ⟨by rfl, ?hya13⟩) (by assumption) ?resta13
      case hya13 => intro w hSw; (try dsimp only at hSw); go_simp; (try with_reducible rfl)
      simp only [Act.put]
      refine wpAnyH_take (i := 14) (v := ?a14) rfl (by kernel_rfl) (by kernel_rfl) (by kernel_rfl) (fun _ _ _ h => h) (Or.inl ⟨by rfl, ?hya14⟩) (by assumption) ?resta14
      case hya14 => intro w hSw; (try dsimp only at hSw); go_simp; (try with_reducible rfl)
      simp only [Act.put]
      refine wpAnyH_take (i := 15) (v := ?a15) rfl (by kernel_rfl) (by kernel_rfl) (by kernel_rfl) (fun _ _ _ h => h) (Or.inl ⟨by rfl, ?hya15⟩) (by assumption) ?resta15
      case hya15 => intro w hSw; (try dsimp only at hSw); go_simp; (try with_reducible rfl)
      simp only [Act.put]
      refine wpAnyH_take (i := 16) (v := ?a16) rfl (by kernel_rfl) (by kernel_rfl) (by kernel_rfl) (fun _ _ _ h => h) (Or.inl ⟨by rfl, ?hya16⟩) (by assumption) ?resta16
      case hya16 => intro w hSw; (try dsimp only at hSw); go_simp; (try with_reducible rfl)
      simp only [Act.put]
      refine wpAnyH_take (i := 17) (v := ?a17) rfl (by kernel_rfl) (by kernel_rfl) (by kernel_rfl) (fun _ _ _ h => h) (Or.inl ⟨by rfl, ?hya17⟩) (by assumption) ?resta17
      case hya17 => intro w hSw; (try dsimp only at hSw); go_simp; (try with_reducible rfl)
      simp only [Act.put]
      refine wpAnyH_take (i := 18) (v := ?a18) rfl (by kernel_rfl) (by kernel_rfl) (by kernel_rfl) (fun _ _ _ h => h) (Or.inl ⟨by rfl, ?hya18⟩) (by assumption) ?resta18
      case hya18 => intro w hSw; (try dsimp only at hSw); go_simp; (try with_reducible rfl)
      simp only [Act.put]
      refine wpAnyH_take (i := 19) (v := ?a19) rfl (by kernel_rfl) (by kernel_rfl) (by kernel_rfl) (fun _ _ _ h => h) (Or.inl ⟨by rfl, ?hya19⟩) (by assumption) ?resta19
      case hya19 => intro w hSw; (try dsimp only at hSw); go_simp; (try with_reducible rfl)
      simp only [Act.put]
      refine wpAnyH_take (i := 20) (v := ?a20) rfl (by kernel_rfl) (by kernel_rfl) (by kernel_rfl) (fun _ _ _ h => h) (Or.inl ⟨by rfl, ?hya20⟩) (by assumption) ?resta20
      case hya20 => intro w hSw; (try dsimp only at hSw); go_simp; (try with_reducible rfl)
      simp only [Act.put]
      refine wpAnyH_ready (rs := [4, 21]) (by kernel_rfl) (by simp) ?_
      refine AllReadyH.cons rfl (fun K hK => ?_) (AllReadyH.cons rfl (fun K hK => ?_) AllReadyH.nil)
      · go_simp
        refine hK.out _ _ (by exact hHeld) (fun hHeld => ?_)
        clear hK K
        refine wpAnyH_ready (rs := [21]) (by kernel_rfl) (by simp) ?_
        refine AllReadyH.cons rfl (fun K hK => ?_) AllReadyH.nil
        go_simp
        refine hK.out _ _ (by exact s4_alloc hHeld _) (fun hHeld => ?_)
        clear hK K
        refine wpAnyH_ready (rs := [22]) (by kernel_rfl) (by simp) ?_
        refine AllReadyH.cons rfl (fun K hK => ?_) AllReadyH.nil
        refine stepK_lies _ 93 rfl rfl (.tmp 75) (.tmp 92) 26 rfl 0 3 i0 (.int .i64 0) 1 8 Try.underlying26 hi hz0 hz1 hz2 rfl (by decide) vm Lh.length _ (by simp [Act.eval]) (HRN.out _ (((Below.refl _ _).alloc (Nat.le_refl _) _).drew)) ⟨wf.heap.size, 0, none⟩ 4 4 [.int .i64 x, .int .i64 x, .int .i64 x, .int .i64 x] (by simp [Act.eval]) rfl (World.news_of_block (cs := #[.int .i64 x, .int .i64 x, .int .i64 x, .int .i64 x]) (heap_alloc_new wf _)) (by intro u hu2; simp at hu2; subst hu2; rfl) (by decide) (by unfold maxLen; omega) (by omega) (Nat.zero_le _) (wf.heap.size + 1) (by simp) ?_
        intro gg capg wg n1 n2 n3 n4
        have hDg : wg.heap[D]? = wf.heap[D]? := HDG.out wg n2
        refine hK.out _ _ (s4_same HS2.out hDg) (fun hHeld => ?_)
        clear hK K
        have c3g : wg.cell? ⟨D, 4, none⟩ = some vm := (World.cell?_of_block (a := ⟨D, 4, none⟩) hDg).trans c3f
        refine wpAnyH_take (i := 23) (v := ?b23) rfl (by kernel_rfl) (by kernel_rfl) (by kernel_rfl) (fun _ _ _ h => h) (Or.inl ⟨by rfl, ?hyb23⟩) (by assumption) ?restb23
        case hyb23 => intro w hSw; (try dsimp only at hSw); go_simp; (try with_reducible rfl)
        simp only [Act.put]
        refine wpAnyH_take (i := 24) (v := ?b24) rfl (by kernel_rfl) (by kernel_rfl) (by kernel_rfl) (fun _ _ _ h => h) (Or.inl ⟨by rfl, ?hyb24⟩) (by assumption) ?restb24
        case hyb24 => intro w hSw; (try dsimp only at hSw); go_simp; (try with_reducible rfl)
        simp only [Act.put]
        refine wpAnyH_ready (rs := [25]) (by kernel_rfl) (by simp) ?_
        refine AllReadyH.cons rfl (fun K hK => ?_) AllReadyH.nil
        go_simp
        refine hK.out _ _ (by exact s4_set hHeld _) (fun hHeld => ?_)
        clear hK K
        refine wpAnyH_done (by kernel_rfl) ?_ _
        go_wp2
        go_end0
        exact ⟨rfl, HFIN.out gg capg wg n1 n2 n3 n4⟩
      · go_simp
        refine hK.out _ _ (by exact s4_alloc hHeld _) (fun hHeld => ?_)
        clear hK K
        refine wpAnyH_ready (rs := [4]) (by kernel_rfl) (by simp) ?_
        refine AllReadyH.cons rfl (fun K hK => ?_) AllReadyH.nil
        go_simp
        refine hK.out _ _ (by exact hHeld) (fun hHeld => ?_)
        clear hK K
        refine wpAnyH_ready (rs := [22]) (by kernel_rfl) (by simp) ?_
        refine AllReadyH.cons rfl (fun K hK => ?_) AllReadyH.nil
        refine stepK_lies _ 93 rfl rfl (.tmp 75) (.tmp 92) 26 rfl 0 3 i0 (.int .i64 0) 1 8 Try.underlying26 hi hz0 hz1 hz2 rfl (by decide) vm Lh.length _ (by simp [Act.eval]) (HRN.out _ (((Below.refl _ _).alloc (Nat.le_refl _) _).drew)) ⟨wf.heap.size, 0, none⟩ 4 4 [.int .i64 x, .int .i64 x, .int .i64 x, .int .i64 x] (by simp [Act.eval]) rfl (World.news_of_block (cs := #[.int .i64 x, .int .i64 x, .int .i64 x, .int .i64 x]) (heap_alloc_new wf _)) (by intro u hu2; simp at hu2; subst hu2; rfl) (by decide) (by unfold maxLen; omega) (by omega) (Nat.zero_le _) (wf.heap.size + 1) (by simp) ?_
        intro gg capg wg n1 n2 n3 n4
        have hDg : wg.heap[D]? = wf.heap[D]? := HDG.out wg n2
        refine hK.out _ _ (s4_same HS2.out hDg) (fun hHeld => ?_)
        clear hK K
        have c3g : wg.cell? ⟨D, 4, none⟩ = some vm := (World.cell?_of_block (a := ⟨D, 4, none⟩) hDg).trans c3f
        refine wpAnyH_take (i := 23) (v := ?c23) rfl (by kernel_rfl) (by kernel_rfl) (by kernel_rfl) (fun _ _ _ h => h) (Or.inl ⟨by rfl, ?hyc23⟩) (by assumption) ?restc23
        case hyc23 => intro w hSw; (try dsimp only at hSw); go_simp; (try with_reducible rfl)
        simp only [Act.put]
        refine wpAnyH_take (i := 24) (v := ?c24) rfl (by kernel_rfl) (by kernel_rfl) (by kernel_rfl) (fun _ _ _ h => h) (Or.inl ⟨by rfl, ?hyc24⟩) (by assumption) ?restc24
        case hyc24 => intro w hSw; (try dsimp only at hSw); go_simp; (try with_reducible rfl)
        simp only [Act.put]
        refine wpAnyH_ready (rs := [25]) (by kernel_rfl) (by simp) ?_
        refine AllReadyH.cons rfl (fun K hK => ?_) AllReadyH.nil
        go_simp
        refine hK.out _ _ (by exact s4_set hHeld _) (fun hHeld => ?_)
        clear hK K
        refine wpAnyH_done (by kernel_rfl) ?_ _
        go_wp2
        go_end0
        exact ⟨rfl, HFIN.out gg capg wg n1 n2 n3 n4⟩

end Go.Proofs.Ytpikkedeoebiaaa
