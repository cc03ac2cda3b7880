/- Walk: foliolaw's keepInts, at a drawer that is still empty: no list at all. -/
import Derived.Test.YthkndfkkgncjfaaWalkE
namespace Go.Proofs.Ythkndfkkgncjfaa
open Go.RowKit
set_option maxRecDepth 100000

set_option maxHeartbeats 1000000 in
theorem keep_nil (D : Nat) (w : World) (hd : DrAt w D 0 (.slice none 0 0) (.slice none 0 0) (.slice none 0 0) (.slice none 0 0)) :
    Calls Try.prog 39 #[.pointer (some ⟨D, 0, none⟩), .slice none 0 0] w fun e w' => e = .returned (.tuple #[]) ∧ Below D w w' := by
  obtain ⟨i0, hi, hz0, hz1, hz2⟩ := info_parts Try.info3
  obtain ⟨i1, hj, hy0, hy1, hy2⟩ := info_parts Try.info26
  have c0 := hd.c0
  have f0 := hd.free 0
  go_enter Try.func39, Try.ntmps39
  go_wp2
  have hd2 := hd.set0 1
  have hb2 : Below D w (w.setCell ⟨D, 0, none⟩ (.int .i64 1)) := (Below.refl D w).setCell (p := ⟨D, 0, none⟩) (Nat.le_refl D) _
  clear c0 f0
  generalize w.setCell ⟨D, 0, none⟩ (.int .i64 1) = wr at *
  clear hd
  have c0 := hd2.c0
  have hbs := hb2.size
  have hds := hd2.lt
  refine wp_loop_rounds 1 ?_
  rw [rounds_succ]
  go_wp2_with (at_builtin; refine wpList_append_grows _ rfl _ _ 26 rfl 3 i0 (.int .i64 0) 1 8 Try.underlying26 hi hz0 hz1 hz2 rfl (by decide) none 0 0 [] rfl (by simp) rfl (by simp) ⟨wr.heap.size, 0, none⟩ 1 1 [.int .i64 1] rfl rfl (cell_one_new _ _ _) (by intro u hu2; simp at hu2; subst hu2; rfl) (by omega) (by unfold maxLen; omega) (by omega) ?_; intro va wa howna hgrowa)
  obtain ⟨ga, capa, hva, _, _⟩ := howna.form (by omega)
  have hwa := grow_below hgrowa
  have hda := hd2.below hwa
  have hba : Below D w wa := hb2.trans (hwa.mono (by omega))
  have hcd := hda.c0
  have hdl := hda.lt
  rw [hva]
  clear hva howna hgrowa hwa hd2 hb2 c0
  go_region_held_law (fun w' => w'.cell? ⟨D, 0, none⟩ = some (.int .i64 1) ∧ Below wa.heap.size wa w') (first | exact ⟨hcd, (Below.refl _ _).drew⟩ | exact held_alloc hdl (by assumption) _ | exact held_grown hdl (by assumption) (by assumption))
    ((refine step_grows_at 45 rfl rfl (.tmp 35) (.tmp 44) 26 rfl 3 i0 (.int .i64 0) 1 8 Try.underlying26 hi hz0 hz1 hz2 rfl (by decide) none 0 0 [] (by simp [Act.eval]) (by simp) rfl (by simp) ⟨wa.heap.size, 0, none⟩ 2 2 [.int .i64 1, .int .i64 1] (by simp [Act.eval]) rfl (cell_two_new wa _ _ 3) (by intro u hu2; simp at hu2; subst hu2; rfl) (by omega) (by unfold maxLen; omega) (by omega) ?_; intro vb wb hownb hgrowb))
  go_wp2
  have hSb : wb.cell? ⟨D, 0, none⟩ = some (.int .i64 1) ∧ Below wa.heap.size wa wb := by assumption
  obtain ⟨gb, capb, hvb, _, _⟩ := hownb.form (by omega)
  rw [hvb]
  have hdb := hda.below hSb.2
  have hbb : Below D w wb := hba.trans (hSb.2.mono (by omega))
  have hce := hdb.c0
  have hdm := hdb.lt
  clear hvb hownb hgrowb hSb hda hba hcd
  go_region_held_law (fun w' => w'.cell? ⟨D, 0, none⟩ = some (.int .i64 1) ∧ Below wb.heap.size wb w') (first | exact ⟨hce, (Below.refl _ _).drew⟩ | exact held_alloc hdm (by assumption) _ | exact held_grown hdm (by assumption) (by assumption))
    ((refine step_grows_at 60 rfl rfl (.tmp 46) (.tmp 59) 26 rfl 3 i0 (.int .i64 0) 1 8 Try.underlying26 hi hz0 hz1 hz2 rfl (by decide) none 0 0 [] (by simp [Act.eval]) (by simp) rfl (by simp) ⟨wb.heap.size, 0, none⟩ 3 3 [.int .i64 1, .int .i64 1, .int .i64 1] (by simp [Act.eval]) rfl (World.news_of_block (cs := #[.int .i64 1, .int .i64 1, .int .i64 1]) (heap_alloc_new wb _)) (by intro u hu2; simp at hu2; subst hu2; rfl) (by omega) (by unfold maxLen; omega) (by omega) ?_; intro vc wc hownc hgrowc))
  have hSc : wc.cell? ⟨D, 0, none⟩ = some (.int .i64 1) ∧ Below wb.heap.size wb wc := by assumption
  obtain ⟨gc, capc, hvc, _, _⟩ := hownc.form (by omega)
  rw [hvc]
  have hdc := hdb.below hSc.2
  have hbc : Below D w wc := hbb.trans (hSc.2.mono (by omega))
  have hcc := hdc.c1
  have hfc := hdc.free 1
  have hdn := hdc.lt
  clear hvc hownc hgrowc hSc hdb hbb hce
  go_wp2_with (at_builtin; refine wpList_append_grows _ rfl _ _ 24 rfl 26 i1 (.slice none 0 0) 1 24 Try.underlying24 hj hy0 hy1 hy2 rfl (by decide) none 0 0 [] rfl (by simp) rfl (by simp) ⟨wc.heap.size, 0, none⟩ 4 4 [.slice none 0 0, .slice (some ⟨ga, 0, none⟩) (1) capa, .slice (some ⟨gb, 0, none⟩) (2) capb, .slice (some ⟨gc, 0, none⟩) (3) capc] rfl rfl (World.news_of_block (heap_alloc_new wc _)) (by simp [Value.oneCell']) (by omega) (by unfold maxLen; omega) (by omega) ?_; intro ve we howne hgrowe; obtain ⟨ge, cape, hve, _, _⟩ := howne.form (by omega); rw [hve]; have hwe := grow_below hgrowe; have hde := hdc.below hwe; have hc1e := hde.c1; have hf1e := hde.free 1)
  have hwe : Below wc.heap.size wc we := grow_below (by assumption)
  have hde : DrAt we D 1 (.slice none 0 0) (.slice none 0 0) (.slice none 0 0) (.slice none 0 0) := hdc.below hwe
  have hbe : Below D w we := hbc.trans (hwe.mono (by omega))
  have hdf := hde.set1 (.slice (some ⟨ge, 0, none⟩) 4 cape)
  have hbf : Below D w (we.setCell ⟨D, 1, none⟩ (.slice (some ⟨ge, 0, none⟩) 4 cape)) := hbe.setCell (p := ⟨D, 1, none⟩) (Nat.le_refl D) _
  generalize we.setCell ⟨D, 1, none⟩ (.slice (some ⟨ge, 0, none⟩) 4 cape) = wf at *
  have hc0 := hdf.c0
  have hc3 := hdf.c3
  have hf3 := hdf.free 3
  have hdz := hdf.lt
  refine wp_region_held_drew (S := fun w' => w'.cell? ⟨D, 0, none⟩ = some (.int .i64 1) ∧ w'.frozen? ⟨D, 3, none⟩ = false ∧ Below D w w') (by kernel_rfl) ⟨hc0, hf3, hbf.drew⟩ (fun hHeld => ?_)
  refine wpAnyH_take (i := 0) (v := ?va0) rfl (by kernel_rfl) (by kernel_rfl) (by kernel_rfl) (fun _ _ _ h => h) (Or.inl ⟨by rfl, ?hya0⟩) (by assumption) ?resta0
  case hya0 => intro w hSw; (try dsimp only at hSw); go_simp; (try with_reducible rfl)
  simp only [Act.put]
  refine wpAnyH_take (i := 1) (v := ?va1) rfl (by kernel_rfl) (by kernel_rfl) (by kernel_rfl) (fun _ _ _ h => h) (Or.inl ⟨by rfl, ?hya1⟩) (by assumption) ?resta1
  case hya1 => intro w hSw; (try dsimp only at hSw); go_simp; (try with_reducible rfl)
  simp only [Act.put]
  refine wpAnyH_take (i := 2) (v := ?va2) rfl (by kernel_rfl) (by kernel_rfl) (by kernel_rfl) (fun _ _ _ h => h) (Or.inl ⟨by rfl, ?hya2⟩) (by assumption) ?resta2
  case hya2 => intro w hSw; (try dsimp only at hSw); go_simp; (try with_reducible rfl)
  simp only [Act.put]
  refine wpAnyH_take (i := 3) (v := ?va3) rfl (by kernel_rfl) (by kernel_rfl) (by kernel_rfl) (fun _ _ _ h => h) (Or.inl ⟨by rfl, ?hya3⟩) (by assumption) ?resta3
  case hya3 => intro w hSw; (try dsimp only at hSw); go_simp; (try with_reducible rfl)
  simp only [Act.put]
  refine wpAnyH_take (i := 5) (v := ?va5) rfl (by kernel_rfl) (by kernel_rfl) (by kernel_rfl) (fun _ _ _ h => h) (Or.inl ⟨by rfl, ?hya5⟩) (by assumption) ?resta5
  case hya5 => intro w hSw; (try dsimp only at hSw); go_simp; (try with_reducible rfl)
  simp only [Act.put]
  refine wpAnyH_take (i := 6) (v := ?va6) rfl (by kernel_rfl) (by kernel_rfl) (by kernel_rfl) (fun _ _ _ h => h) (Or.inl ⟨by rfl, ?hya6⟩) (by assumption) ?resta6
  case hya6 => intro w hSw; (try dsimp only at hSw); go_simp; (try with_reducible rfl)
  simp only [Act.put]
  refine wpAnyH_take (i := 7) (v := ?va7) rfl (by kernel_rfl) (by kernel_rfl) (by kernel_rfl) (fun _ _ _ h => h) (Or.inl ⟨by rfl, ?hya7⟩) (by assumption) ?resta7
  case hya7 => intro w hSw; (try dsimp only at hSw); go_simp; (try with_reducible rfl)
  simp only [Act.put]
  refine wpAnyH_take (i := 8) (v := ?va8) rfl (by kernel_rfl) (by kernel_rfl) (by kernel_rfl) (fun _ _ _ h => h) (Or.inl ⟨by rfl, ?hya8⟩) (by assumption) ?resta8
  case hya8 => intro w hSw; (try dsimp only at hSw); go_simp; (try with_reducible rfl)
  simp only [Act.put]
  refine wpAnyH_take (i := 9) (v := ?va9) rfl (by kernel_rfl) (by kernel_rfl) (by kernel_rfl) (fun _ _ _ h => h) (Or.inl ⟨by rfl, ?hya9⟩) (by assumption) ?resta9
  case hya9 => intro w hSw; (try dsimp only at hSw); go_simp; (try with_reducible rfl)
  simp only [Act.put]
  refine wpAnyH_take (i := 10) (v := ?va10) rfl (by kernel_rfl) (by kernel_rfl) (by kernel_rfl) (fun _ _ _ h => h) (Or.inl ⟨by rfl, ?hya10⟩) (by assumption) ?resta10
  case hya10 => intro w hSw; (try dsimp only at hSw); go_simp; (try with_reducible rfl)
  simp only [Act.put]
  refine wpAnyH_take (i := 11) (v := ?va11) rfl (by kernel_rfl) (by kernel_rfl) (by kernel_rfl) (fun _ _ _ h => h) (Or.inl ⟨by rfl, ?hya11⟩) (by assumption) ?resta11
  case hya11 => intro w hSw; (try dsimp only at hSw); go_simp; (try with_reducible rfl)
  simp only [Act.put]
  refine wpAnyH_take (i := 12) (v := ?va12) rfl (by kernel_rfl) (by kernel_rfl) (by kernel_rfl) (fun _ _ _ h => h) (Or.inl ⟨by rfl, ?hya12⟩) (by assumption) ?resta12
  case hya12 => intro w hSw; (try dsimp only at hSw); go_simp; (try with_reducible rfl)
  simp only [Act.put]
  refine wpAnyH_take (i := 13) (v := ?va13) rfl (by kernel_rfl) (by kernel_rfl) (by kernel_rfl) (fun _ _ _ h => h) (Or.inl ⟨by rfl, ?hya13⟩) (by assumption) ?resta13
  case hya13 => intro w hSw; (try dsimp only at hSw); go_simp; (try with_reducible rfl)
  simp only [Act.put]
  refine wpAnyH_take (i := 14) (v := ?va14) rfl (by kernel_rfl) (by kernel_rfl) (by kernel_rfl) (fun _ _ _ h => h) (Or.inl ⟨by rfl, ?hya14⟩) (by assumption) ?resta14
  case hya14 => intro w hSw; (try dsimp only at hSw); go_simp; (try with_reducible rfl)
  simp only [Act.put]
  refine wpAnyH_take (i := 15) (v := ?va15) rfl (by kernel_rfl) (by kernel_rfl) (by kernel_rfl) (fun _ _ _ h => h) (Or.inl ⟨by rfl, ?hya15⟩) (by assumption) ?resta15
  case hya15 => intro w hSw; (try dsimp only at hSw); go_simp; (try with_reducible rfl)
  simp only [Act.put]
  refine wpAnyH_take (i := 16) (v := ?va16) rfl (by kernel_rfl) (by kernel_rfl) (by kernel_rfl) (fun _ _ _ h => h) (Or.inl ⟨by rfl, ?hya16⟩) (by assumption) ?resta16
  case hya16 => intro w hSw; (try dsimp only at hSw); go_simp; (try with_reducible rfl)
  simp only [Act.put]
  refine wpAnyH_take (i := 17) (v := ?va17) rfl (by kernel_rfl) (by kernel_rfl) (by kernel_rfl) (fun _ _ _ h => h) (Or.inl ⟨by rfl, ?hya17⟩) (by assumption) ?resta17
  case hya17 => intro w hSw; (try dsimp only at hSw); go_simp; (try with_reducible rfl)
  simp only [Act.put]
  refine wpAnyH_take (i := 18) (v := ?va18) rfl (by kernel_rfl) (by kernel_rfl) (by kernel_rfl) (fun _ _ _ h => h) (Or.inl ⟨by rfl, ?hya18⟩) (by assumption) ?resta18
  case hya18 => intro w hSw; (try dsimp only at hSw); go_simp; (try with_reducible rfl)
  simp only [Act.put]
  refine wpAnyH_take (i := 19) (v := ?va19) rfl (by kernel_rfl) (by kernel_rfl) (by kernel_rfl) (fun _ _ _ h => h) (Or.inl ⟨by rfl, ?hya19⟩) (by assumption) ?resta19
  case hya19 => intro w hSw; (try dsimp only at hSw); go_simp; (try with_reducible rfl)
  simp only [Act.put]
  refine wpAnyH_take (i := 20) (v := ?va20) rfl (by kernel_rfl) (by kernel_rfl) (by kernel_rfl) (fun _ _ _ h => h) (Or.inl ⟨by rfl, ?hya20⟩) (by assumption) ?resta20
  case hya20 => intro w hSw; (try dsimp only at hSw); go_simp; (try with_reducible rfl)
  simp only [Act.put]
  refine wpAnyH_ready (rs := [4, 21]) (by kernel_rfl) (by simp) ?_
  refine AllReadyH.cons rfl (fun K hK => ?_) (AllReadyH.cons rfl (fun K hK => ?_) AllReadyH.nil)
  · go_simp
    refine hK.out _ _ (by exact hHeld) (fun hHeld => ?_)
    clear hK K
    refine wpAnyH_ready (rs := [21]) (by kernel_rfl) (by simp) ?_
    refine AllReadyH.cons rfl (fun K hK => ?_) AllReadyH.nil
    go_simp
    refine hK.out _ _ (by exact held3_alloc hHeld _) (fun hHeld => ?_)
    clear hK K
    refine wpAnyH_ready (rs := [22]) (by kernel_rfl) (by simp) ?_
    refine AllReadyH.cons rfl (fun K hK => ?_) AllReadyH.nil
    refine step_grows_at 96 rfl rfl (.tmp 78) (.tmp 95) 26 rfl 3 i0 (.int .i64 0) 1 8 Try.underlying26 hi hz0 hz1 hz2 rfl (by decide) none 0 0 [] (by simp [Act.eval]) (by simp) rfl (by simp) ⟨wf.heap.size, 0, none⟩ 4 4 [.int .i64 1, .int .i64 1, .int .i64 1, .int .i64 1] (by simp [Act.eval]) rfl (World.news_of_block (cs := #[.int .i64 1, .int .i64 1, .int .i64 1, .int .i64 1]) (heap_alloc_new wf _)) (by intro u hu2; simp at hu2; subst hu2; rfl) (by omega) (by unfold maxLen; omega) (by omega) ?_
    intro vg wg howng hgrowg
    obtain ⟨gg, capg, hvg, _, _⟩ := howng.form (by omega)
    rw [hvg]
    have hc3g := (grow_below' hgrowg).cell (p := ⟨D, 3, none⟩) hdz
    rw [hc3] at hc3g
    refine hK.out _ _ (held3_grown hHeld hgrowg) (fun hHeld => ?_)
    clear hK K
    refine wpAnyH_take (i := 23) (v := ?vb23) rfl (by kernel_rfl) (by kernel_rfl) (by kernel_rfl) (fun _ _ _ h => h) (Or.inl ⟨by rfl, ?hyb23⟩) (by assumption) ?restb23
    case hyb23 => intro w hSw; (try dsimp only at hSw); go_simp; (try with_reducible rfl)
    simp only [Act.put]
    refine wpAnyH_take (i := 24) (v := ?vb24) rfl (by kernel_rfl) (by kernel_rfl) (by kernel_rfl) (fun _ _ _ h => h) (Or.inl ⟨by rfl, ?hyb24⟩) (by assumption) ?restb24
    case hyb24 => intro w hSw; (try dsimp only at hSw); go_simp; (try with_reducible rfl)
    simp only [Act.put]
    refine wpAnyH_ready (rs := [25]) (by kernel_rfl) (by simp) ?_
    refine AllReadyH.cons rfl (fun K hK => ?_) AllReadyH.nil
    go_simp
    refine hK.out _ _ (by exact held3_set hHeld _) (fun hHeld => ?_)
    clear hK K
    refine wpAnyH_done (by kernel_rfl) ?_ _
    go_wp2
    go_end0
    exact ⟨rfl, hHeld.2.2⟩
  · go_simp
    refine hK.out _ _ (by exact held3_alloc hHeld _) (fun hHeld => ?_)
    clear hK K
    refine wpAnyH_ready (rs := [4]) (by kernel_rfl) (by simp) ?_
    refine AllReadyH.cons rfl (fun K hK => ?_) AllReadyH.nil
    go_simp
    refine hK.out _ _ (by exact hHeld) (fun hHeld => ?_)
    clear hK K
    refine wpAnyH_ready (rs := [22]) (by kernel_rfl) (by simp) ?_
    refine AllReadyH.cons rfl (fun K hK => ?_) AllReadyH.nil
    refine step_grows_at 96 rfl rfl (.tmp 78) (.tmp 95) 26 rfl 3 i0 (.int .i64 0) 1 8 Try.underlying26 hi hz0 hz1 hz2 rfl (by decide) none 0 0 [] (by simp [Act.eval]) (by simp) rfl (by simp) ⟨wf.heap.size, 0, none⟩ 4 4 [.int .i64 1, .int .i64 1, .int .i64 1, .int .i64 1] (by simp [Act.eval]) rfl (World.news_of_block (cs := #[.int .i64 1, .int .i64 1, .int .i64 1, .int .i64 1]) (heap_alloc_new wf _)) (by intro u hu2; simp at hu2; subst hu2; rfl) (by omega) (by unfold maxLen; omega) (by omega) ?_
    intro vg wg howng hgrowg
    obtain ⟨gg, capg, hvg, _, _⟩ := howng.form (by omega)
    rw [hvg]
    have hc3g := (grow_below' hgrowg).cell (p := ⟨D, 3, none⟩) hdz
    rw [hc3] at hc3g
    refine hK.out _ _ (held3_grown hHeld hgrowg) (fun hHeld => ?_)
    clear hK K
    refine wpAnyH_take (i := 23) (v := ?vc23) rfl (by kernel_rfl) (by kernel_rfl) (by kernel_rfl) (fun _ _ _ h => h) (Or.inl ⟨by rfl, ?hyc23⟩) (by assumption) ?restc23
    case hyc23 => intro w hSw; (try dsimp only at hSw); go_simp; (try with_reducible rfl)
    simp only [Act.put]
    refine wpAnyH_take (i := 24) (v := ?vc24) rfl (by kernel_rfl) (by kernel_rfl) (by kernel_rfl) (fun _ _ _ h => h) (Or.inl ⟨by rfl, ?hyc24⟩) (by assumption) ?restc24
    case hyc24 => intro w hSw; (try dsimp only at hSw); go_simp; (try with_reducible rfl)
    simp only [Act.put]
    refine wpAnyH_ready (rs := [25]) (by kernel_rfl) (by simp) ?_
    refine AllReadyH.cons rfl (fun K hK => ?_) AllReadyH.nil
    go_simp
    refine hK.out _ _ (by exact held3_set hHeld _) (fun hHeld => ?_)
    clear hK K
    refine wpAnyH_done (by kernel_rfl) ?_ _
    go_wp2
    go_end0
    exact ⟨rfl, hHeld.2.2⟩

end Go.Proofs.Ythkndfkkgncjfaa
