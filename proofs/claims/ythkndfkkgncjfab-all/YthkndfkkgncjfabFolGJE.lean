/- LexG, LexH, LexI, LexK, ShfB. -/
import Derived.Test.YthkndfkkgncjfabFolGJD
import Derived.Test.YthkndfkkgncjfabFolGJB
import Derived.Test.YthkndfkkgncjfabFolGJC
namespace Go.Proofs.Ythkndfkkgncjfab
open Go.RowKit
set_option maxRecDepth 100000

set_option maxHeartbeats 4000000 in
theorem merge_right (x : Nat) (b : Box) (l : Lx.Lex) (r : Lx.Rw) (w : World) (h : LexIn w x b l) (hf : Fits l) (q : Lx.Rw) (h1 : l.left < Lx.middle l) (h2 : l.right < Lx.fin l) (hr : l.runs[l.left]? = some r) (hq : l.runs[l.right]? = some q) (hl : Lx.le r q = false) :
    Calls Try.prog 95 #[.pointer (some ⟨x, 13, none⟩)] w fun e w' => e = .returned (.tuple #[]) ∧ ∃ b', LexIn w' x b' (Lx.merge l) ∧ b.same b' ∧ Only (lfoot x b) w w' ∧ ∀ k, lfoot x b' k → lfoot x b k ∨ w.heap.size ≤ k := by
  obtain ⟨i0, hi, hz0, hz1, hz2⟩ := info_parts Try.info159
  obtain ⟨ao, cap, e1, hc⟩ := h.runs.any
  obtain ⟨g, rfl, y0, y1, y2⟩ := hc _ _ hq
  obtain ⟨g'', eg, _, _, z2⟩ := hc _ _ hr
  simp only [Option.some.injEq, Addr.mk.injEq, and_true] at eg
  subst eg
  have hless : Op.bytesLess q.rest.data.toList r.rest.data.toList = true := by
    rw [Lx.rest_bytes, Lx.rest_bytes]
    unfold Lx.le at hl
    simpa using hl
  have d1 : decide ((l.left : Int) < (Lx.middle l : Int)) = true := by rw [decide_eq_true_eq]; omega
  have d1' : decide (l.left < Lx.middle l) = true := by rw [decide_eq_true_eq]; omega
  have d2 : decide ((Lx.fin l : Int) ≤ (l.right : Int)) = false := by rw [decide_eq_false_iff_not]; omega
  have d2' : decide (Lx.fin l ≤ l.right) = false := by rw [decide_eq_false_iff_not]; omega
  have g14 := h.box.g14
  have g15 := h.box.g15
  have g17 := h.box.g17
  have g18 := h.box.g18
  have g19 := h.box.g19
  rw [e1] at g14
  rw [h.wid] at g15
  rw [h.st] at g17
  rw [h.lf] at g18
  rw [h.rg] at g19
  obtain ⟨f1, f2, f3, f4, f5, f6, _⟩ := hf
  have HLE : ∀ w, Calls Try.prog 104 #[.int .i64 ((l.start : Int) + (l.width : Int)), .int .i64 (l.runs.length : Int)] w fun e w' => e = .returned (.int .i64 (Lx.middle l : Nat)) ∧ w' = w := fun w => by
    have := lesser_any ((l.start : Int) + (l.width : Int)) (l.runs.length : Int) w
    have hm : min ((l.start : Int) + (l.width : Int)) (l.runs.length : Int) = (Lx.middle l : Nat) := by unfold Lx.middle; omega
    rw [hm] at this; exact this
  have HRE : ∀ w, Calls Try.prog 104 #[.int .i64 ((Lx.middle l : Int) + (l.width : Int)), .int .i64 (l.runs.length : Int)] w fun e w' => e = .returned (.int .i64 (Lx.fin l : Nat)) ∧ w' = w := fun w => by
    have := lesser_any ((Lx.middle l : Int) + (l.width : Int)) (l.runs.length : Int) w
    have hm : min ((Lx.middle l : Int) + (l.width : Int)) (l.runs.length : Int) = (Lx.fin l : Nat) := by unfold Lx.fin; omega
    rw [hm] at this; exact this
  have hfl := fin_le l
  have hml := middle_le l
  have hll := (List.getElem?_eq_some_iff.1 hr).1
  have HL : Hid (LexIn w x b l) := h
  have HR : Hid (l.runs[l.right]? = some q) := hq
  have d3 : decide ((l.right : Int) < (Lx.fin l : Int)) = true := by rw [decide_eq_true_eq]; omega
  have d3' : decide (l.right < Lx.fin l) = true := by rw [decide_eq_true_eq]; omega
  have HT : Hid (¬ Lx.lefts l = true) := by
    show ¬ _
    unfold Lx.lefts
    rw [hr, hq]
    simp [h1, h2, hl]
  have hrl := (List.getElem?_eq_some_iff.1 hq).1
  have HLQ : Hid (Lx.le r q = false) := hl
  have HE : Hid (b.c1 = .slice (some ⟨g, 0, none⟩) l.runs.length cap) := e1
  have HC : Hid (∀ k r, l.runs[k]? = some r → ∃ g', some (⟨g, 0, none⟩ : Addr) = some ⟨g', 0, none⟩ ∧ w.cell? ⟨g', k * 3, none⟩ = some (.int .i64 (r.id : Int)) ∧ w.cell? ⟨g', k * 3 + 1, none⟩ = some (.int .i64 (r.at' : Int)) ∧ w.cell? ⟨g', k * 3 + 2, none⟩ = some (.string r.rest)) := hc
  have w1' : IntKind.i64.wrap ((l.start : Int) + (l.width : Int)) = (l.start : Int) + (l.width : Int) := by rw [IntKind.wrap_i64]; omega
  have w2' : IntKind.i64.wrap ((Lx.middle l : Int) + (l.width : Int)) = (Lx.middle l : Int) + (l.width : Int) := by rw [IntKind.wrap_i64]; omega
  clear h hr hl e1 hc hq
  have HLE' : Hid _ := HLE
  have HRE' : Hid _ := HRE
  clear HLE HRE
  go_enter Try.func95, Try.ntmps95
  go_wp2_with fail
  refine wp_region_held_drew (S := fun w' => w'.cell? ⟨x, 17, none⟩ = some (.int .i64 (l.start : Int)) ∧ w'.cell? ⟨x, 15, none⟩ = some (.int .i64 (l.width : Int)) ∧ w'.cell? ⟨x, 14, none⟩ = some (.slice (some ⟨g, 0, none⟩) l.runs.length cap)) (by kernel_rfl) ⟨g17, g15, g14⟩ (fun hHeld => ?_)
  refine wpAnyH_take (i := 0) (v := ?a0) rfl (by kernel_rfl) (by kernel_rfl) (by kernel_rfl) (fun _ _ _ h => h) (Or.inl ⟨by rfl, ?hya0⟩) (by assumption) ?resta0
  case hya0 => intro w hSw; (try dsimp only at hSw); go_simp; (try with_reducible rfl)
  simp only [Act.put]
  refine wpAnyH_take (i := 1) (v := ?a1) rfl (by kernel_rfl) (by kernel_rfl) (by kernel_rfl) (fun _ _ _ h => h) (Or.inl ⟨by rfl, ?hya1⟩) (by assumption) ?resta1
  case hya1 => intro w hSw; (try dsimp only at hSw); go_simp; (try with_reducible rfl)
  simp only [Act.put]
  refine wpAnyH_take (i := 2) (v := ?a2) rfl (by kernel_rfl) (by kernel_rfl) (by kernel_rfl) (fun _ _ _ h => h) (Or.inl ⟨by rfl, ?hya2⟩) (by assumption) ?resta2
  case hya2 => intro w hSw; (try dsimp only at hSw); go_simp; (try with_reducible rfl)
  simp only [Act.put]
  refine wpAnyH_take (i := 3) (v := ?a3) rfl (by kernel_rfl) (by kernel_rfl) (by kernel_rfl) (fun _ _ _ h => h) (Or.inl ⟨by rfl, ?hya3⟩) (by assumption) ?resta3
  case hya3 => intro w hSw; (try dsimp only at hSw); go_simp; (try with_reducible rfl)
  simp only [Act.put]
  refine wpAnyH_take (i := 4) (v := ?a4) rfl (by kernel_rfl) (by kernel_rfl) (by kernel_rfl) (fun _ _ _ h => h) (Or.inl ⟨by rfl, ?hya4⟩) (by assumption) ?resta4
  case hya4 => intro w hSw; (try dsimp only at hSw); go_simp; (try with_reducible rfl)
  simp only [Act.put]
  refine wpAnyH_take (i := 5) (v := ?a5) rfl (by kernel_rfl) (by kernel_rfl) (by kernel_rfl) (fun _ _ _ h => h) (Or.inl ⟨by rfl, ?hya5⟩) (by assumption) ?resta5
  case hya5 => intro w hSw; (try dsimp only at hSw); go_simp; (try with_reducible rfl)
  simp only [Act.put]
  refine wpAnyH_take (i := 6) (v := ?a6) rfl (by kernel_rfl) (by kernel_rfl) (by kernel_rfl) (fun _ _ _ h => h) (Or.inl ⟨by rfl, ?hya6⟩) (by assumption) ?resta6
  case hya6 => intro w hSw; (try dsimp only at hSw); go_simp; (try with_reducible rfl)
  simp only [Act.put]
  refine wpAnyH_take (i := 7) (v := ?a7) rfl (by kernel_rfl) (by kernel_rfl) (by kernel_rfl) (fun _ _ _ h => h) (Or.inl ⟨by rfl, ?hya7⟩) (by assumption) ?resta7
  case hya7 => intro w hSw; (try dsimp only at hSw); go_simp; (try with_reducible rfl)
  simp only [Act.put]
  refine wpAnyH_take (i := 8) (v := ?a8) rfl (by kernel_rfl) (by kernel_rfl) (by kernel_rfl) (fun _ _ _ h => h) (Or.inl ⟨by rfl, ?hya8⟩) (by assumption) ?resta8
  case hya8 => intro w hSw; (try dsimp only at hSw); go_simp; (try with_reducible rfl)
  simp only [Act.put]
  refine wpAnyH_take (i := 9) (v := ?a9) rfl (by kernel_rfl) (by kernel_rfl) (by kernel_rfl) (fun _ _ _ h => h) (Or.inl ⟨by rfl, ?hya9⟩) (by assumption) ?resta9
  case hya9 => intro w hSw; (try dsimp only at hSw); go_simp; (try with_reducible rfl)
  simp only [Act.put]
  refine wpAnyH_take (i := 10) (v := ?a10) rfl (by kernel_rfl) (by kernel_rfl) (by kernel_rfl) (fun _ _ _ h => h) (Or.inl ⟨by rfl, ?hya10⟩) (by assumption) ?resta10
  case hya10 => intro w hSw; (try dsimp only at hSw); go_simp; (try with_reducible rfl)
  simp only [Act.put]
  refine wpAnyH_take (i := 11) (v := ?a11) rfl (by kernel_rfl) (by kernel_rfl) (by kernel_rfl) (fun _ _ _ h => h) (Or.inl ⟨by rfl, ?hya11⟩) (by assumption) ?resta11
  case hya11 => intro w hSw; (try dsimp only at hSw); go_simp; (try with_reducible rfl)
  simp only [Act.put]
  refine wpAnyH_take (i := 12) (v := ?a12) rfl (by kernel_rfl) (by kernel_rfl) (by kernel_rfl) (fun _ _ _ h => h) (Or.inl ⟨by rfl, ?hya12⟩) (by assumption) ?resta12
  case hya12 => intro w hSw; (try dsimp only at hSw); go_simp; (try with_reducible rfl)
  simp only [Act.put]
  refine wpAnyH_take (i := 13) (v := ?a13) rfl (by kernel_rfl) (by kernel_rfl) (by kernel_rfl) (fun _ _ _ h => h) (Or.inl ⟨by rfl, ?hya13⟩) (by assumption) ?resta13
  case hya13 => intro w hSw; (try dsimp only at hSw); go_simp; (try with_reducible rfl)
  simp only [Act.put]
  refine wpAnyH_ready (rs := [14]) (by kernel_rfl) (by simp) ?_
  refine AllReadyH.cons rfl (fun K hK => ?_) AllReadyH.nil
  go_simp
  refine (HLE'.out _).mono ?_
  rintro e w3 ⟨rfl, hw3⟩
  rw [hw3]; clear hw3
  refine hK.out _ _ ⟨g17, g15, g14⟩ (fun hHeld => ?_)
  clear hK K
  refine wpAnyH_ready (rs := [15]) (by kernel_rfl) (by simp) ?_
  refine AllReadyH.cons rfl (fun K hK => ?_) AllReadyH.nil
  go_simp
  refine hK.out _ _ ⟨g17, g15, g14⟩ (fun hHeld => ?_)
  clear hK K
  refine wpAnyH_done (by kernel_rfl) ?_ _
  clear hHeld
  go_wp2_with fail
  refine wp_region_held_drew (S := fun w' => w'.cell? ⟨x, 15, none⟩ = some (.int .i64 (l.width : Int)) ∧ w'.cell? ⟨x, 14, none⟩ = some (.slice (some ⟨g, 0, none⟩) l.runs.length cap)) (by kernel_rfl) ⟨g15, g14⟩ (fun hHeld => ?_)
  refine wpAnyH_take (i := 0) (v := ?b0) rfl (by kernel_rfl) (by kernel_rfl) (by kernel_rfl) (fun _ _ _ h => h) (Or.inl ⟨by rfl, ?hyb0⟩) (by assumption) ?restb0
  case hyb0 => intro w hSw; (try dsimp only at hSw); go_simp; (try with_reducible rfl)
  simp only [Act.put]
  refine wpAnyH_take (i := 1) (v := ?b1) rfl (by kernel_rfl) (by kernel_rfl) (by kernel_rfl) (fun _ _ _ h => h) (Or.inl ⟨by rfl, ?hyb1⟩) (by assumption) ?restb1
  case hyb1 => intro w hSw; (try dsimp only at hSw); go_simp; (try with_reducible rfl)
  simp only [Act.put]
  refine wpAnyH_take (i := 2) (v := ?b2) rfl (by kernel_rfl) (by kernel_rfl) (by kernel_rfl) (fun _ _ _ h => h) (Or.inl ⟨by rfl, ?hyb2⟩) (by assumption) ?restb2
  case hyb2 => intro w hSw; (try dsimp only at hSw); go_simp; (try with_reducible rfl)
  simp only [Act.put]
  refine wpAnyH_take (i := 3) (v := ?b3) rfl (by kernel_rfl) (by kernel_rfl) (by kernel_rfl) (fun _ _ _ h => h) (Or.inl ⟨by rfl, ?hyb3⟩) (by assumption) ?restb3
  case hyb3 => intro w hSw; (try dsimp only at hSw); go_simp; (try with_reducible rfl)
  simp only [Act.put]
  refine wpAnyH_take (i := 4) (v := ?b4) rfl (by kernel_rfl) (by kernel_rfl) (by kernel_rfl) (fun _ _ _ h => h) (Or.inl ⟨by rfl, ?hyb4⟩) (by assumption) ?restb4
  case hyb4 => intro w hSw; (try dsimp only at hSw); go_simp; (try with_reducible rfl)
  simp only [Act.put]
  refine wpAnyH_take (i := 5) (v := ?b5) rfl (by kernel_rfl) (by kernel_rfl) (by kernel_rfl) (fun _ _ _ h => h) (Or.inl ⟨by rfl, ?hyb5⟩) (by assumption) ?restb5
  case hyb5 => intro w hSw; (try dsimp only at hSw); go_simp; (try with_reducible rfl)
  simp only [Act.put]
  refine wpAnyH_take (i := 6) (v := ?b6) rfl (by kernel_rfl) (by kernel_rfl) (by kernel_rfl) (fun _ _ _ h => h) (Or.inl ⟨by rfl, ?hyb6⟩) (by assumption) ?restb6
  case hyb6 => intro w hSw; (try dsimp only at hSw); go_simp; (try with_reducible rfl)
  simp only [Act.put]
  refine wpAnyH_take (i := 7) (v := ?b7) rfl (by kernel_rfl) (by kernel_rfl) (by kernel_rfl) (fun _ _ _ h => h) (Or.inl ⟨by rfl, ?hyb7⟩) (by assumption) ?restb7
  case hyb7 => intro w hSw; (try dsimp only at hSw); go_simp; (try with_reducible rfl)
  simp only [Act.put]
  refine wpAnyH_take (i := 8) (v := ?b8) rfl (by kernel_rfl) (by kernel_rfl) (by kernel_rfl) (fun _ _ _ h => h) (Or.inl ⟨by rfl, ?hyb8⟩) (by assumption) ?restb8
  case hyb8 => intro w hSw; (try dsimp only at hSw); go_simp; (try with_reducible rfl)
  simp only [Act.put]
  refine wpAnyH_take (i := 9) (v := ?b9) rfl (by kernel_rfl) (by kernel_rfl) (by kernel_rfl) (fun _ _ _ h => h) (Or.inl ⟨by rfl, ?hyb9⟩) (by assumption) ?restb9
  case hyb9 => intro w hSw; (try dsimp only at hSw); go_simp; (try with_reducible rfl)
  simp only [Act.put]
  refine wpAnyH_take (i := 10) (v := ?b10) rfl (by kernel_rfl) (by kernel_rfl) (by kernel_rfl) (fun _ _ _ h => h) (Or.inl ⟨by rfl, ?hyb10⟩) (by assumption) ?restb10
  case hyb10 => intro w hSw; (try dsimp only at hSw); go_simp; (try with_reducible rfl)
  simp only [Act.put]
  refine wpAnyH_ready (rs := [11]) (by kernel_rfl) (by simp) ?_
  refine AllReadyH.cons rfl (fun K hK => ?_) AllReadyH.nil
  go_simp
  refine (HRE'.out _).mono ?_
  rintro e w3 ⟨rfl, hw3⟩
  rw [hw3]; clear hw3
  refine hK.out _ _ ⟨g15, g14⟩ (fun hHeld => ?_)
  clear hK K
  refine wpAnyH_ready (rs := [12]) (by kernel_rfl) (by simp) ?_
  refine AllReadyH.cons rfl (fun K hK => ?_) AllReadyH.nil
  go_simp
  refine hK.out _ _ ⟨g15, g14⟩ (fun hHeld => ?_)
  clear hK K
  refine wpAnyH_done (by kernel_rfl) ?_ _
  clear hHeld HLE' HRE'
  go_wp2_with fail
  go_quiet (fail)
  go_wp2_with fail
  · exfalso
    rename_i hcon _ _
    exact leq_false r q HLQ.out hcon
  generalize hW1 : w.drewN (1 + (1 + nq)) = w1
  have hb1 : Below w.heap.size w w1 := by rw [← hW1]; exact below_drewN (Below.refl _ _) _
  have hsz1 : w1.heap.size = w.heap.size := by rw [← hW1]; rfl
  have HB1 : Hid (Below w.heap.size w w1) := hb1
  have HL1 : Hid (LexIn w1 x b l) := HL.out.below hb1
  have k14 : w1.cell? ⟨x, 14, none⟩ = some (.slice (some ⟨g, 0, none⟩) l.runs.length cap) := cell_later hb1 g14
  have kS : w1.cell? ⟨x, 19, none⟩ = some (.int .i64 (l.right : Int)) := cell_later hb1 g19
  have k0 : w1.cell? ⟨g, l.right * 3, none⟩ = some (.int .i64 (q.id : Int)) := cell_later hb1 y0
  have k1 : w1.cell? ⟨g, l.right * 3 + 1, none⟩ = some (.int .i64 (q.at' : Int)) := cell_later hb1 y1
  have k2 : w1.cell? ⟨g, l.right * 3 + 2, none⟩ = some (.string q.rest) := cell_later hb1 y2
  have k16 := HL1.out.box.g16
  have hmg1 := HL1.out.mg
  clear hW1 hb1 g14 g15 g17 g18 g19 y0 y1 y2 z2 hless
  have hba : ∀ o, Below w1.heap.size w1 (w1.alloc o).drew := fun o => ((Below.refl _ _).alloc (Nat.le_refl _) o).drew
  have hS1 : ∀ o, (w1.alloc o).drew.cell? ⟨x, 14, none⟩ = some (.slice (some ⟨g, 0, none⟩) l.runs.length cap) ∧ (w1.alloc o).drew.cell? ⟨x, 19, none⟩ = some (.int .i64 (l.right : Int)) ∧ (w1.alloc o).drew.cell? ⟨g, l.right * 3, none⟩ = some (.int .i64 (q.id : Int)) ∧ (w1.alloc o).drew.cell? ⟨g, l.right * 3 + 1, none⟩ = some (.int .i64 (q.at' : Int)) ∧ (w1.alloc o).drew.cell? ⟨g, l.right * 3 + 2, none⟩ = some (.string q.rest) := fun o => ⟨cell_later (hba o) k14, cell_later (hba o) kS, cell_later (hba o) k0, cell_later (hba o) k1, cell_later (hba o) k2⟩
  have g12 : ∀ o, (w1.alloc o).drew.cell? ⟨x, 16, none⟩ = some b.c3 := fun o => cell_later (hba o) k16
  refine wp_region_held_drew (S := fun w' => w'.cell? ⟨x, 14, none⟩ = some (.slice (some ⟨g, 0, none⟩) l.runs.length cap) ∧ w'.cell? ⟨x, 19, none⟩ = some (.int .i64 (l.right : Int)) ∧ w'.cell? ⟨g, l.right * 3, none⟩ = some (.int .i64 (q.id : Int)) ∧ w'.cell? ⟨g, l.right * 3 + 1, none⟩ = some (.int .i64 (q.at' : Int)) ∧ w'.cell? ⟨g, l.right * 3 + 2, none⟩ = some (.string q.rest)) (by kernel_rfl) ⟨k14, kS, k0, k1, k2⟩ (fun hHeld => ?_)
  refine wpAnyH_take (i := 0) (v := ?c0) rfl (by kernel_rfl) (by kernel_rfl) (by kernel_rfl) (fun _ _ _ h => h) (Or.inl ⟨by rfl, ?hyc0⟩) (by assumption) ?restc0
  case hyc0 => intro w hSw; (try dsimp only at hSw); go_simp; (try with_reducible rfl)
  simp only [Act.put]
  refine wpAnyH_take (i := 1) (v := ?c1) rfl (by kernel_rfl) (by kernel_rfl) (by kernel_rfl) (fun _ _ _ h => h) (Or.inl ⟨by rfl, ?hyc1⟩) (by assumption) ?restc1
  case hyc1 => intro w hSw; (try dsimp only at hSw); go_simp; (try with_reducible rfl)
  simp only [Act.put]
  refine wpAnyH_take (i := 2) (v := ?c2) rfl (by kernel_rfl) (by kernel_rfl) (by kernel_rfl) (fun _ _ _ h => h) (Or.inl ⟨by rfl, ?hyc2⟩) (by assumption) ?restc2
  case hyc2 => intro w hSw; (try dsimp only at hSw); go_simp; (try with_reducible rfl)
  simp only [Act.put]
  refine wpAnyH_take (i := 3) (v := ?c3) rfl (by kernel_rfl) (by kernel_rfl) (by kernel_rfl) (fun _ _ _ h => h) (Or.inl ⟨by rfl, ?hyc3⟩) (by assumption) ?restc3
  case hyc3 => intro w hSw; (try dsimp only at hSw); go_simp; (try with_reducible rfl)
  simp only [Act.put]
  refine wpAnyH_take (i := 5) (v := ?c5) rfl (by kernel_rfl) (by kernel_rfl) (by kernel_rfl) (fun _ _ _ h => h) (Or.inl ⟨by rfl, ?hyc5⟩) (by assumption) ?restc5
  case hyc5 => intro w hSw; (try dsimp only at hSw); go_simp; (try with_reducible rfl)
  simp only [Act.put]
  refine wpAnyH_take (i := 6) (v := ?c6) rfl (by kernel_rfl) (by kernel_rfl) (by kernel_rfl) (fun _ _ _ h => h) (Or.inl ⟨by rfl, ?hyc6⟩) (by assumption) ?restc6
  case hyc6 => intro w hSw; (try dsimp only at hSw); go_simp; (try with_reducible rfl)
  simp only [Act.put]
  refine wpAnyH_take (i := 7) (v := ?c7) rfl (by kernel_rfl) (by kernel_rfl) (by kernel_rfl) (fun _ _ _ h => h) (Or.inl ⟨by rfl, ?hyc7⟩) (by assumption) ?restc7
  case hyc7 => intro w hSw; (try dsimp only at hSw); go_simp; (try with_reducible rfl)
  simp only [Act.put]
  refine wpAnyH_take (i := 8) (v := ?c8) rfl (by kernel_rfl) (by kernel_rfl) (by kernel_rfl) (fun _ _ _ h => h) (Or.inl ⟨by rfl, ?hyc8⟩) (by assumption) ?restc8
  case hyc8 => intro w hSw; (try dsimp only at hSw); go_simp; (try with_reducible rfl)
  simp only [Act.put]
  refine wpAnyH_take (i := 9) (v := ?c9) rfl (by kernel_rfl) (by kernel_rfl) (by kernel_rfl) (fun _ _ _ h => h) (Or.inl ⟨by rfl, ?hyc9⟩) (by assumption) ?restc9
  case hyc9 => intro w hSw; (try dsimp only at hSw); go_simp; (try with_reducible rfl)
  simp only [Act.put]
  refine wpAnyH_take (i := 10) (v := ?c10) rfl (by kernel_rfl) (by kernel_rfl) (by kernel_rfl) (fun _ _ _ h => h) (Or.inl ⟨by rfl, ?hyc10⟩) (by assumption) ?restc10
  case hyc10 => intro w hSw; (try dsimp only at hSw); go_simp; (try with_reducible rfl)
  simp only [Act.put]
  refine wpAnyH_take (i := 11) (v := ?c11) rfl (by kernel_rfl) (by kernel_rfl) (by kernel_rfl) (fun _ _ _ h => h) (Or.inl ⟨by rfl, ?hyc11⟩) (by assumption) ?restc11
  case hyc11 => intro w hSw; (try dsimp only at hSw); go_simp; (try with_reducible rfl)
  simp only [Act.put]
  refine wpAnyH_take (i := 12) (v := ?c12) rfl (by kernel_rfl) (by kernel_rfl) (by kernel_rfl) (fun _ _ _ h => h) (Or.inl ⟨by rfl, ?hyc12⟩) (by assumption) ?restc12
  case hyc12 => intro w hSw; (try dsimp only at hSw); go_simp; (try with_reducible rfl)
  simp only [Act.put]
  refine wpAnyH_take (i := 13) (v := ?c13) rfl (by kernel_rfl) (by kernel_rfl) (by kernel_rfl) (fun _ _ _ h => h) (Or.inl ⟨by rfl, ?hyc13⟩) (by assumption) ?restc13
  case hyc13 => intro w hSw; (try dsimp only at hSw); go_simp; (try with_reducible rfl)
  simp only [Act.put]
  refine wpAnyH_take (i := 14) (v := ?c14) rfl (by kernel_rfl) (by kernel_rfl) (by kernel_rfl) (fun _ _ _ h => h) (Or.inl ⟨by rfl, ?hyc14⟩) (by assumption) ?restc14
  case hyc14 => intro w hSw; (try dsimp only at hSw); go_simp; (try with_reducible rfl)
  simp only [Act.put]
  refine wpAnyH_ready (rs := [4, 15]) (by kernel_rfl) (by simp) ?_
  refine AllReadyH.cons rfl (fun K hK => ?A) (AllReadyH.cons rfl (fun K hK => ?B) AllReadyH.nil)
  case' A =>
    go_simp
    refine hK.out _ _ (by exact hHeld) (fun hHeld => ?_)
    clear hK K
    refine wpAnyH_ready (rs := [15]) (by kernel_rfl) (by simp) ?_
    refine AllReadyH.cons rfl (fun K hK => ?_) AllReadyH.nil
    go_simp
    refine hK.out _ _ (hS1 _) (fun hHeld => ?_)
    clear hK K
  case' B =>
    go_simp
    refine hK.out _ _ (hS1 _) (fun hHeld => ?_)
    clear hK K
    refine wpAnyH_ready (rs := [4]) (by kernel_rfl) (by simp) ?_
    refine AllReadyH.cons rfl (fun K hK => ?_) AllReadyH.nil
    have g13 := g12 (.cells #[.int .i64 (q.id : Int), .int .i64 (q.at' : Int), .string q.rest] 159)
    go_simp
    refine hK.out _ _ (by exact hHeld) (fun hHeld => ?_)
    clear hK K g13
  · skip
    refine wpAnyH_ready (rs := [16]) (by kernel_rfl) (by simp) ?_
    refine AllReadyH.cons rfl (fun K hK => ?_) AllReadyH.nil
    refine step_lies_at 118 rfl (w1.heap.size + 1) rfl (.tmp 106) (.tmp 117) 60 rfl 0 159 i0 (.agg #[.int .i64 0, .int .i64 0, .string ⟨#[]⟩]) 3 32 Try.underlying60 hi hz0 hz1 hz2 rfl (by decide) b.c3 l.merged.length (RW l.merged) (by simp [Act.eval]) (World.ownsRow.alloc hmg1 _) ⟨w1.heap.size, 0, none⟩ 1 1 (RW1 q) (by simp [Act.eval]) rfl (World.news_of_block (cs := #[.int .i64 (q.id : Int), .int .i64 (q.at' : Int), .string q.rest]) (heap_alloc_new w1 _)) (by intro u hu2; simp [RW1] at hu2; rcases hu2 with rfl | rfl | rfl <;> rfl) (by decide) (by unfold maxLen; omega) (by omega) (Nat.zero_le _) (by simp) ?_
    intro g' cap' w3 hown3 hgrow0 hat3 hlt3
    have RM := HL1.out.merged_more hown3 hgrow0 hat3
    have HR3 : Hid (LexIn _ _ _ _) := RM.2.1
    have HO : Hid (Only _ _ _) := RM.2.2.1
    have HQ : Hid (∀ k, _ → _) := RM.2.2.2
    have c33 := RM.1.g16
    have f33 := RM.1.free 16
    have hnx : some x ≠ b.c3.ownBlock := fun e => HL1.out.mg.apart HL1.out.box e.symm
    have hng : some g ≠ b.c3.ownBlock := fun e => HL.out.a3 g (by rw [HE.out]; rfl) e.symm
    have hgx : g ≠ x := fun e => HL.out.runs.apart HL.out.box (by rw [HE.out, e]; rfl)
    have m14 : w3.cell? ⟨x, 14, none⟩ = some (.slice (some ⟨g, 0, none⟩) l.runs.length cap) := World.grownBy.cell hgrow0 (hS1 _).1 hnx
    have mS : w3.cell? ⟨x, 19, none⟩ = some (.int .i64 (l.right : Int)) := World.grownBy.cell hgrow0 (hS1 _).2.1 hnx
    have m0 : w3.cell? ⟨g, l.right * 3, none⟩ = some (.int .i64 (q.id : Int)) := World.grownBy.cell hgrow0 (hS1 _).2.2.1 hng
    have m1 : w3.cell? ⟨g, l.right * 3 + 1, none⟩ = some (.int .i64 (q.at' : Int)) := World.grownBy.cell hgrow0 (hS1 _).2.2.2.1 hng
    have m2 : w3.cell? ⟨g, l.right * 3 + 2, none⟩ = some (.string q.rest) := World.grownBy.cell hgrow0 (hS1 _).2.2.2.2 hng
    clear RM hown3 hgrow0 hHeld g12 hS1 hba k14 kS k0 k1 k2
    refine hK.out _ _ ⟨m14, mS, m0, m1, m2⟩ (fun hHeld => ?_)
    clear hK K
    refine wpAnyH_take (i := 17) (v := ?dq17) rfl (by kernel_rfl) (by kernel_rfl) (by kernel_rfl) (fun _ _ _ h => h) (Or.inl ⟨by rfl, ?hydq17⟩) (by assumption) ?restdq17
    case hydq17 => intro w hSw; (try dsimp only at hSw); go_simp; (try with_reducible rfl)
    simp only [Act.put]
    refine wpAnyH_take (i := 18) (v := ?dq18) rfl (by kernel_rfl) (by kernel_rfl) (by kernel_rfl) (fun _ _ _ h => h) (Or.inl ⟨by rfl, ?hydq18⟩) (by assumption) ?restdq18
    case hydq18 => intro w hSw; (try dsimp only at hSw); go_simp; (try with_reducible rfl)
    simp only [Act.put]
    refine wpAnyH_ready (rs := [19]) (by kernel_rfl) (by simp) ?_
    refine AllReadyH.cons rfl (fun K hK => ?_) AllReadyH.nil
    go_simp
    have hkp : ∀ a v, a ≠ (⟨x, 16, none⟩ : Addr) → w3.cell? a = some v → (w3.setCell ⟨x, 16, none⟩ (.slice (some ⟨g', 0, none⟩) (l.merged.length + 1) cap')).cell? a = some v := fun a v ha hv => by rw [World.cell?_setCell_other _ _ _ _ (fun e => ha e.symm)]; exact hv
    refine hK.out _ _ ⟨hkp _ _ (by simp) m14, hkp _ _ (by simp) mS, hkp _ _ (by simp) m0, hkp _ _ (by simp) m1, hkp _ _ (by simp) m2⟩ (fun hHeld => ?_)
    clear hK K m14 mS m0 m1 m2 c33 f33 hHeld hkp
    refine wpAnyH_done (by kernel_rfl) ?_ _
    generalize w3.setCell ⟨x, 16, none⟩ (.slice (some ⟨g', 0, none⟩) (l.merged.length + 1) cap') = w4 at *
    have q5 := HR3.out.box.g19
    have HS3 : Hid (b.c6 = .int .i64 (l.right : Int)) := HL.out.rg
    simp only [HS3.out] at q5
    have f5 := HR3.out.box.free 19
    have R5 := HR3.out.box.s19 (.int .i64 ((l.right : Int) + 1))
    have j16 := R5.g16
    have j14 := R5.g14
    simp only [HE.out] at j14
    have HOW : Hid (Only (lfoot x b) w w4) := (Only.of_below HB1.out).trans (HO.out)
    have HQW : Hid (∀ q, lfoot x { b with c3 := .slice (some ⟨g', 0, none⟩) (l.merged.length + 1) cap' } q → lfoot x b q ∨ w.heap.size ≤ q) := fun q hq => (HQ.out q hq).imp (fun h => h) (fun h => by omega)
    have HL5 : Hid (LexIn (w4.setCell ⟨x, 19, none⟩ (.int .i64 ((l.right : Int) + 1))) x { b with c3 := .slice (some ⟨g', 0, none⟩) (l.merged.length + 1) cap', c6 := .int .i64 ((l.right : Int) + 1) } { l with merged := l.merged ++ [q], right := l.right + 1 }) := LexIn.rebox HR3.out (Only.setCell _ _ rfl) R5 rfl rfl rfl rfl rfl rfl HL.out.wid HL.out.st HL.out.lf (by simp)
    have HMV : Hid (Lx.merge l = Lx.settle { l with merged := l.merged ++ [q], right := l.right + 1 } (Lx.fin l)) := by
      show Lx.merge l = _
      unfold Lx.merge Lx.moved
      rw [if_neg HT.out, if_pos h2, HR.out]
      rfl
    have HO5 : Hid (Only (lfoot x b) w (w4.setCell ⟨x, 19, none⟩ (.int .i64 ((l.right : Int) + 1)))) := HOW.out.trans (Only.setCell _ _ (.inl rfl))
    clear HO HQ
    have hmlen : (l.merged ++ [q]).length = l.merged.length + 1 := by simp
    by_cases c1 : l.merged.length + 1 < Lx.fin l
    · have u1 : decide (((l.merged.length : Int) + 1) < (Lx.fin l : Int)) = true := by rw [decide_eq_true_eq]; omega
      have u2 : decide (l.merged.length + 1 < Lx.fin l) = true := by rw [decide_eq_true_eq]; omega
      go_wp2_with fail
      (try simp only [Exit.inBlock, Exit.then])
      refine bodyPost_ret (results_none rfl _ _ _) rfl ?_
      refine ⟨rfl, { b with c3 := .slice (some ⟨g', 0, none⟩) (l.merged.length + 1) cap', c6 := .int .i64 ((l.right : Int) + 1) }, ?_, rfl, HO5.out, fun q hq => HQW.out q hq⟩
      rw [HMV.out, Lx.settle, hmlen, if_pos c1]
      exact HL5.out
    · have u1 : decide (((l.merged.length : Int) + 1) < (Lx.fin l : Int)) = false := by rw [decide_eq_false_iff_not]; omega
      have u2 : decide (l.merged.length + 1 < Lx.fin l) = false := by rw [decide_eq_false_iff_not]; omega
      by_cases c2 : Lx.fin l < l.runs.length
      · have u3 : decide ((Lx.fin l : Int) < (l.runs.length : Int)) = true := by rw [decide_eq_true_eq]; omega
        have u4 : decide (Lx.fin l < l.runs.length) = true := by rw [decide_eq_true_eq]; omega
        have HP : Hid (Calls Try.prog 103 #[.pointer (some ⟨x, 13, none⟩), .int .i64 (Lx.fin l : Nat)] _ _) := pair_any x _ (some ⟨g, 0, none⟩) l.runs.length cap l.width (Lx.fin l) _ R5 HE.out HL.out.wid (by omega) (by omega)
        clear R5
        go_wp2_with fail
        refine HP.out.mono ?_
        rintro e w6 ⟨rfl, hb6, ho6⟩
        go_wp2
        go_end0
        refine ⟨rfl, { b with c3 := .slice (some ⟨g', 0, none⟩) (l.merged.length + 1) cap', c4 := .int .i64 (Lx.fin l : Nat), c5 := .int .i64 (Lx.fin l : Nat), c6 := .int .i64 (min (Lx.fin l + l.width) l.runs.length : Nat) }, ?_, rfl, HO5.out.trans (ho6.mono (fun q hq => .inl hq)), fun q hq => HQW.out q hq⟩
        rw [HMV.out, Lx.settle, hmlen, if_neg c1, if_pos c2]
        exact LexIn.rebox HL5.out ho6 hb6 rfl rfl rfl rfl rfl rfl HL.out.wid rfl rfl rfl
      · have u3 : decide ((Lx.fin l : Int) < (l.runs.length : Int)) = false := by rw [decide_eq_false_iff_not]; omega
        have u4 : decide (Lx.fin l < l.runs.length) = false := by rw [decide_eq_false_iff_not]; omega
        have HP : Hid (Calls Try.prog 105 #[.pointer (some ⟨x, 13, none⟩)] _ _) := double_any x _ (some ⟨g', 0, none⟩) (l.merged.length + 1) cap' l.width _ R5 rfl HL.out.wid (by omega)
        clear R5
        go_wp2_with fail
        refine HP.out.mono ?_
        rintro e w6 ⟨rfl, hb6, ho6⟩
        go_wp2
        go_end0
        refine ⟨rfl, { b with c1 := .slice (some ⟨g', 0, none⟩) (l.merged.length + 1) cap', c2 := .int .i64 (2 * l.width : Nat), c3 := .slice none 0 0, c4 := .int .i64 0, c5 := .int .i64 0, c6 := .int .i64 (min (2 * l.width) (l.merged.length + 1) : Nat) }, ?_, rfl, HO5.out.trans (ho6.mono (fun q hq => .inl hq)), fun q hq => HQW.out q ?_⟩
        · rw [HMV.out, Lx.settle, hmlen, if_neg c1, if_neg c2]
          exact LexIn.doubled HL5.out ho6 hb6 rfl rfl rfl rfl rfl rfl (by rw [hmlen])
        · rcases hq with hq | hq | hq | hq
          · exact .inl hq
          · exact .inr (.inl hq)
          · exact .inr (.inr (.inr hq))
          · cases hq
  · skip
    refine wpAnyH_ready (rs := [16]) (by kernel_rfl) (by simp) ?_
    refine AllReadyH.cons rfl (fun K hK => ?_) AllReadyH.nil
    refine step_lies_at 118 rfl (w1.heap.size + 1) rfl (.tmp 106) (.tmp 117) 60 rfl 0 159 i0 (.agg #[.int .i64 0, .int .i64 0, .string ⟨#[]⟩]) 3 32 Try.underlying60 hi hz0 hz1 hz2 rfl (by decide) b.c3 l.merged.length (RW l.merged) (by simp [Act.eval]) (World.ownsRow.alloc hmg1 _) ⟨w1.heap.size, 0, none⟩ 1 1 (RW1 q) (by simp [Act.eval]) rfl (World.news_of_block (cs := #[.int .i64 (q.id : Int), .int .i64 (q.at' : Int), .string q.rest]) (heap_alloc_new w1 _)) (by intro u hu2; simp [RW1] at hu2; rcases hu2 with rfl | rfl | rfl <;> rfl) (by decide) (by unfold maxLen; omega) (by omega) (Nat.zero_le _) (by simp) ?_
    intro g' cap' w3 hown3 hgrow0 hat3 hlt3
    have RM := HL1.out.merged_more hown3 hgrow0 hat3
    have HR3 : Hid (LexIn _ _ _ _) := RM.2.1
    have HO : Hid (Only _ _ _) := RM.2.2.1
    have HQ : Hid (∀ k, _ → _) := RM.2.2.2
    have c33 := RM.1.g16
    have f33 := RM.1.free 16
    have hnx : some x ≠ b.c3.ownBlock := fun e => HL1.out.mg.apart HL1.out.box e.symm
    have hng : some g ≠ b.c3.ownBlock := fun e => HL.out.a3 g (by rw [HE.out]; rfl) e.symm
    have hgx : g ≠ x := fun e => HL.out.runs.apart HL.out.box (by rw [HE.out, e]; rfl)
    have m14 : w3.cell? ⟨x, 14, none⟩ = some (.slice (some ⟨g, 0, none⟩) l.runs.length cap) := World.grownBy.cell hgrow0 (hS1 _).1 hnx
    have mS : w3.cell? ⟨x, 19, none⟩ = some (.int .i64 (l.right : Int)) := World.grownBy.cell hgrow0 (hS1 _).2.1 hnx
    have m0 : w3.cell? ⟨g, l.right * 3, none⟩ = some (.int .i64 (q.id : Int)) := World.grownBy.cell hgrow0 (hS1 _).2.2.1 hng
    have m1 : w3.cell? ⟨g, l.right * 3 + 1, none⟩ = some (.int .i64 (q.at' : Int)) := World.grownBy.cell hgrow0 (hS1 _).2.2.2.1 hng
    have m2 : w3.cell? ⟨g, l.right * 3 + 2, none⟩ = some (.string q.rest) := World.grownBy.cell hgrow0 (hS1 _).2.2.2.2 hng
    clear RM hown3 hgrow0 hHeld g12 hS1 hba k14 kS k0 k1 k2
    refine hK.out _ _ ⟨m14, mS, m0, m1, m2⟩ (fun hHeld => ?_)
    clear hK K
    refine wpAnyH_take (i := 17) (v := ?dqq17) rfl (by kernel_rfl) (by kernel_rfl) (by kernel_rfl) (fun _ _ _ h => h) (Or.inl ⟨by rfl, ?hydqq17⟩) (by assumption) ?restdqq17
    case hydqq17 => intro w hSw; (try dsimp only at hSw); go_simp; (try with_reducible rfl)
    simp only [Act.put]
    refine wpAnyH_take (i := 18) (v := ?dqq18) rfl (by kernel_rfl) (by kernel_rfl) (by kernel_rfl) (fun _ _ _ h => h) (Or.inl ⟨by rfl, ?hydqq18⟩) (by assumption) ?restdqq18
    case hydqq18 => intro w hSw; (try dsimp only at hSw); go_simp; (try with_reducible rfl)
    simp only [Act.put]
    refine wpAnyH_ready (rs := [19]) (by kernel_rfl) (by simp) ?_
    refine AllReadyH.cons rfl (fun K hK => ?_) AllReadyH.nil
    go_simp
    have hkp : ∀ a v, a ≠ (⟨x, 16, none⟩ : Addr) → w3.cell? a = some v → (w3.setCell ⟨x, 16, none⟩ (.slice (some ⟨g', 0, none⟩) (l.merged.length + 1) cap')).cell? a = some v := fun a v ha hv => by rw [World.cell?_setCell_other _ _ _ _ (fun e => ha e.symm)]; exact hv
    refine hK.out _ _ ⟨hkp _ _ (by simp) m14, hkp _ _ (by simp) mS, hkp _ _ (by simp) m0, hkp _ _ (by simp) m1, hkp _ _ (by simp) m2⟩ (fun hHeld => ?_)
    clear hK K m14 mS m0 m1 m2 c33 f33 hHeld hkp
    refine wpAnyH_done (by kernel_rfl) ?_ _
    generalize w3.setCell ⟨x, 16, none⟩ (.slice (some ⟨g', 0, none⟩) (l.merged.length + 1) cap') = w4 at *
    have q5 := HR3.out.box.g19
    have HS3 : Hid (b.c6 = .int .i64 (l.right : Int)) := HL.out.rg
    simp only [HS3.out] at q5
    have f5 := HR3.out.box.free 19
    have R5 := HR3.out.box.s19 (.int .i64 ((l.right : Int) + 1))
    have j16 := R5.g16
    have j14 := R5.g14
    simp only [HE.out] at j14
    have HOW : Hid (Only (lfoot x b) w w4) := (Only.of_below HB1.out).trans (HO.out)
    have HQW : Hid (∀ q, lfoot x { b with c3 := .slice (some ⟨g', 0, none⟩) (l.merged.length + 1) cap' } q → lfoot x b q ∨ w.heap.size ≤ q) := fun q hq => (HQ.out q hq).imp (fun h => h) (fun h => by omega)
    have HL5 : Hid (LexIn (w4.setCell ⟨x, 19, none⟩ (.int .i64 ((l.right : Int) + 1))) x { b with c3 := .slice (some ⟨g', 0, none⟩) (l.merged.length + 1) cap', c6 := .int .i64 ((l.right : Int) + 1) } { l with merged := l.merged ++ [q], right := l.right + 1 }) := LexIn.rebox HR3.out (Only.setCell _ _ rfl) R5 rfl rfl rfl rfl rfl rfl HL.out.wid HL.out.st HL.out.lf (by simp)
    have HMV : Hid (Lx.merge l = Lx.settle { l with merged := l.merged ++ [q], right := l.right + 1 } (Lx.fin l)) := by
      show Lx.merge l = _
      unfold Lx.merge Lx.moved
      rw [if_neg HT.out, if_pos h2, HR.out]
      rfl
    have HO5 : Hid (Only (lfoot x b) w (w4.setCell ⟨x, 19, none⟩ (.int .i64 ((l.right : Int) + 1)))) := HOW.out.trans (Only.setCell _ _ (.inl rfl))
    clear HO HQ
    have hmlen : (l.merged ++ [q]).length = l.merged.length + 1 := by simp
    by_cases c1 : l.merged.length + 1 < Lx.fin l
    · have u1 : decide (((l.merged.length : Int) + 1) < (Lx.fin l : Int)) = true := by rw [decide_eq_true_eq]; omega
      have u2 : decide (l.merged.length + 1 < Lx.fin l) = true := by rw [decide_eq_true_eq]; omega
      go_wp2_with fail
      (try simp only [Exit.inBlock, Exit.then])
      refine bodyPost_ret (results_none rfl _ _ _) rfl ?_
      refine ⟨rfl, { b with c3 := .slice (some ⟨g', 0, none⟩) (l.merged.length + 1) cap', c6 := .int .i64 ((l.right : Int) + 1) }, ?_, rfl, HO5.out, fun q hq => HQW.out q hq⟩
      rw [HMV.out, Lx.settle, hmlen, if_pos c1]
      exact HL5.out
    · have u1 : decide (((l.merged.length : Int) + 1) < (Lx.fin l : Int)) = false := by rw [decide_eq_false_iff_not]; omega
      have u2 : decide (l.merged.length + 1 < Lx.fin l) = false := by rw [decide_eq_false_iff_not]; omega
      by_cases c2 : Lx.fin l < l.runs.length
      · have u3 : decide ((Lx.fin l : Int) < (l.runs.length : Int)) = true := by rw [decide_eq_true_eq]; omega
        have u4 : decide (Lx.fin l < l.runs.length) = true := by rw [decide_eq_true_eq]; omega
        have HP : Hid (Calls Try.prog 103 #[.pointer (some ⟨x, 13, none⟩), .int .i64 (Lx.fin l : Nat)] _ _) := pair_any x _ (some ⟨g, 0, none⟩) l.runs.length cap l.width (Lx.fin l) _ R5 HE.out HL.out.wid (by omega) (by omega)
        clear R5
        go_wp2_with fail
        refine HP.out.mono ?_
        rintro e w6 ⟨rfl, hb6, ho6⟩
        go_wp2
        go_end0
        refine ⟨rfl, { b with c3 := .slice (some ⟨g', 0, none⟩) (l.merged.length + 1) cap', c4 := .int .i64 (Lx.fin l : Nat), c5 := .int .i64 (Lx.fin l : Nat), c6 := .int .i64 (min (Lx.fin l + l.width) l.runs.length : Nat) }, ?_, rfl, HO5.out.trans (ho6.mono (fun q hq => .inl hq)), fun q hq => HQW.out q hq⟩
        rw [HMV.out, Lx.settle, hmlen, if_neg c1, if_pos c2]
        exact LexIn.rebox HL5.out ho6 hb6 rfl rfl rfl rfl rfl rfl HL.out.wid rfl rfl rfl
      · have u3 : decide ((Lx.fin l : Int) < (l.runs.length : Int)) = false := by rw [decide_eq_false_iff_not]; omega
        have u4 : decide (Lx.fin l < l.runs.length) = false := by rw [decide_eq_false_iff_not]; omega
        have HP : Hid (Calls Try.prog 105 #[.pointer (some ⟨x, 13, none⟩)] _ _) := double_any x _ (some ⟨g', 0, none⟩) (l.merged.length + 1) cap' l.width _ R5 rfl HL.out.wid (by omega)
        clear R5
        go_wp2_with fail
        refine HP.out.mono ?_
        rintro e w6 ⟨rfl, hb6, ho6⟩
        go_wp2
        go_end0
        refine ⟨rfl, { b with c1 := .slice (some ⟨g', 0, none⟩) (l.merged.length + 1) cap', c2 := .int .i64 (2 * l.width : Nat), c3 := .slice none 0 0, c4 := .int .i64 0, c5 := .int .i64 0, c6 := .int .i64 (min (2 * l.width) (l.merged.length + 1) : Nat) }, ?_, rfl, HO5.out.trans (ho6.mono (fun q hq => .inl hq)), fun q hq => HQW.out q ?_⟩
        · rw [HMV.out, Lx.settle, hmlen, if_neg c1, if_neg c2]
          exact LexIn.doubled HL5.out ho6 hb6 rfl rfl rfl rfl rfl rfl (by rw [hmlen])
        · rcases hq with hq | hq | hq | hq
          · exact .inl hq
          · exact .inr (.inl hq)
          · exact .inr (.inr (.inr hq))
          · cases hq

end Go.Proofs.Ythkndfkkgncjfab

namespace Go.Proofs.Ythkndfkkgncjfab
open Go.RowKit
set_option maxRecDepth 100000

set_option maxHeartbeats 4000000 in
theorem merge_right_over (x : Nat) (b : Box) (l : Lx.Lex) (q : Lx.Rw) (w : World) (h : LexIn w x b l) (hf : Fits l) (h1 : Lx.middle l ≤ l.left) (h2 : l.right < Lx.fin l) (hq : l.runs[l.right]? = some q) :
    Calls Try.prog 95 #[.pointer (some ⟨x, 13, none⟩)] w fun e w' => e = .returned (.tuple #[]) ∧ ∃ b', LexIn w' x b' (Lx.merge l) ∧ b.same b' ∧ Only (lfoot x b) w w' ∧ ∀ k, lfoot x b' k → lfoot x b k ∨ w.heap.size ≤ k := by
  obtain ⟨i0, hi, hz0, hz1, hz2⟩ := info_parts Try.info159
  obtain ⟨ao, cap, e1, hc⟩ := h.runs.any
  obtain ⟨g, rfl, y0, y1, y2⟩ := hc _ _ hq
  have d1 : decide ((l.left : Int) < (Lx.middle l : Int)) = false := by rw [decide_eq_false_iff_not]; omega
  have d1' : decide (l.left < Lx.middle l) = false := by rw [decide_eq_false_iff_not]; omega
  have g14 := h.box.g14
  have g15 := h.box.g15
  have g17 := h.box.g17
  have g18 := h.box.g18
  have g19 := h.box.g19
  rw [e1] at g14
  rw [h.wid] at g15
  rw [h.st] at g17
  rw [h.lf] at g18
  rw [h.rg] at g19
  obtain ⟨f1, f2, f3, f4, f5, f6, _⟩ := hf
  have HLE : ∀ w, Calls Try.prog 104 #[.int .i64 ((l.start : Int) + (l.width : Int)), .int .i64 (l.runs.length : Int)] w fun e w' => e = .returned (.int .i64 (Lx.middle l : Nat)) ∧ w' = w := fun w => by
    have := lesser_any ((l.start : Int) + (l.width : Int)) (l.runs.length : Int) w
    have hm : min ((l.start : Int) + (l.width : Int)) (l.runs.length : Int) = (Lx.middle l : Nat) := by unfold Lx.middle; omega
    rw [hm] at this; exact this
  have HRE : ∀ w, Calls Try.prog 104 #[.int .i64 ((Lx.middle l : Int) + (l.width : Int)), .int .i64 (l.runs.length : Int)] w fun e w' => e = .returned (.int .i64 (Lx.fin l : Nat)) ∧ w' = w := fun w => by
    have := lesser_any ((Lx.middle l : Int) + (l.width : Int)) (l.runs.length : Int) w
    have hm : min ((Lx.middle l : Int) + (l.width : Int)) (l.runs.length : Int) = (Lx.fin l : Nat) := by unfold Lx.fin; omega
    rw [hm] at this; exact this
  have hfl := fin_le l
  have hml := middle_le l
  have HL : Hid (LexIn w x b l) := h
  have HR : Hid (l.runs[l.right]? = some q) := hq
  have d3 : decide ((l.right : Int) < (Lx.fin l : Int)) = true := by rw [decide_eq_true_eq]; omega
  have d3' : decide (l.right < Lx.fin l) = true := by rw [decide_eq_true_eq]; omega
  have HT : Hid (¬ Lx.lefts l = true) := by
    show ¬ _
    unfold Lx.lefts
    rw [d1']
    simp
  have hrl := (List.getElem?_eq_some_iff.1 hq).1
  have HE : Hid (b.c1 = .slice (some ⟨g, 0, none⟩) l.runs.length cap) := e1
  have HC : Hid (∀ k r, l.runs[k]? = some r → ∃ g', some (⟨g, 0, none⟩ : Addr) = some ⟨g', 0, none⟩ ∧ w.cell? ⟨g', k * 3, none⟩ = some (.int .i64 (r.id : Int)) ∧ w.cell? ⟨g', k * 3 + 1, none⟩ = some (.int .i64 (r.at' : Int)) ∧ w.cell? ⟨g', k * 3 + 2, none⟩ = some (.string r.rest)) := hc
  have w1' : IntKind.i64.wrap ((l.start : Int) + (l.width : Int)) = (l.start : Int) + (l.width : Int) := by rw [IntKind.wrap_i64]; omega
  have w2' : IntKind.i64.wrap ((Lx.middle l : Int) + (l.width : Int)) = (Lx.middle l : Int) + (l.width : Int) := by rw [IntKind.wrap_i64]; omega
  clear h e1 hc hq
  have HLE' : Hid _ := HLE
  have HRE' : Hid _ := HRE
  clear HLE HRE
  go_enter Try.func95, Try.ntmps95
  go_wp2_with fail
  refine wp_region_held_drew (S := fun w' => w'.cell? ⟨x, 17, none⟩ = some (.int .i64 (l.start : Int)) ∧ w'.cell? ⟨x, 15, none⟩ = some (.int .i64 (l.width : Int)) ∧ w'.cell? ⟨x, 14, none⟩ = some (.slice (some ⟨g, 0, none⟩) l.runs.length cap)) (by kernel_rfl) ⟨g17, g15, g14⟩ (fun hHeld => ?_)
  refine wpAnyH_take (i := 0) (v := ?a0) rfl (by kernel_rfl) (by kernel_rfl) (by kernel_rfl) (fun _ _ _ h => h) (Or.inl ⟨by rfl, ?hya0⟩) (by assumption) ?resta0
  case hya0 => intro w hSw; (try dsimp only at hSw); go_simp; (try with_reducible rfl)
  simp only [Act.put]
  refine wpAnyH_take (i := 1) (v := ?a1) rfl (by kernel_rfl) (by kernel_rfl) (by kernel_rfl) (fun _ _ _ h => h) (Or.inl ⟨by rfl, ?hya1⟩) (by assumption) ?resta1
  case hya1 => intro w hSw; (try dsimp only at hSw); go_simp; (try with_reducible rfl)
  simp only [Act.put]
  refine wpAnyH_take (i := 2) (v := ?a2) rfl (by kernel_rfl) (by kernel_rfl) (by kernel_rfl) (fun _ _ _ h => h) (Or.inl ⟨by rfl, ?hya2⟩) (by assumption) ?resta2
  case hya2 => intro w hSw; (try dsimp only at hSw); go_simp; (try with_reducible rfl)
  simp only [Act.put]
  refine wpAnyH_take (i := 3) (v := ?a3) rfl (by kernel_rfl) (by kernel_rfl) (by kernel_rfl) (fun _ _ _ h => h) (Or.inl ⟨by rfl, ?hya3⟩) (by assumption) ?resta3
  case hya3 => intro w hSw; (try dsimp only at hSw); go_simp; (try with_reducible rfl)
  simp only [Act.put]
  refine wpAnyH_take (i := 4) (v := ?a4) rfl (by kernel_rfl) (by kernel_rfl) (by kernel_rfl) (fun _ _ _ h => h) (Or.inl ⟨by rfl, ?hya4⟩) (by assumption) ?resta4
  case hya4 => intro w hSw; (try dsimp only at hSw); go_simp; (try with_reducible rfl)
  simp only [Act.put]
  refine wpAnyH_take (i := 5) (v := ?a5) rfl (by kernel_rfl) (by kernel_rfl) (by kernel_rfl) (fun _ _ _ h => h) (Or.inl ⟨by rfl, ?hya5⟩) (by assumption) ?resta5
  case hya5 => intro w hSw; (try dsimp only at hSw); go_simp; (try with_reducible rfl)
  simp only [Act.put]
  refine wpAnyH_take (i := 6) (v := ?a6) rfl (by kernel_rfl) (by kernel_rfl) (by kernel_rfl) (fun _ _ _ h => h) (Or.inl ⟨by rfl, ?hya6⟩) (by assumption) ?resta6
  case hya6 => intro w hSw; (try dsimp only at hSw); go_simp; (try with_reducible rfl)
  simp only [Act.put]
  refine wpAnyH_take (i := 7) (v := ?a7) rfl (by kernel_rfl) (by kernel_rfl) (by kernel_rfl) (fun _ _ _ h => h) (Or.inl ⟨by rfl, ?hya7⟩) (by assumption) ?resta7
  case hya7 => intro w hSw; (try dsimp only at hSw); go_simp; (try with_reducible rfl)
  simp only [Act.put]
  refine wpAnyH_take (i := 8) (v := ?a8) rfl (by kernel_rfl) (by kernel_rfl) (by kernel_rfl) (fun _ _ _ h => h) (Or.inl ⟨by rfl, ?hya8⟩) (by assumption) ?resta8
  case hya8 => intro w hSw; (try dsimp only at hSw); go_simp; (try with_reducible rfl)
  simp only [Act.put]
  refine wpAnyH_take (i := 9) (v := ?a9) rfl (by kernel_rfl) (by kernel_rfl) (by kernel_rfl) (fun _ _ _ h => h) (Or.inl ⟨by rfl, ?hya9⟩) (by assumption) ?resta9
  case hya9 => intro w hSw; (try dsimp only at hSw); go_simp; (try with_reducible rfl)
  simp only [Act.put]
  refine wpAnyH_take (i := 10) (v := ?a10) rfl (by kernel_rfl) (by kernel_rfl) (by kernel_rfl) (fun _ _ _ h => h) (Or.inl ⟨by rfl, ?hya10⟩) (by assumption) ?resta10
  case hya10 => intro w hSw; (try dsimp only at hSw); go_simp; (try with_reducible rfl)
  simp only [Act.put]
  refine wpAnyH_take (i := 11) (v := ?a11) rfl (by kernel_rfl) (by kernel_rfl) (by kernel_rfl) (fun _ _ _ h => h) (Or.inl ⟨by rfl, ?hya11⟩) (by assumption) ?resta11
  case hya11 => intro w hSw; (try dsimp only at hSw); go_simp; (try with_reducible rfl)
  simp only [Act.put]
  refine wpAnyH_take (i := 12) (v := ?a12) rfl (by kernel_rfl) (by kernel_rfl) (by kernel_rfl) (fun _ _ _ h => h) (Or.inl ⟨by rfl, ?hya12⟩) (by assumption) ?resta12
  case hya12 => intro w hSw; (try dsimp only at hSw); go_simp; (try with_reducible rfl)
  simp only [Act.put]
  refine wpAnyH_take (i := 13) (v := ?a13) rfl (by kernel_rfl) (by kernel_rfl) (by kernel_rfl) (fun _ _ _ h => h) (Or.inl ⟨by rfl, ?hya13⟩) (by assumption) ?resta13
  case hya13 => intro w hSw; (try dsimp only at hSw); go_simp; (try with_reducible rfl)
  simp only [Act.put]
  refine wpAnyH_ready (rs := [14]) (by kernel_rfl) (by simp) ?_
  refine AllReadyH.cons rfl (fun K hK => ?_) AllReadyH.nil
  go_simp
  refine (HLE'.out _).mono ?_
  rintro e w3 ⟨rfl, hw3⟩
  rw [hw3]; clear hw3
  refine hK.out _ _ ⟨g17, g15, g14⟩ (fun hHeld => ?_)
  clear hK K
  refine wpAnyH_ready (rs := [15]) (by kernel_rfl) (by simp) ?_
  refine AllReadyH.cons rfl (fun K hK => ?_) AllReadyH.nil
  go_simp
  refine hK.out _ _ ⟨g17, g15, g14⟩ (fun hHeld => ?_)
  clear hK K
  refine wpAnyH_done (by kernel_rfl) ?_ _
  clear hHeld
  go_wp2_with fail
  refine wp_region_held_drew (S := fun w' => w'.cell? ⟨x, 15, none⟩ = some (.int .i64 (l.width : Int)) ∧ w'.cell? ⟨x, 14, none⟩ = some (.slice (some ⟨g, 0, none⟩) l.runs.length cap)) (by kernel_rfl) ⟨g15, g14⟩ (fun hHeld => ?_)
  refine wpAnyH_take (i := 0) (v := ?b0) rfl (by kernel_rfl) (by kernel_rfl) (by kernel_rfl) (fun _ _ _ h => h) (Or.inl ⟨by rfl, ?hyb0⟩) (by assumption) ?restb0
  case hyb0 => intro w hSw; (try dsimp only at hSw); go_simp; (try with_reducible rfl)
  simp only [Act.put]
  refine wpAnyH_take (i := 1) (v := ?b1) rfl (by kernel_rfl) (by kernel_rfl) (by kernel_rfl) (fun _ _ _ h => h) (Or.inl ⟨by rfl, ?hyb1⟩) (by assumption) ?restb1
  case hyb1 => intro w hSw; (try dsimp only at hSw); go_simp; (try with_reducible rfl)
  simp only [Act.put]
  refine wpAnyH_take (i := 2) (v := ?b2) rfl (by kernel_rfl) (by kernel_rfl) (by kernel_rfl) (fun _ _ _ h => h) (Or.inl ⟨by rfl, ?hyb2⟩) (by assumption) ?restb2
  case hyb2 => intro w hSw; (try dsimp only at hSw); go_simp; (try with_reducible rfl)
  simp only [Act.put]
  refine wpAnyH_take (i := 3) (v := ?b3) rfl (by kernel_rfl) (by kernel_rfl) (by kernel_rfl) (fun _ _ _ h => h) (Or.inl ⟨by rfl, ?hyb3⟩) (by assumption) ?restb3
  case hyb3 => intro w hSw; (try dsimp only at hSw); go_simp; (try with_reducible rfl)
  simp only [Act.put]
  refine wpAnyH_take (i := 4) (v := ?b4) rfl (by kernel_rfl) (by kernel_rfl) (by kernel_rfl) (fun _ _ _ h => h) (Or.inl ⟨by rfl, ?hyb4⟩) (by assumption) ?restb4
  case hyb4 => intro w hSw; (try dsimp only at hSw); go_simp; (try with_reducible rfl)
  simp only [Act.put]
  refine wpAnyH_take (i := 5) (v := ?b5) rfl (by kernel_rfl) (by kernel_rfl) (by kernel_rfl) (fun _ _ _ h => h) (Or.inl ⟨by rfl, ?hyb5⟩) (by assumption) ?restb5
  case hyb5 => intro w hSw; (try dsimp only at hSw); go_simp; (try with_reducible rfl)
  simp only [Act.put]
  refine wpAnyH_take (i := 6) (v := ?b6) rfl (by kernel_rfl) (by kernel_rfl) (by kernel_rfl) (fun _ _ _ h => h) (Or.inl ⟨by rfl, ?hyb6⟩) (by assumption) ?restb6
  case hyb6 => intro w hSw; (try dsimp only at hSw); go_simp; (try with_reducible rfl)
  simp only [Act.put]
  refine wpAnyH_take (i := 7) (v := ?b7) rfl (by kernel_rfl) (by kernel_rfl) (by kernel_rfl) (fun _ _ _ h => h) (Or.inl ⟨by rfl, ?hyb7⟩) (by assumption) ?restb7
  case hyb7 => intro w hSw; (try dsimp only at hSw); go_simp; (try with_reducible rfl)
  simp only [Act.put]
  refine wpAnyH_take (i := 8) (v := ?b8) rfl (by kernel_rfl) (by kernel_rfl) (by kernel_rfl) (fun _ _ _ h => h) (Or.inl ⟨by rfl, ?hyb8⟩) (by assumption) ?restb8
  case hyb8 => intro w hSw; (try dsimp only at hSw); go_simp; (try with_reducible rfl)
  simp only [Act.put]
  refine wpAnyH_take (i := 9) (v := ?b9) rfl (by kernel_rfl) (by kernel_rfl) (by kernel_rfl) (fun _ _ _ h => h) (Or.inl ⟨by rfl, ?hyb9⟩) (by assumption) ?restb9
  case hyb9 => intro w hSw; (try dsimp only at hSw); go_simp; (try with_reducible rfl)
  simp only [Act.put]
  refine wpAnyH_take (i := 10) (v := ?b10) rfl (by kernel_rfl) (by kernel_rfl) (by kernel_rfl) (fun _ _ _ h => h) (Or.inl ⟨by rfl, ?hyb10⟩) (by assumption) ?restb10
  case hyb10 => intro w hSw; (try dsimp only at hSw); go_simp; (try with_reducible rfl)
  simp only [Act.put]
  refine wpAnyH_ready (rs := [11]) (by kernel_rfl) (by simp) ?_
  refine AllReadyH.cons rfl (fun K hK => ?_) AllReadyH.nil
  go_simp
  refine (HRE'.out _).mono ?_
  rintro e w3 ⟨rfl, hw3⟩
  rw [hw3]; clear hw3
  refine hK.out _ _ ⟨g15, g14⟩ (fun hHeld => ?_)
  clear hK K
  refine wpAnyH_ready (rs := [12]) (by kernel_rfl) (by simp) ?_
  refine AllReadyH.cons rfl (fun K hK => ?_) AllReadyH.nil
  go_simp
  refine hK.out _ _ ⟨g15, g14⟩ (fun hHeld => ?_)
  clear hK K
  refine wpAnyH_done (by kernel_rfl) ?_ _
  clear hHeld HLE' HRE'
  go_wp2_with fail
  go_quiet (fail)
  go_wp2_with fail
  generalize hW1 : w.drewN (1 + (1 + nq)) = w1
  have hb1 : Below w.heap.size w w1 := by rw [← hW1]; exact below_drewN (Below.refl _ _) _
  have hsz1 : w1.heap.size = w.heap.size := by rw [← hW1]; rfl
  have HB1 : Hid (Below w.heap.size w w1) := hb1
  have HL1 : Hid (LexIn w1 x b l) := HL.out.below hb1
  have k14 : w1.cell? ⟨x, 14, none⟩ = some (.slice (some ⟨g, 0, none⟩) l.runs.length cap) := cell_later hb1 g14
  have kS : w1.cell? ⟨x, 19, none⟩ = some (.int .i64 (l.right : Int)) := cell_later hb1 g19
  have k0 : w1.cell? ⟨g, l.right * 3, none⟩ = some (.int .i64 (q.id : Int)) := cell_later hb1 y0
  have k1 : w1.cell? ⟨g, l.right * 3 + 1, none⟩ = some (.int .i64 (q.at' : Int)) := cell_later hb1 y1
  have k2 : w1.cell? ⟨g, l.right * 3 + 2, none⟩ = some (.string q.rest) := cell_later hb1 y2
  have k16 := HL1.out.box.g16
  have hmg1 := HL1.out.mg
  clear hW1 hb1 g14 g15 g17 g18 g19 y0 y1 y2
  have hba : ∀ o, Below w1.heap.size w1 (w1.alloc o).drew := fun o => ((Below.refl _ _).alloc (Nat.le_refl _) o).drew
  have hS1 : ∀ o, (w1.alloc o).drew.cell? ⟨x, 14, none⟩ = some (.slice (some ⟨g, 0, none⟩) l.runs.length cap) ∧ (w1.alloc o).drew.cell? ⟨x, 19, none⟩ = some (.int .i64 (l.right : Int)) ∧ (w1.alloc o).drew.cell? ⟨g, l.right * 3, none⟩ = some (.int .i64 (q.id : Int)) ∧ (w1.alloc o).drew.cell? ⟨g, l.right * 3 + 1, none⟩ = some (.int .i64 (q.at' : Int)) ∧ (w1.alloc o).drew.cell? ⟨g, l.right * 3 + 2, none⟩ = some (.string q.rest) := fun o => ⟨cell_later (hba o) k14, cell_later (hba o) kS, cell_later (hba o) k0, cell_later (hba o) k1, cell_later (hba o) k2⟩
  have g12 : ∀ o, (w1.alloc o).drew.cell? ⟨x, 16, none⟩ = some b.c3 := fun o => cell_later (hba o) k16
  refine wp_region_held_drew (S := fun w' => w'.cell? ⟨x, 14, none⟩ = some (.slice (some ⟨g, 0, none⟩) l.runs.length cap) ∧ w'.cell? ⟨x, 19, none⟩ = some (.int .i64 (l.right : Int)) ∧ w'.cell? ⟨g, l.right * 3, none⟩ = some (.int .i64 (q.id : Int)) ∧ w'.cell? ⟨g, l.right * 3 + 1, none⟩ = some (.int .i64 (q.at' : Int)) ∧ w'.cell? ⟨g, l.right * 3 + 2, none⟩ = some (.string q.rest)) (by kernel_rfl) ⟨k14, kS, k0, k1, k2⟩ (fun hHeld => ?_)
  refine wpAnyH_take (i := 0) (v := ?c0) rfl (by kernel_rfl) (by kernel_rfl) (by kernel_rfl) (fun _ _ _ h => h) (Or.inl ⟨by rfl, ?hyc0⟩) (by assumption) ?restc0
  case hyc0 => intro w hSw; (try dsimp only at hSw); go_simp; (try with_reducible rfl)
  simp only [Act.put]
  refine wpAnyH_take (i := 1) (v := ?c1) rfl (by kernel_rfl) (by kernel_rfl) (by kernel_rfl) (fun _ _ _ h => h) (Or.inl ⟨by rfl, ?hyc1⟩) (by assumption) ?restc1
  case hyc1 => intro w hSw; (try dsimp only at hSw); go_simp; (try with_reducible rfl)
  simp only [Act.put]
  refine wpAnyH_take (i := 2) (v := ?c2) rfl (by kernel_rfl) (by kernel_rfl) (by kernel_rfl) (fun _ _ _ h => h) (Or.inl ⟨by rfl, ?hyc2⟩) (by assumption) ?restc2
  case hyc2 => intro w hSw; (try dsimp only at hSw); go_simp; (try with_reducible rfl)
  simp only [Act.put]
  refine wpAnyH_take (i := 3) (v := ?c3) rfl (by kernel_rfl) (by kernel_rfl) (by kernel_rfl) (fun _ _ _ h => h) (Or.inl ⟨by rfl, ?hyc3⟩) (by assumption) ?restc3
  case hyc3 => intro w hSw; (try dsimp only at hSw); go_simp; (try with_reducible rfl)
  simp only [Act.put]
  refine wpAnyH_take (i := 5) (v := ?c5) rfl (by kernel_rfl) (by kernel_rfl) (by kernel_rfl) (fun _ _ _ h => h) (Or.inl ⟨by rfl, ?hyc5⟩) (by assumption) ?restc5
  case hyc5 => intro w hSw; (try dsimp only at hSw); go_simp; (try with_reducible rfl)
  simp only [Act.put]
  refine wpAnyH_take (i := 6) (v := ?c6) rfl (by kernel_rfl) (by kernel_rfl) (by kernel_rfl) (fun _ _ _ h => h) (Or.inl ⟨by rfl, ?hyc6⟩) (by assumption) ?restc6
  case hyc6 => intro w hSw; (try dsimp only at hSw); go_simp; (try with_reducible rfl)
  simp only [Act.put]
  refine wpAnyH_take (i := 7) (v := ?c7) rfl (by kernel_rfl) (by kernel_rfl) (by kernel_rfl) (fun _ _ _ h => h) (Or.inl ⟨by rfl, ?hyc7⟩) (by assumption) ?restc7
  case hyc7 => intro w hSw; (try dsimp only at hSw); go_simp; (try with_reducible rfl)
  simp only [Act.put]
  refine wpAnyH_take (i := 8) (v := ?c8) rfl (by kernel_rfl) (by kernel_rfl) (by kernel_rfl) (fun _ _ _ h => h) (Or.inl ⟨by rfl, ?hyc8⟩) (by assumption) ?restc8
  case hyc8 => intro w hSw; (try dsimp only at hSw); go_simp; (try with_reducible rfl)
  simp only [Act.put]
  refine wpAnyH_take (i := 9) (v := ?c9) rfl (by kernel_rfl) (by kernel_rfl) (by kernel_rfl) (fun _ _ _ h => h) (Or.inl ⟨by rfl, ?hyc9⟩) (by assumption) ?restc9
  case hyc9 => intro w hSw; (try dsimp only at hSw); go_simp; (try with_reducible rfl)
  simp only [Act.put]
  refine wpAnyH_take (i := 10) (v := ?c10) rfl (by kernel_rfl) (by kernel_rfl) (by kernel_rfl) (fun _ _ _ h => h) (Or.inl ⟨by rfl, ?hyc10⟩) (by assumption) ?restc10
  case hyc10 => intro w hSw; (try dsimp only at hSw); go_simp; (try with_reducible rfl)
  simp only [Act.put]
  refine wpAnyH_take (i := 11) (v := ?c11) rfl (by kernel_rfl) (by kernel_rfl) (by kernel_rfl) (fun _ _ _ h => h) (Or.inl ⟨by rfl, ?hyc11⟩) (by assumption) ?restc11
  case hyc11 => intro w hSw; (try dsimp only at hSw); go_simp; (try with_reducible rfl)
  simp only [Act.put]
  refine wpAnyH_take (i := 12) (v := ?c12) rfl (by kernel_rfl) (by kernel_rfl) (by kernel_rfl) (fun _ _ _ h => h) (Or.inl ⟨by rfl, ?hyc12⟩) (by assumption) ?restc12
  case hyc12 => intro w hSw; (try dsimp only at hSw); go_simp; (try with_reducible rfl)
  simp only [Act.put]
  refine wpAnyH_take (i := 13) (v := ?c13) rfl (by kernel_rfl) (by kernel_rfl) (by kernel_rfl) (fun _ _ _ h => h) (Or.inl ⟨by rfl, ?hyc13⟩) (by assumption) ?restc13
  case hyc13 => intro w hSw; (try dsimp only at hSw); go_simp; (try with_reducible rfl)
  simp only [Act.put]
  refine wpAnyH_take (i := 14) (v := ?c14) rfl (by kernel_rfl) (by kernel_rfl) (by kernel_rfl) (fun _ _ _ h => h) (Or.inl ⟨by rfl, ?hyc14⟩) (by assumption) ?restc14
  case hyc14 => intro w hSw; (try dsimp only at hSw); go_simp; (try with_reducible rfl)
  simp only [Act.put]
  refine wpAnyH_ready (rs := [4, 15]) (by kernel_rfl) (by simp) ?_
  refine AllReadyH.cons rfl (fun K hK => ?A) (AllReadyH.cons rfl (fun K hK => ?B) AllReadyH.nil)
  case' A =>
    go_simp
    refine hK.out _ _ (by exact hHeld) (fun hHeld => ?_)
    clear hK K
    refine wpAnyH_ready (rs := [15]) (by kernel_rfl) (by simp) ?_
    refine AllReadyH.cons rfl (fun K hK => ?_) AllReadyH.nil
    go_simp
    refine hK.out _ _ (hS1 _) (fun hHeld => ?_)
    clear hK K
  case' B =>
    go_simp
    refine hK.out _ _ (hS1 _) (fun hHeld => ?_)
    clear hK K
    refine wpAnyH_ready (rs := [4]) (by kernel_rfl) (by simp) ?_
    refine AllReadyH.cons rfl (fun K hK => ?_) AllReadyH.nil
    have g13 := g12 (.cells #[.int .i64 (q.id : Int), .int .i64 (q.at' : Int), .string q.rest] 159)
    go_simp
    refine hK.out _ _ (by exact hHeld) (fun hHeld => ?_)
    clear hK K g13
  · skip
    refine wpAnyH_ready (rs := [16]) (by kernel_rfl) (by simp) ?_
    refine AllReadyH.cons rfl (fun K hK => ?_) AllReadyH.nil
    refine step_lies_at 118 rfl (w1.heap.size + 1) rfl (.tmp 106) (.tmp 117) 60 rfl 0 159 i0 (.agg #[.int .i64 0, .int .i64 0, .string ⟨#[]⟩]) 3 32 Try.underlying60 hi hz0 hz1 hz2 rfl (by decide) b.c3 l.merged.length (RW l.merged) (by simp [Act.eval]) (World.ownsRow.alloc hmg1 _) ⟨w1.heap.size, 0, none⟩ 1 1 (RW1 q) (by simp [Act.eval]) rfl (World.news_of_block (cs := #[.int .i64 (q.id : Int), .int .i64 (q.at' : Int), .string q.rest]) (heap_alloc_new w1 _)) (by intro u hu2; simp [RW1] at hu2; rcases hu2 with rfl | rfl | rfl <;> rfl) (by decide) (by unfold maxLen; omega) (by omega) (Nat.zero_le _) (by simp) ?_
    intro g' cap' w3 hown3 hgrow0 hat3 hlt3
    have RM := HL1.out.merged_more hown3 hgrow0 hat3
    have HR3 : Hid (LexIn _ _ _ _) := RM.2.1
    have HO : Hid (Only _ _ _) := RM.2.2.1
    have HQ : Hid (∀ k, _ → _) := RM.2.2.2
    have c33 := RM.1.g16
    have f33 := RM.1.free 16
    have hnx : some x ≠ b.c3.ownBlock := fun e => HL1.out.mg.apart HL1.out.box e.symm
    have hng : some g ≠ b.c3.ownBlock := fun e => HL.out.a3 g (by rw [HE.out]; rfl) e.symm
    have hgx : g ≠ x := fun e => HL.out.runs.apart HL.out.box (by rw [HE.out, e]; rfl)
    have m14 : w3.cell? ⟨x, 14, none⟩ = some (.slice (some ⟨g, 0, none⟩) l.runs.length cap) := World.grownBy.cell hgrow0 (hS1 _).1 hnx
    have mS : w3.cell? ⟨x, 19, none⟩ = some (.int .i64 (l.right : Int)) := World.grownBy.cell hgrow0 (hS1 _).2.1 hnx
    have m0 : w3.cell? ⟨g, l.right * 3, none⟩ = some (.int .i64 (q.id : Int)) := World.grownBy.cell hgrow0 (hS1 _).2.2.1 hng
    have m1 : w3.cell? ⟨g, l.right * 3 + 1, none⟩ = some (.int .i64 (q.at' : Int)) := World.grownBy.cell hgrow0 (hS1 _).2.2.2.1 hng
    have m2 : w3.cell? ⟨g, l.right * 3 + 2, none⟩ = some (.string q.rest) := World.grownBy.cell hgrow0 (hS1 _).2.2.2.2 hng
    clear RM hown3 hgrow0 hHeld g12 hS1 hba k14 kS k0 k1 k2
    refine hK.out _ _ ⟨m14, mS, m0, m1, m2⟩ (fun hHeld => ?_)
    clear hK K
    refine wpAnyH_take (i := 17) (v := ?dq17) rfl (by kernel_rfl) (by kernel_rfl) (by kernel_rfl) (fun _ _ _ h => h) (Or.inl ⟨by rfl, ?hydq17⟩) (by assumption) ?restdq17
    case hydq17 => intro w hSw; (try dsimp only at hSw); go_simp; (try with_reducible rfl)
    simp only [Act.put]
    refine wpAnyH_take (i := 18) (v := ?dq18) rfl (by kernel_rfl) (by kernel_rfl) (by kernel_rfl) (fun _ _ _ h => h) (Or.inl ⟨by rfl, ?hydq18⟩) (by assumption) ?restdq18
    case hydq18 => intro w hSw; (try dsimp only at hSw); go_simp; (try with_reducible rfl)
    simp only [Act.put]
    refine wpAnyH_ready (rs := [19]) (by kernel_rfl) (by simp) ?_
    refine AllReadyH.cons rfl (fun K hK => ?_) AllReadyH.nil
    go_simp
    have hkp : ∀ a v, a ≠ (⟨x, 16, none⟩ : Addr) → w3.cell? a = some v → (w3.setCell ⟨x, 16, none⟩ (.slice (some ⟨g', 0, none⟩) (l.merged.length + 1) cap')).cell? a = some v := fun a v ha hv => by rw [World.cell?_setCell_other _ _ _ _ (fun e => ha e.symm)]; exact hv
    refine hK.out _ _ ⟨hkp _ _ (by simp) m14, hkp _ _ (by simp) mS, hkp _ _ (by simp) m0, hkp _ _ (by simp) m1, hkp _ _ (by simp) m2⟩ (fun hHeld => ?_)
    clear hK K m14 mS m0 m1 m2 c33 f33 hHeld hkp
    refine wpAnyH_done (by kernel_rfl) ?_ _
    generalize w3.setCell ⟨x, 16, none⟩ (.slice (some ⟨g', 0, none⟩) (l.merged.length + 1) cap') = w4 at *
    have q5 := HR3.out.box.g19
    have HS3 : Hid (b.c6 = .int .i64 (l.right : Int)) := HL.out.rg
    simp only [HS3.out] at q5
    have f5 := HR3.out.box.free 19
    have R5 := HR3.out.box.s19 (.int .i64 ((l.right : Int) + 1))
    have j16 := R5.g16
    have j14 := R5.g14
    simp only [HE.out] at j14
    have HOW : Hid (Only (lfoot x b) w w4) := (Only.of_below HB1.out).trans (HO.out)
    have HQW : Hid (∀ q, lfoot x { b with c3 := .slice (some ⟨g', 0, none⟩) (l.merged.length + 1) cap' } q → lfoot x b q ∨ w.heap.size ≤ q) := fun q hq => (HQ.out q hq).imp (fun h => h) (fun h => by omega)
    have HL5 : Hid (LexIn (w4.setCell ⟨x, 19, none⟩ (.int .i64 ((l.right : Int) + 1))) x { b with c3 := .slice (some ⟨g', 0, none⟩) (l.merged.length + 1) cap', c6 := .int .i64 ((l.right : Int) + 1) } { l with merged := l.merged ++ [q], right := l.right + 1 }) := LexIn.rebox HR3.out (Only.setCell _ _ rfl) R5 rfl rfl rfl rfl rfl rfl HL.out.wid HL.out.st HL.out.lf (by simp)
    have HMV : Hid (Lx.merge l = Lx.settle { l with merged := l.merged ++ [q], right := l.right + 1 } (Lx.fin l)) := by
      show Lx.merge l = _
      unfold Lx.merge Lx.moved
      rw [if_neg HT.out, if_pos h2, HR.out]
      rfl
    have HO5 : Hid (Only (lfoot x b) w (w4.setCell ⟨x, 19, none⟩ (.int .i64 ((l.right : Int) + 1)))) := HOW.out.trans (Only.setCell _ _ (.inl rfl))
    clear HO HQ
    have hmlen : (l.merged ++ [q]).length = l.merged.length + 1 := by simp
    by_cases c1 : l.merged.length + 1 < Lx.fin l
    · have u1 : decide (((l.merged.length : Int) + 1) < (Lx.fin l : Int)) = true := by rw [decide_eq_true_eq]; omega
      have u2 : decide (l.merged.length + 1 < Lx.fin l) = true := by rw [decide_eq_true_eq]; omega
      go_wp2_with fail
      (try simp only [Exit.inBlock, Exit.then])
      refine bodyPost_ret (results_none rfl _ _ _) rfl ?_
      refine ⟨rfl, { b with c3 := .slice (some ⟨g', 0, none⟩) (l.merged.length + 1) cap', c6 := .int .i64 ((l.right : Int) + 1) }, ?_, rfl, HO5.out, fun q hq => HQW.out q hq⟩
      rw [HMV.out, Lx.settle, hmlen, if_pos c1]
      exact HL5.out
    · have u1 : decide (((l.merged.length : Int) + 1) < (Lx.fin l : Int)) = false := by rw [decide_eq_false_iff_not]; omega
      have u2 : decide (l.merged.length + 1 < Lx.fin l) = false := by rw [decide_eq_false_iff_not]; omega
      by_cases c2 : Lx.fin l < l.runs.length
      · have u3 : decide ((Lx.fin l : Int) < (l.runs.length : Int)) = true := by rw [decide_eq_true_eq]; omega
        have u4 : decide (Lx.fin l < l.runs.length) = true := by rw [decide_eq_true_eq]; omega
        have HP : Hid (Calls Try.prog 103 #[.pointer (some ⟨x, 13, none⟩), .int .i64 (Lx.fin l : Nat)] _ _) := pair_any x _ (some ⟨g, 0, none⟩) l.runs.length cap l.width (Lx.fin l) _ R5 HE.out HL.out.wid (by omega) (by omega)
        clear R5
        go_wp2_with fail
        refine HP.out.mono ?_
        rintro e w6 ⟨rfl, hb6, ho6⟩
        go_wp2
        go_end0
        refine ⟨rfl, { b with c3 := .slice (some ⟨g', 0, none⟩) (l.merged.length + 1) cap', c4 := .int .i64 (Lx.fin l : Nat), c5 := .int .i64 (Lx.fin l : Nat), c6 := .int .i64 (min (Lx.fin l + l.width) l.runs.length : Nat) }, ?_, rfl, HO5.out.trans (ho6.mono (fun q hq => .inl hq)), fun q hq => HQW.out q hq⟩
        rw [HMV.out, Lx.settle, hmlen, if_neg c1, if_pos c2]
        exact LexIn.rebox HL5.out ho6 hb6 rfl rfl rfl rfl rfl rfl HL.out.wid rfl rfl rfl
      · have u3 : decide ((Lx.fin l : Int) < (l.runs.length : Int)) = false := by rw [decide_eq_false_iff_not]; omega
        have u4 : decide (Lx.fin l < l.runs.length) = false := by rw [decide_eq_false_iff_not]; omega
        have HP : Hid (Calls Try.prog 105 #[.pointer (some ⟨x, 13, none⟩)] _ _) := double_any x _ (some ⟨g', 0, none⟩) (l.merged.length + 1) cap' l.width _ R5 rfl HL.out.wid (by omega)
        clear R5
        go_wp2_with fail
        refine HP.out.mono ?_
        rintro e w6 ⟨rfl, hb6, ho6⟩
        go_wp2
        go_end0
        refine ⟨rfl, { b with c1 := .slice (some ⟨g', 0, none⟩) (l.merged.length + 1) cap', c2 := .int .i64 (2 * l.width : Nat), c3 := .slice none 0 0, c4 := .int .i64 0, c5 := .int .i64 0, c6 := .int .i64 (min (2 * l.width) (l.merged.length + 1) : Nat) }, ?_, rfl, HO5.out.trans (ho6.mono (fun q hq => .inl hq)), fun q hq => HQW.out q ?_⟩
        · rw [HMV.out, Lx.settle, hmlen, if_neg c1, if_neg c2]
          exact LexIn.doubled HL5.out ho6 hb6 rfl rfl rfl rfl rfl rfl (by rw [hmlen])
        · rcases hq with hq | hq | hq | hq
          · exact .inl hq
          · exact .inr (.inl hq)
          · exact .inr (.inr (.inr hq))
          · cases hq
  · skip
    refine wpAnyH_ready (rs := [16]) (by kernel_rfl) (by simp) ?_
    refine AllReadyH.cons rfl (fun K hK => ?_) AllReadyH.nil
    refine step_lies_at 118 rfl (w1.heap.size + 1) rfl (.tmp 106) (.tmp 117) 60 rfl 0 159 i0 (.agg #[.int .i64 0, .int .i64 0, .string ⟨#[]⟩]) 3 32 Try.underlying60 hi hz0 hz1 hz2 rfl (by decide) b.c3 l.merged.length (RW l.merged) (by simp [Act.eval]) (World.ownsRow.alloc hmg1 _) ⟨w1.heap.size, 0, none⟩ 1 1 (RW1 q) (by simp [Act.eval]) rfl (World.news_of_block (cs := #[.int .i64 (q.id : Int), .int .i64 (q.at' : Int), .string q.rest]) (heap_alloc_new w1 _)) (by intro u hu2; simp [RW1] at hu2; rcases hu2 with rfl | rfl | rfl <;> rfl) (by decide) (by unfold maxLen; omega) (by omega) (Nat.zero_le _) (by simp) ?_
    intro g' cap' w3 hown3 hgrow0 hat3 hlt3
    have RM := HL1.out.merged_more hown3 hgrow0 hat3
    have HR3 : Hid (LexIn _ _ _ _) := RM.2.1
    have HO : Hid (Only _ _ _) := RM.2.2.1
    have HQ : Hid (∀ k, _ → _) := RM.2.2.2
    have c33 := RM.1.g16
    have f33 := RM.1.free 16
    have hnx : some x ≠ b.c3.ownBlock := fun e => HL1.out.mg.apart HL1.out.box e.symm
    have hng : some g ≠ b.c3.ownBlock := fun e => HL.out.a3 g (by rw [HE.out]; rfl) e.symm
    have hgx : g ≠ x := fun e => HL.out.runs.apart HL.out.box (by rw [HE.out, e]; rfl)
    have m14 : w3.cell? ⟨x, 14, none⟩ = some (.slice (some ⟨g, 0, none⟩) l.runs.length cap) := World.grownBy.cell hgrow0 (hS1 _).1 hnx
    have mS : w3.cell? ⟨x, 19, none⟩ = some (.int .i64 (l.right : Int)) := World.grownBy.cell hgrow0 (hS1 _).2.1 hnx
    have m0 : w3.cell? ⟨g, l.right * 3, none⟩ = some (.int .i64 (q.id : Int)) := World.grownBy.cell hgrow0 (hS1 _).2.2.1 hng
    have m1 : w3.cell? ⟨g, l.right * 3 + 1, none⟩ = some (.int .i64 (q.at' : Int)) := World.grownBy.cell hgrow0 (hS1 _).2.2.2.1 hng
    have m2 : w3.cell? ⟨g, l.right * 3 + 2, none⟩ = some (.string q.rest) := World.grownBy.cell hgrow0 (hS1 _).2.2.2.2 hng
    clear RM hown3 hgrow0 hHeld g12 hS1 hba k14 kS k0 k1 k2
    refine hK.out _ _ ⟨m14, mS, m0, m1, m2⟩ (fun hHeld => ?_)
    clear hK K
    refine wpAnyH_take (i := 17) (v := ?dqq17) rfl (by kernel_rfl) (by kernel_rfl) (by kernel_rfl) (fun _ _ _ h => h) (Or.inl ⟨by rfl, ?hydqq17⟩) (by assumption) ?restdqq17
    case hydqq17 => intro w hSw; (try dsimp only at hSw); go_simp; (try with_reducible rfl)
    simp only [Act.put]
    refine wpAnyH_take (i := 18) (v := ?dqq18) rfl (by kernel_rfl) (by kernel_rfl) (by kernel_rfl) (fun _ _ _ h => h) (Or.inl ⟨by rfl, ?hydqq18⟩) (by assumption) ?restdqq18
    case hydqq18 => intro w hSw; (try dsimp only at hSw); go_simp; (try with_reducible rfl)
    simp only [Act.put]
    refine wpAnyH_ready (rs := [19]) (by kernel_rfl) (by simp) ?_
    refine AllReadyH.cons rfl (fun K hK => ?_) AllReadyH.nil
    go_simp
    have hkp : ∀ a v, a ≠ (⟨x, 16, none⟩ : Addr) → w3.cell? a = some v → (w3.setCell ⟨x, 16, none⟩ (.slice (some ⟨g', 0, none⟩) (l.merged.length + 1) cap')).cell? a = some v := fun a v ha hv => by rw [World.cell?_setCell_other _ _ _ _ (fun e => ha e.symm)]; exact hv
    refine hK.out _ _ ⟨hkp _ _ (by simp) m14, hkp _ _ (by simp) mS, hkp _ _ (by simp) m0, hkp _ _ (by simp) m1, hkp _ _ (by simp) m2⟩ (fun hHeld => ?_)
    clear hK K m14 mS m0 m1 m2 c33 f33 hHeld hkp
    refine wpAnyH_done (by kernel_rfl) ?_ _
    generalize w3.setCell ⟨x, 16, none⟩ (.slice (some ⟨g', 0, none⟩) (l.merged.length + 1) cap') = w4 at *
    have q5 := HR3.out.box.g19
    have HS3 : Hid (b.c6 = .int .i64 (l.right : Int)) := HL.out.rg
    simp only [HS3.out] at q5
    have f5 := HR3.out.box.free 19
    have R5 := HR3.out.box.s19 (.int .i64 ((l.right : Int) + 1))
    have j16 := R5.g16
    have j14 := R5.g14
    simp only [HE.out] at j14
    have HOW : Hid (Only (lfoot x b) w w4) := (Only.of_below HB1.out).trans (HO.out)
    have HQW : Hid (∀ q, lfoot x { b with c3 := .slice (some ⟨g', 0, none⟩) (l.merged.length + 1) cap' } q → lfoot x b q ∨ w.heap.size ≤ q) := fun q hq => (HQ.out q hq).imp (fun h => h) (fun h => by omega)
    have HL5 : Hid (LexIn (w4.setCell ⟨x, 19, none⟩ (.int .i64 ((l.right : Int) + 1))) x { b with c3 := .slice (some ⟨g', 0, none⟩) (l.merged.length + 1) cap', c6 := .int .i64 ((l.right : Int) + 1) } { l with merged := l.merged ++ [q], right := l.right + 1 }) := LexIn.rebox HR3.out (Only.setCell _ _ rfl) R5 rfl rfl rfl rfl rfl rfl HL.out.wid HL.out.st HL.out.lf (by simp)
    have HMV : Hid (Lx.merge l = Lx.settle { l with merged := l.merged ++ [q], right := l.right + 1 } (Lx.fin l)) := by
      show Lx.merge l = _
      unfold Lx.merge Lx.moved
      rw [if_neg HT.out, if_pos h2, HR.out]
      rfl
    have HO5 : Hid (Only (lfoot x b) w (w4.setCell ⟨x, 19, none⟩ (.int .i64 ((l.right : Int) + 1)))) := HOW.out.trans (Only.setCell _ _ (.inl rfl))
    clear HO HQ
    have hmlen : (l.merged ++ [q]).length = l.merged.length + 1 := by simp
    by_cases c1 : l.merged.length + 1 < Lx.fin l
    · have u1 : decide (((l.merged.length : Int) + 1) < (Lx.fin l : Int)) = true := by rw [decide_eq_true_eq]; omega
      have u2 : decide (l.merged.length + 1 < Lx.fin l) = true := by rw [decide_eq_true_eq]; omega
      go_wp2_with fail
      (try simp only [Exit.inBlock, Exit.then])
      refine bodyPost_ret (results_none rfl _ _ _) rfl ?_
      refine ⟨rfl, { b with c3 := .slice (some ⟨g', 0, none⟩) (l.merged.length + 1) cap', c6 := .int .i64 ((l.right : Int) + 1) }, ?_, rfl, HO5.out, fun q hq => HQW.out q hq⟩
      rw [HMV.out, Lx.settle, hmlen, if_pos c1]
      exact HL5.out
    · have u1 : decide (((l.merged.length : Int) + 1) < (Lx.fin l : Int)) = false := by rw [decide_eq_false_iff_not]; omega
      have u2 : decide (l.merged.length + 1 < Lx.fin l) = false := by rw [decide_eq_false_iff_not]; omega
      by_cases c2 : Lx.fin l < l.runs.length
      · have u3 : decide ((Lx.fin l : Int) < (l.runs.length : Int)) = true := by rw [decide_eq_true_eq]; omega
        have u4 : decide (Lx.fin l < l.runs.length) = true := by rw [decide_eq_true_eq]; omega
        have HP : Hid (Calls Try.prog 103 #[.pointer (some ⟨x, 13, none⟩), .int .i64 (Lx.fin l : Nat)] _ _) := pair_any x _ (some ⟨g, 0, none⟩) l.runs.length cap l.width (Lx.fin l) _ R5 HE.out HL.out.wid (by omega) (by omega)
        clear R5
        go_wp2_with fail
        refine HP.out.mono ?_
        rintro e w6 ⟨rfl, hb6, ho6⟩
        go_wp2
        go_end0
        refine ⟨rfl, { b with c3 := .slice (some ⟨g', 0, none⟩) (l.merged.length + 1) cap', c4 := .int .i64 (Lx.fin l : Nat), c5 := .int .i64 (Lx.fin l : Nat), c6 := .int .i64 (min (Lx.fin l + l.width) l.runs.length : Nat) }, ?_, rfl, HO5.out.trans (ho6.mono (fun q hq => .inl hq)), fun q hq => HQW.out q hq⟩
        rw [HMV.out, Lx.settle, hmlen, if_neg c1, if_pos c2]
        exact LexIn.rebox HL5.out ho6 hb6 rfl rfl rfl rfl rfl rfl HL.out.wid rfl rfl rfl
      · have u3 : decide ((Lx.fin l : Int) < (l.runs.length : Int)) = false := by rw [decide_eq_false_iff_not]; omega
        have u4 : decide (Lx.fin l < l.runs.length) = false := by rw [decide_eq_false_iff_not]; omega
        have HP : Hid (Calls Try.prog 105 #[.pointer (some ⟨x, 13, none⟩)] _ _) := double_any x _ (some ⟨g', 0, none⟩) (l.merged.length + 1) cap' l.width _ R5 rfl HL.out.wid (by omega)
        clear R5
        go_wp2_with fail
        refine HP.out.mono ?_
        rintro e w6 ⟨rfl, hb6, ho6⟩
        go_wp2
        go_end0
        refine ⟨rfl, { b with c1 := .slice (some ⟨g', 0, none⟩) (l.merged.length + 1) cap', c2 := .int .i64 (2 * l.width : Nat), c3 := .slice none 0 0, c4 := .int .i64 0, c5 := .int .i64 0, c6 := .int .i64 (min (2 * l.width) (l.merged.length + 1) : Nat) }, ?_, rfl, HO5.out.trans (ho6.mono (fun q hq => .inl hq)), fun q hq => HQW.out q ?_⟩
        · rw [HMV.out, Lx.settle, hmlen, if_neg c1, if_neg c2]
          exact LexIn.doubled HL5.out ho6 hb6 rfl rfl rfl rfl rfl rfl (by rw [hmlen])
        · rcases hq with hq | hq | hq | hq
          · exact .inl hq
          · exact .inr (.inl hq)
          · exact .inr (.inr (.inr hq))
          · cases hq

end Go.Proofs.Ythkndfkkgncjfab

namespace Go.Proofs.Ythkndfkkgncjfab
open Go.RowKit
set_option maxRecDepth 100000

/-- the numbers stay small while it is worked at -/
def Sound (l : Lx.Lex) : Prop := ∀ u, Fits (Lx.work u l) ∧ (Lx.whole (Lx.work u l) = false → (Lx.work u l).waiting = [] → (Lx.work u l).left < Lx.middle (Lx.work u l) ∨ (Lx.work u l).right < Lx.fin (Lx.work u l))

theorem take_any (x : Nat) (b : Box) (l : Lx.Lex) (w : World) (h : LexIn w x b l) (hf : Fits l) (hw : l.waiting ≠ []) :
    Calls Try.prog 94 #[.pointer (some ⟨x, 13, none⟩)] w fun e w' => e = .returned (.tuple #[]) ∧ ∃ b', LexIn w' x b' (Lx.take l) ∧ b.same b' ∧ Only (lfoot x b) w w' ∧ ∀ k, lfoot x b' k → lfoot x b k ∨ w.heap.size ≤ k := by
  cases hl : l.waiting with
  | nil => exact absurd hl hw
  | cons r ws =>
    by_cases hr : 0 < r.rest.size
    · exact take_next x b l r ws w h hf hl hr
    · exact take_last x b l r ws w h hf hl hr
theorem merge_any (x : Nat) (b : Box) (l : Lx.Lex) (w : World) (h : LexIn w x b l) (hf : Fits l) (hw : l.left < Lx.middle l ∨ l.right < Lx.fin l) :
    Calls Try.prog 95 #[.pointer (some ⟨x, 13, none⟩)] w fun e w' => e = .returned (.tuple #[]) ∧ ∃ b', LexIn w' x b' (Lx.merge l) ∧ b.same b' ∧ Only (lfoot x b) w w' ∧ ∀ k, lfoot x b' k → lfoot x b k ∨ w.heap.size ≤ k := by
  have hfl := fin_le l
  have hml := middle_le l
  by_cases h1 : l.left < Lx.middle l
  · obtain ⟨r, hr⟩ : ∃ r, l.runs[l.left]? = some r := ⟨_, List.getElem?_eq_getElem (by omega)⟩
    by_cases h2 : l.right < Lx.fin l
    · obtain ⟨q, hq⟩ : ∃ q, l.runs[l.right]? = some q := ⟨_, List.getElem?_eq_getElem (by omega)⟩
      cases hl : Lx.le r q
      · exact merge_right x b l r w h hf q h1 h2 hr hq hl
      · exact merge_left x b l r w h hf q h1 h2 hr hq hl
    · exact merge_left_over x b l r w h hf h1 (by omega) hr
  · have h2 : l.right < Lx.fin l := hw.resolve_left h1
    obtain ⟨q, hq⟩ : ∃ q, l.runs[l.right]? = some q := ⟨_, List.getElem?_eq_getElem (by omega)⟩
    exact merge_right_over x b l q w h hf (by omega) h2 hq
theorem whole_is (x : Nat) (b : Box) (l : Lx.Lex) (w : World) (h : LexIn w x b l) :
    Calls Try.prog 93 #[.pointer (some ⟨x, 13, none⟩)] w fun e w' => e = .returned (.bool (Lx.whole l)) ∧ Below w.heap.size w w' := by
  obtain ⟨ao, cap, e0⟩ := h.wait.shape
  obtain ⟨ao', cap', e1, _⟩ := h.runs.any
  exact whole_any x b l ao ao' cap cap' w h.box e0 e1 h.wid

set_option maxHeartbeats 1000000 in
theorem work_any (x : Nat) (b : Box) (l : Lx.Lex) (n : Nat) (w : World) (h : LexIn w x b l) (hs : Sound l) (hn : n ≤ 1000000000000000000) :
    Calls Try.prog 71 #[.pointer (some ⟨x, 13, none⟩), .int .i64 (n : Int)] w fun e w' => e = .returned (.tuple #[]) ∧ ∃ b', LexIn w' x b' (Lx.work n l) ∧ b.same b' ∧ Only (lfoot x b) w w' ∧ ∀ k, lfoot x b' k → lfoot x b k ∨ w.heap.size ≤ k := by
  have HS : Hid (Sound l) := hs
  have HL : Hid (LexIn w x b l) := h
  clear h hs
  go_enter Try.func71, Try.ntmps71
  go_wp2_with fail
  go_loopw [4] (fun i wr => ∃ (k : Nat) (b' : Box), k ≤ n ∧ i = .int .i64 k ∧ LexIn wr x b' (Lx.work k l) ∧ b.same b' ∧ Only (lfoot x b) w wr ∧ ∀ q, lfoot x b' q → lfoot x b q ∨ w.heap.size ≤ q) (fun i _ => n - (intOf i).toNat)
  case atStart => exact ⟨0, b, Nat.zero_le _, rfl, HL.out, Box.same.refl b, Only.refl _ _, fun q hq => .inl hq⟩
  case round =>
    obtain ⟨k, b', hk, rfl, hL, hsm, hO, hQ⟩ := hrel
    have HL' : Hid (LexIn wr x b' (Lx.work k l)) := hL
    have HO : Hid (Only (lfoot x b) w wr) := hO
    have HQ : Hid (∀ q, lfoot x b' q → lfoot x b q ∨ w.heap.size ≤ q) := hQ
    have HM : Hid (b.same b') := hsm
    clear hL hO hQ hsm
    have HW : Hid (Calls Try.prog 93 #[.pointer (some ⟨x, 13, none⟩)] wr fun e w' => e = .returned (.bool (Lx.whole (Lx.work k l))) ∧ Below wr.heap.size wr w') := whole_is x b' _ wr HL'.out
    by_cases hlt : k < n
    · have d1 : decide ((k : Int) < (n : Int)) = true := by rw [decide_eq_true_eq]; omega
      have d1' : decide (k < n) = true := by rw [decide_eq_true_eq]; omega
      cases hwh : Lx.whole (Lx.work k l)
      · rw [hwh] at HW
        have FT := HS.out k
        go_wp2_with fail
        refine HW.out.mono ?_
        rintro e w1 ⟨rfl, hb1⟩
        have HL1 : Hid (LexIn w1 x b' (Lx.work k l)) := HL'.out.below hb1
        obtain ⟨aw, capw, ew⟩ := HL1.out.wait.shape
        have g13 := HL1.out.box.g13
        rw [ew] at g13
        by_cases hwt : (Lx.work k l).waiting = []
        · have hwl : (Lx.work k l).waiting.length = 0 := by rw [hwt]; rfl
          rw [hwl] at g13
          have d2 : decide ((0 : Int) < (0 : Int)) = false := rfl
          have HT : Hid (Calls Try.prog 95 #[.pointer (some ⟨x, 13, none⟩)] w1 _) := merge_any x b' _ w1 HL1.out FT.1 (FT.2 hwh hwt)
          go_wp2_with fail
          refine HT.out.mono ?_
          rintro e w2 ⟨rfl, b2, hL2, hs2, hO2, hQ2⟩
          go_wp2_with fail
          go_roundw
          case rel =>
            refine ⟨k + 1, b2, by omega, by go_num, ?_, HM.out.trans hs2, (HO.out.trans (Only.of_below hb1)).step hO2 HQ.out, fun q hq => ?_⟩
            · show LexIn w2 x b2 (Lx.step (Lx.work k l))
              unfold Lx.step
              rw [if_neg (by rw [hwh]; simp), if_pos hwt]
              exact hL2
            · rcases hQ2 q hq with h | h
              · exact HQ.out q h
              · right
                have := HO.out.size
                have := hb1.size
                omega
          case measure => simp [intOf]; omega
        · have hwl : 0 < (Lx.work k l).waiting.length := List.length_pos_iff.2 hwt
          have d2 : decide ((0 : Int) < ((Lx.work k l).waiting.length : Int)) = true := by rw [decide_eq_true_eq]; omega
          have d2' : decide (0 < (Lx.work k l).waiting.length) = true := by rw [decide_eq_true_eq]; omega
          have HT : Hid (Calls Try.prog 94 #[.pointer (some ⟨x, 13, none⟩)] w1 _) := take_any x b' _ w1 HL1.out FT.1 hwt
          go_wp2_with fail
          refine HT.out.mono ?_
          rintro e w2 ⟨rfl, b2, hL2, hs2, hO2, hQ2⟩
          go_wp2_with fail
          go_roundw
          case rel =>
            refine ⟨k + 1, b2, by omega, by go_num, ?_, HM.out.trans hs2, (HO.out.trans (Only.of_below hb1)).step hO2 HQ.out, fun q hq => ?_⟩
            · show LexIn w2 x b2 (Lx.step (Lx.work k l))
              unfold Lx.step
              rw [if_neg (by rw [hwh]; simp), if_neg hwt]
              exact hL2
            · rcases hQ2 q hq with h | h
              · exact HQ.out q h
              · right
                have := HO.out.size
                have := hb1.size
                omega
          case measure => simp [intOf]; omega
      · rw [hwh] at HW
        go_wp2_with fail
        refine HW.out.mono ?_
        rintro e w1 ⟨rfl, hb1⟩
        go_wp2_with fail
        go_end0
        refine ⟨rfl, b', ?_, HM.out, HO.out.trans (Only.of_below hb1), HQ.out⟩
        have : Lx.work n l = Lx.work k l := by
          have e : n = k + (n - k) := by omega
          rw [e, Lx.work_add, Lx.work_whole _ hwh]
        rw [this]
        exact HL'.out.below hb1
    · have d1 : decide ((k : Int) < (n : Int)) = false := by rw [decide_eq_false_iff_not]; omega
      have d1' : decide (k < n) = false := by rw [decide_eq_false_iff_not]; omega
      go_wp2_with fail
      go_end0
      obtain rfl : k = n := by omega
      exact ⟨rfl, b', HL'.out, HM.out, HO.out, HQ.out⟩

end Go.Proofs.Ythkndfkkgncjfab

namespace Go.Proofs.Ythkndfkkgncjfab
open Go.RowKit
set_option maxRecDepth 100000

theorem sound_begin (ws : List Lx.Rw) (hok : ∀ r ∈ ws, r.at' ≤ r.doc.size) (hl : (Lx.all ws).length ≤ 3000) (hs : ∀ r ∈ ws, r.doc.size ≤ 40 ∧ r.id ≤ 9000000000000000) (v : Nat) : Sound (Lx.work v (Lx.begin' ws)) := by
  intro u
  rw [← Lx.work_add]
  rcases Lx.work_stage (fun i d => d.size ≤ 40 ∧ i ≤ 9000000000000000) ws hok hs (v + u) with h | h | ⟨k, hk, h⟩
  · refine ⟨⟨?_, ?_, ?_, ?_, ?_, ?_, ?_⟩, fun _ hw => absurd hw h.wait⟩
    · have := congrArg List.length h.rest
      rw [List.length_append] at this; omega
    · rw [h.mg]; exact Nat.zero_le _
    · rw [h.wid]; exact Nat.zero_le _
    · rw [h.st.1]; exact Nat.zero_le _
    · rw [h.st.2.1]; exact Nat.zero_le _
    · rw [h.st.2.2]; exact Nat.zero_le _
    · intro r hr
      have h1 := h.pr r hr
      have h2 := h.ok r hr
      exact ⟨h1.1, by omega, h1.2⟩
  · obtain ⟨h1, h2, h3, h4, h5, h6, h7, h8, h9⟩ := h
    refine ⟨⟨?_, ?_, ?_, ?_, ?_, ?_, ?_⟩, fun hh _ => by rw [h1] at hh; cases hh⟩
    · rw [h2.length_eq]; exact hl
    · rw [h5]; exact Nat.zero_le _
    · omega
    · omega
    · omega
    · omega
    · rw [h4]; intro r hr; cases hr
  · have e := h.perm.length_eq
    have e1 := fin_le (Lx.work (v + u) (Lx.begin' ws))
    have e2 := middle_le (Lx.work (v + u) (Lx.begin' ws))
    have e3 := h.short
    have e4 := h.wid
    have e5 := h.slt
    have e6 := h.lm
    have e7 := h.rf
    have e8 := h.len
    refine ⟨⟨?_, ?_, ?_, ?_, ?_, ?_, ?_⟩, fun _ _ => by omega⟩
    · omega
    · omega
    · omega
    · omega
    · omega
    · omega
    · rw [h.wait]; intro r hr; cases hr

theorem OwnR.toW {w : World} {v : Value} {l : List Lx.Rw} (h : OwnR w 0 v l) : OwnW w v l := by
  rcases h.2 with ⟨e, hn⟩ | ⟨g, cap, cur, e, _, hg, h1, h2, h3, h4⟩
  · refine .inl ⟨List.length_eq_zero_iff.1 hn, none, 0, e, fun a ha => by cases ha⟩
  · exact .inr ⟨g, 0, cap, cur, by rw [e, Nat.zero_mul], hg, h1, h2, by rw [h3, Nat.zero_add], by rw [Nat.zero_mul, List.drop_zero]; exact h4⟩
theorem grown_only' {w w3 : World} {o : Obj} {v : Value} (h : (w.alloc o).grownBy w3 v.ownBlock) : Only (fun k => v.ownBlock = some k) w w3 :=
  (Only.of_below ((Below.refl _ _).alloc (Nat.le_refl _) o)).trans (Only.grown h (fun _ hk => hk))
/-- one row more among those that wait -/
theorem LexIn.wait_more {w w3 : World} {x g' cap' : Nat} {b : Box} {l : Lx.Lex} {r : Lx.Rw} {o : Obj} (h : LexIn w x b l) (hv : OwnR w 0 b.c0 l.waiting) (h1 : w3.ownsRow 0 159 3 (.slice (some ⟨g', 0, none⟩) (l.waiting.length + 1) cap') (l.waiting.length + 1) (RW l.waiting ++ RW1 r))
    (h2 : (w.alloc o).grownBy w3 b.c0.ownBlock) (h3 : b.c0.ownBlock = some g' ∨ g' = w.heap.size + 1) :
    BoxAt w3 x b ∧
    LexIn (w3.setCell ⟨x, 13, none⟩ (.slice (some ⟨g', 0, none⟩) (l.waiting.length + 1) cap')) x { b with c0 := .slice (some ⟨g', 0, none⟩) (l.waiting.length + 1) cap' } { l with waiting := l.waiting ++ [r] } ∧
    OwnR (w3.setCell ⟨x, 13, none⟩ (.slice (some ⟨g', 0, none⟩) (l.waiting.length + 1) cap')) 0 (.slice (some ⟨g', 0, none⟩) (l.waiting.length + 1) cap') (l.waiting ++ [r]) ∧
    Only (lfoot x b) w (w3.setCell ⟨x, 13, none⟩ (.slice (some ⟨g', 0, none⟩) (l.waiting.length + 1) cap')) ∧
    ∀ k, lfoot x { b with c0 := .slice (some ⟨g', 0, none⟩) (l.waiting.length + 1) cap' } k → lfoot x b k ∨ w.heap.size ≤ k := by
  have ho := grown_only' h2
  have hx1 := hv.apart h.box
  have hb := h.box.only ho hx1
  have hr : OwnR w3 0 (.slice (some ⟨g', 0, none⟩) (l.waiting.length + 1) cap') (l.waiting ++ [r]) := OwnR.more h1
  have hm := h.runs.only ho (fun q hq e => h.a1 q e hq)
  have hg := h.mg.only ho (fun q hq e => h.a2 q e hq)
  have hap : ∀ u : Value, (∀ q, u.ownBlock = some q → q < w.heap.size) → ap b.c0 u → ap (.slice (some ⟨g', 0, none⟩) (l.waiting.length + 1) cap') u := fun u hu ha q hq e => by
    simp only [Value.ownBlock, Option.some.injEq] at hq
    rcases h3 with h3 | h3
    · exact ha q (by rw [h3, hq]) e
    · have := hu q e; omega
  have hrs := hr.ne hb (.slice (some ⟨g', 0, none⟩) (l.waiting.length + 1) cap') 13
  refine ⟨hb, ⟨hb.s13 _, hrs.toW, hm.ne hb _ _, h.wid, hg.ne hb _ _, h.st, h.lf, h.rg, hap _ h.runs.lt h.a1, hap _ h.mg.lt h.a2, h.a3⟩, hrs, ?_, ?_⟩
  · exact (ho.mono (fun k hk => .inr (.inl hk))).trans (Only.setCell _ _ (.inl rfl))
  · intro k hk
    rcases hk with hk | hk | hk | hk
    · exact .inl (.inl hk)
    · simp only [Value.ownBlock, Option.some.injEq] at hk
      rcases h3 with h3 | h3
      · exact .inl (.inr (.inl (by rw [h3, hk])))
      · right; omega
    · exact .inl (.inr (.inr (.inl hk)))
    · exact .inl (.inr (.inr (.inr hk)))

set_option maxHeartbeats 1000000 in
theorem lexAdd_any (x : Nat) (b : Box) (l : Lx.Lex) (id : Nat) (s : ByteArray) (w : World) (h : LexIn w x b l) (hv : OwnR w 0 b.c0 l.waiting) (hl : l.waiting.length ≤ 1000) :
    Calls Try.prog 96 #[.pointer (some ⟨x, 13, none⟩), .int .i64 (id : Int), .string s] w fun e w' => e = .returned (.tuple #[]) ∧ ∃ b', LexIn w' x b' { l with waiting := l.waiting ++ [⟨id, s, 0⟩] } ∧ OwnR w' 0 b'.c0 (l.waiting ++ [⟨id, s, 0⟩]) ∧ b.same b' ∧ Only (lfoot x b) w w' ∧ ∀ k, lfoot x b' k → lfoot x b k ∨ w.heap.size ≤ k := by
  obtain ⟨i0, hi, hz0, hz1, hz2⟩ := info_parts Try.info159
  have g13 := h.box.g13
  have f13 := h.box.free 13
  have hap := hv.apart h.box
  have hrw := Lx.rest_whole id s
  go_enter Try.func96, Try.ntmps96
  go_wp2_with (at_builtin; refine wpList_append_lies _ rfl _ _ 60 rfl 0 159 i0 (.agg #[.int .i64 0, .int .i64 0, .string ⟨#[]⟩]) 3 32 Try.underlying60 hi hz0 hz1 hz2 rfl (by decide) _ _ _ rfl (World.ownsRow.alloc hv _) ⟨w.heap.size, 0, none⟩ 1 1 (RW1 ⟨id, s, 0⟩) rfl rfl (by rw [RW1, hrw]; exact World.news_of_block (cs := #[.int .i64 (id : Int), .int .i64 0, .string s]) (heap_alloc_new w _)) (by intro u hu2; simp [RW1] at hu2; rcases hu2 with rfl | rfl | rfl <;> rfl) (by decide) (by unfold maxLen; omega) (by omega) (Nat.zero_le _) (w.heap.size + 1) (by simp) ?_; intro g' cap' w3 hown3 hgrow3 hat3 hlt3; have R := LexIn.wait_more h hv hown3 hgrow3 hat3; have c33 := R.1.g13; have f33 := R.1.free 13)
  go_end0
  exact ⟨rfl, { b with c0 := .slice (some ⟨g', 0, none⟩) (l.waiting.length + 1) cap' }, R.2.1, R.2.2.1, rfl, R.2.2.2.1, R.2.2.2.2⟩

end Go.Proofs.Ythkndfkkgncjfab

namespace Go.Proofs.Ythkndfkkgncjfab
open Go.RowKit
set_option maxRecDepth 100000

set_option maxHeartbeats 400000 in
theorem behind_any (i t : Int) (o q : Int) (w : World) :
    Calls Try.prog 70 #[.agg #[.int .i64 i, .int .i64 t], .agg #[.int .i64 o, .int .i64 q]] w fun e w' => e = .returned (.bool (decide (o < i) || (o == i && decide (q < t)))) ∧ Below w.heap.size w w' := by
  have hb2 : ∀ o1 o2, Below w.heap.size w ((w.alloc o1).alloc o2) := fun o1 o2 => ((Below.refl _ _).alloc (Nat.le_refl _) _).alloc (by simp) _
  by_cases h1 : o < i
  · have d1 : decide (o < i) = true := by rw [decide_eq_true_eq]; exact h1
    go_enter Try.func70, Try.ntmps70
    go_wp2_with fail
    go_ret
    exact ⟨by simp [h1], hb2 _ _⟩
  · have d1 : decide (o < i) = false := by rw [decide_eq_false_iff_not]; exact h1
    by_cases h2 : o = i
    · subst h2
      have d2 : (o == o) = true := by simp
      by_cases h3 : q < t
      · have d3 : decide (q < t) = true := by rw [decide_eq_true_eq]; exact h3
        go_enter Try.func70, Try.ntmps70
        go_wp2_with fail
        go_ret
        exact ⟨by simp, hb2 _ _⟩
      · have d3 : decide (q < t) = false := by rw [decide_eq_false_iff_not]; exact h3
        go_enter Try.func70, Try.ntmps70
        go_wp2_with fail
        go_ret
        exact ⟨by simp, hb2 _ _⟩
    · have d2 : (o == i) = false := by rw [beq_eq_false_iff_ne]; exact h2
      have d2' : (i == o) = false := by rw [beq_eq_false_iff_ne]; exact fun e => h2 e.symm
      go_enter Try.func70, Try.ntmps70
      go_wp2_with fail
      go_ret
      exact ⟨by simp, hb2 _ _⟩

theorem OwnO.cells' {w : World} {B : Nat} {v : Value} {l : List Do.Oc} (h : OwnO w B v l) : ∃ ao cap, v = .slice ao l.length cap ∧ ∀ k o, l[k]? = some o → ∃ g, ao = some ⟨g, 0, none⟩ ∧ w.cell? ⟨g, k * 2, none⟩ = some (.int .i64 (o.id : Int)) ∧ w.cell? ⟨g, k * 2 + 1, none⟩ = some (.int .i64 (o.at' : Int)) := by
  rcases h.shape with ⟨rfl, rfl⟩ | ⟨g, cap, rfl, _, _⟩
  · exact ⟨none, 0, rfl, fun k c hc => by simp at hc⟩
  · exact ⟨_, cap, rfl, fun k c hc => ⟨g, rfl, h.cell rfl k c hc⟩⟩
/-- a hit's own cells -/
def HAt (w : World) (g : Nat) (i t : Int) : Prop := w.heap[g]? = some (.cells #[.int .i64 i, .int .i64 t] 44 (0, 0))
theorem HAt.c0 {w : World} {g : Nat} {i t : Int} (h : HAt w g i t) : w.cell? ⟨g, 0, none⟩ = some (.int .i64 i) := by rw [cell_of_row w g 0 _ 44 (0, 0) h]; rfl
theorem HAt.c1 {w : World} {g : Nat} {i t : Int} (h : HAt w g i t) : w.cell? ⟨g, 1, none⟩ = some (.int .i64 t) := by rw [cell_of_row w g 1 _ 44 (0, 0) h]; rfl
theorem HAt.free {w : World} {g : Nat} {i t : Int} (h : HAt w g i t) (j : Nat) : w.frozen? ⟨g, j, none⟩ = false := frozen_of_row w g j _ 44 h
theorem HAt.below {w w' : World} {g : Nat} {i t : Int} (h : HAt w g i t) (hb : Below w.heap.size w w') : HAt w' g i t := (hb.block g (lt_of_block h)).trans h
theorem HAt.s0 {w : World} {g : Nat} {i t : Int} (h : HAt w g i t) (u : Int) : HAt (w.setCell ⟨g, 0, none⟩ (.int .i64 u)) g u t := (heap_setCell_same w g 0 _ 44 _ h).trans rfl
theorem HAt.s1 {w : World} {g : Nat} {i t : Int} (h : HAt w g i t) (u : Int) : HAt (w.setCell ⟨g, 1, none⟩ (.int .i64 u)) g i u := (heap_setCell_same w g 1 _ 44 _ h).trans rfl
theorem HAt.other {w : World} {g : Nat} {i t : Int} (h : HAt w g i t) (p : Addr) (u : Value) (hne : g ≠ p.block) : HAt (w.setCell p u) g i t := (Below.heap_setCell w p u g hne).trans h
/-- the hit that is held: none yet, or one -/
def hv (o : Option Do.Oc) : Int × Int × Bool := match o with
  | none => (0, 0, false)
  | some q => ((q.id : Int), (q.at' : Int), true)

set_option maxHeartbeats 1000000 in
theorem first_any (v : Value) (B : Nat) (m : List Do.Oc) (i t : Int) (w : World) (h : OwnO w B v m) (hl : m.length ≤ 1000000) :
    Calls Try.prog 42 #[v, .agg #[.int .i64 i, .int .i64 t]] w fun e w' => e = .returned (.tuple #[.agg #[.int .i64 (hv (Lx.sel m i t)).1, .int .i64 (hv (Lx.sel m i t)).2.1], .bool (hv (Lx.sel m i t)).2.2]) ∧ Below w.heap.size w w' := by
  obtain ⟨av, capo, rfl, hc⟩ := h.cells'
  have HC : Hid (∀ k o, m[k]? = some o → ∃ g, av = some (⟨g, 0, none⟩ : Addr) ∧ w.cell? ⟨g, k * 2, none⟩ = some (.int .i64 (o.id : Int)) ∧ w.cell? ⟨g, k * 2 + 1, none⟩ = some (.int .i64 (o.at' : Int))) := hc
  clear hc
  have z1 := heap_alloc_new w (.cells #[.int .i64 i, .int .i64 t] 44)
  have z2 := heap_alloc_new (w.alloc (.cells #[.int .i64 i, .int .i64 t] 44)) (.cells #[.int .i64 0, .int .i64 0] 44)
  have z3 := heap_alloc_new ((w.alloc (.cells #[.int .i64 i, .int .i64 t] 44)).alloc (.cells #[.int .i64 0, .int .i64 0] 44)) (.cells #[.int .i64 0, .int .i64 0] 44)
  have zb : Below w.heap.size w (((w.alloc (.cells #[.int .i64 i, .int .i64 t] 44)).alloc (.cells #[.int .i64 0, .int .i64 0] 44)).alloc (.cells #[.int .i64 0, .int .i64 0] 44)) := (((Below.refl _ _).alloc (Nat.le_refl _) _).alloc (by simp) _).alloc (by simp; omega) _
  have zP : HAt (((w.alloc (.cells #[.int .i64 i, .int .i64 t] 44)).alloc (.cells #[.int .i64 0, .int .i64 0] 44)).alloc (.cells #[.int .i64 0, .int .i64 0] 44)) w.heap.size i t := HAt.below (HAt.below z1 ((Below.refl _ _).alloc (Nat.le_refl _) _)) ((Below.refl _ _).alloc (Nat.le_refl _) _)
  have zR : HAt (((w.alloc (.cells #[.int .i64 i, .int .i64 t] 44)).alloc (.cells #[.int .i64 0, .int .i64 0] 44)).alloc (.cells #[.int .i64 0, .int .i64 0] 44)) (w.heap.size + 1) 0 0 := HAt.below (by have := z2; simpa [HAt] using this) ((Below.refl _ _).alloc (Nat.le_refl _) _)
  have zL : HAt (((w.alloc (.cells #[.int .i64 i, .int .i64 t] 44)).alloc (.cells #[.int .i64 0, .int .i64 0] 44)).alloc (.cells #[.int .i64 0, .int .i64 0] 44)) (w.heap.size + 1 + 1) 0 0 := by have := z3; simpa [HAt] using this
  clear z1 z2 z3
  go_enter Try.func42, Try.ntmps42
  go_wp2_with fail
  generalize ((w.alloc (.cells #[.int .i64 i, .int .i64 t] 44)).alloc (.cells #[.int .i64 0, .int .i64 0] 44)).alloc (.cells #[.int .i64 0, .int .i64 0] 44) = w0 at *
  go_loopw [7, 13] (fun f u wr => ∃ k : Nat, k ≤ m.length ∧ u = .int .i64 k ∧ f = .bool (hv (Lx.selTo m i t k)).2.2 ∧ HAt wr w.heap.size i t ∧ HAt wr (w.heap.size + 1) 0 0 ∧ HAt wr (w.heap.size + 1 + 1) (hv (Lx.selTo m i t k)).1 (hv (Lx.selTo m i t k)).2.1 ∧ Below w.heap.size w wr) (fun _ u _ => m.length - (intOf u).toNat)
  case atStart => exact ⟨0, Nat.zero_le _, rfl, rfl, zP, zR, zL, zb⟩
  case round =>
    obtain ⟨k, hk, rfl, rfl, hP, hR, hL, hb⟩ := hrel
    clear zP zR zL zb
    by_cases hlt : k < m.length
    · obtain ⟨o, ho⟩ : ∃ o, m[k]? = some o := ⟨m[k], List.getElem?_eq_getElem hlt⟩
      obtain ⟨g, rfl, y0, y1⟩ := HC.out k o ho
      have y0' := cell_later hb y0
      have y1' := cell_later hb y1
      have HS : Hid (Lx.selTo m i t (k + 1) = if Do.before o i t then Lx.selTo m i t k else match Lx.selTo m i t k with | none => some o | some q => if Do.before o (q.id : Int) (q.at' : Int) then some o else some q) := by
        show _ = _
        rw [Lx.selTo, ho]
        simp only
        cases Lx.selTo m i t k <;> rfl
      clear ho y0 y1
      have hal : Below wr.heap.size wr (wr.alloc (.cells #[.int .i64 (o.id : Int), .int .i64 (o.at' : Int)] 44)) := (Below.refl _ _).alloc (Nat.le_refl _) _
      have hPa := hP.below hal
      have hRa := hR.below hal
      have hLa := hL.below hal
      have hHa : HAt (wr.alloc (.cells #[.int .i64 (o.id : Int), .int .i64 (o.at' : Int)] 44)) wr.heap.size (o.id : Int) (o.at' : Int) := heap_alloc_new wr _
      have ba := hb.trans (hal.mono hb.size)
      have p0 := hPa.c0
      have p1 := hPa.c1
      obtain ⟨q, hq⟩ : ∃ q, Do.before o i t = q := ⟨_, rfl⟩
      have HB : Hid (∀ w, Calls Try.prog 70 #[.agg #[.int .i64 i, .int .i64 t], .agg #[.int .i64 (o.id : Int), .int .i64 (o.at' : Int)]] w fun e w' => e = .returned (.bool q) ∧ Below w.heap.size w w') := fun w => by rw [← hq]; exact behind_any i t _ _ w
      rw [hq] at HS
      cases q
      · simp only [Bool.false_eq_true, if_false] at HS
        cases hsel : Lx.selTo m i t k with
        | none =>
          rw [hsel] at HS hL hLa
          simp only at HS
          have HN : Hid (Lx.selTo m i t (k + 1) = some o) := HS
          simp only [hv] at hLa hL
          go_wp2_with fail
          refine (HB.out _).mono ?_
          rintro e w2 ⟨rfl, hb2⟩
          have hP2 := hPa.below hb2
          have hR2 := hRa.below hb2
          have hL2 := hLa.below hb2
          have hH2 := hHa.below hb2
          have b2 := ba.trans (hb2.mono ba.size)
          have L1 := hL2.s0 (o.id : Int)
          have r1 := hH2.c1
          have r0 := hH2.c0
          have l0 := hL2.c0
          have lf0 := hL2.free 0
          have l1 := L1.c1
          have lf1 := L1.free 1
          have L2 : Hid (HAt _ _ _ _) := L1.s1 (o.at' : Int)
          have P2 : Hid (HAt _ _ _ _) := (hP2.other ⟨w.heap.size + 1 + 1, 0, none⟩ (.int .i64 (o.id : Int)) (show w.heap.size ≠ w.heap.size + 1 + 1 by omega)).other ⟨w.heap.size + 1 + 1, 1, none⟩ (.int .i64 (o.at' : Int)) (show w.heap.size ≠ w.heap.size + 1 + 1 by omega)
          have R2 : Hid (HAt _ _ _ _) := (hR2.other ⟨w.heap.size + 1 + 1, 0, none⟩ (.int .i64 (o.id : Int)) (show w.heap.size + 1 ≠ w.heap.size + 1 + 1 by omega)).other ⟨w.heap.size + 1 + 1, 1, none⟩ (.int .i64 (o.at' : Int)) (show w.heap.size + 1 ≠ w.heap.size + 1 + 1 by omega)
          have B2 : Hid (Below _ _ _) := (b2.setCell (p := ⟨w.heap.size + 1 + 1, 0, none⟩) (by show w.heap.size ≤ w.heap.size + 1 + 1; omega) (.int .i64 (o.id : Int))).setCell (p := ⟨w.heap.size + 1 + 1, 1, none⟩) (by show w.heap.size ≤ w.heap.size + 1 + 1; omega) (.int .i64 (o.at' : Int))
          clear L1
          go_wp2_with fail
          go_roundw
          case rel => exact ⟨k + 1, by omega, by go_num, by rw [HN.out]; rfl, P2.out, R2.out, by rw [HN.out]; exact L2.out, B2.out⟩
          case measure => simp [intOf]; omega
        | some p =>
          rw [hsel] at HS hL hLa
          simp only at HS
          simp only [hv] at hLa hL
          obtain ⟨q2, hq2⟩ : ∃ q2, Do.before o (p.id : Int) (p.at' : Int) = q2 := ⟨_, rfl⟩
          have HB2 : Hid (∀ w, Calls Try.prog 70 #[.agg #[.int .i64 (p.id : Int), .int .i64 (p.at' : Int)], .agg #[.int .i64 (o.id : Int), .int .i64 (o.at' : Int)]] w fun e w' => e = .returned (.bool q2) ∧ Below w.heap.size w w') := fun w => by rw [← hq2]; exact behind_any _ _ _ _ w
          rw [hq2] at HS
          go_wp2_with fail
          refine (HB.out _).mono ?_
          rintro e w2 ⟨rfl, hb2⟩
          have hP2 := hPa.below hb2
          have hR2 := hRa.below hb2
          have hL2 := hLa.below hb2
          have hH2 := hHa.below hb2
          have b2 := ba.trans (hb2.mono ba.size)
          have r0 := hH2.c0
          have r1 := hH2.c1
          have l0 := hL2.c0
          have l1 := hL2.c1
          go_wp2_with fail
          refine (HB2.out _).mono ?_
          rintro e w3 ⟨rfl, hb3⟩
          have hP3 := hP2.below hb3
          have hR3 := hR2.below hb3
          have hL3 := hL2.below hb3
          have hH3 := hH2.below hb3
          have b3 := b2.trans (hb3.mono b2.size)
          clear r0 r1 l0 l1
          cases q2
          · have HN : Hid (Lx.selTo m i t (k + 1) = some p) := by show _ = _; rw [HS.out]; simp
            go_wp2_with fail
            go_roundw
            case rel => exact ⟨k + 1, by omega, by go_num, by rw [HN.out]; rfl, hP3, hR3, by rw [HN.out]; exact hL3, b3⟩
            case measure => simp [intOf]; omega
          · have HN : Hid (Lx.selTo m i t (k + 1) = some o) := by show _ = _; rw [HS.out]; simp
            have L1 := hL3.s0 (o.id : Int)
            have r1 := hH3.c1
            have r0 := hH3.c0
            have l0 := hL3.c0
            have lf0 := hL3.free 0
            have l1 := L1.c1
            have lf1 := L1.free 1
            have L2 : Hid (HAt _ _ _ _) := L1.s1 (o.at' : Int)
            have P2 : Hid (HAt _ _ _ _) := (hP3.other ⟨w.heap.size + 1 + 1, 0, none⟩ (.int .i64 (o.id : Int)) (show w.heap.size ≠ w.heap.size + 1 + 1 by omega)).other ⟨w.heap.size + 1 + 1, 1, none⟩ (.int .i64 (o.at' : Int)) (show w.heap.size ≠ w.heap.size + 1 + 1 by omega)
            have R2 : Hid (HAt _ _ _ _) := (hR3.other ⟨w.heap.size + 1 + 1, 0, none⟩ (.int .i64 (o.id : Int)) (show w.heap.size + 1 ≠ w.heap.size + 1 + 1 by omega)).other ⟨w.heap.size + 1 + 1, 1, none⟩ (.int .i64 (o.at' : Int)) (show w.heap.size + 1 ≠ w.heap.size + 1 + 1 by omega)
            have B2 : Hid (Below _ _ _) := (b3.setCell (p := ⟨w.heap.size + 1 + 1, 0, none⟩) (by show w.heap.size ≤ w.heap.size + 1 + 1; omega) (.int .i64 (o.id : Int))).setCell (p := ⟨w.heap.size + 1 + 1, 1, none⟩) (by show w.heap.size ≤ w.heap.size + 1 + 1; omega) (.int .i64 (o.at' : Int))
            clear L1
            go_wp2_with fail
            go_roundw
            case rel => exact ⟨k + 1, by omega, by go_num, by rw [HN.out]; rfl, P2.out, R2.out, by rw [HN.out]; exact L2.out, B2.out⟩
            case measure => simp [intOf]; omega
      · simp only [if_true] at HS
        go_wp2_with fail
        refine (HB.out _).mono ?_
        rintro e w2 ⟨rfl, hb2⟩
        have hP2 := hPa.below hb2
        have hR2 := hRa.below hb2
        have hL2 := hLa.below hb2
        have hH2 := hHa.below hb2
        have b2 := ba.trans (hb2.mono ba.size)
        go_wp2_with fail
        go_roundw
        case rel => exact ⟨k + 1, by omega, by go_num, by rw [HS.out], hP2, hR2, by rw [HS.out]; exact hL2, b2⟩
        case measure => simp [intOf]; omega
    · have hke : k = m.length := by omega
      subst hke
      have l0 := hL.c0
      have l1 := hL.c1
      have r0 := hR.c0
      have r1 := hR.c1
      have rf0 := hR.free 0
      have R1 := hR.s0 (hv (Lx.selTo m i t m.length)).1
      have r2 := R1.c1
      have rf1 := R1.free 1
      have R2 : Hid (HAt _ _ _ _) := R1.s1 (hv (Lx.selTo m i t m.length)).2.1
      have B2 : Hid (Below _ _ _) := (hb.setCell (p := ⟨w.heap.size + 1, 0, none⟩) (by show w.heap.size ≤ w.heap.size + 1; omega) (.int .i64 (hv (Lx.selTo m i t m.length)).1)).setCell (p := ⟨w.heap.size + 1, 1, none⟩) (by show w.heap.size ≤ w.heap.size + 1; omega) (.int .i64 (hv (Lx.selTo m i t m.length)).2.1)
      clear R1
      go_wp2_with fail
      have e0 := R2.out.c0
      have e1 := R2.out.c1
      refine bodyPost_ret (by simp [results, Try.results42, go_sem, e0, e1]; try rfl) rfl ?_
      exact ⟨rfl, B2.out⟩

end Go.Proofs.Ythkndfkkgncjfab
