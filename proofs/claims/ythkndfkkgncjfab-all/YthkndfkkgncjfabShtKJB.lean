/- ShtH, ShtI, ShtJ, StS, ShtK. -/
import Derived.Test.YthkndfkkgncjfabShtKJA
import Derived.Test.YthkndfkkgncjfabFolGJG
import Derived.Test.YthkndfkkgncjfabFolGJC
import Derived.Test.YthkndfkkgncjfabRefSJB
namespace Go.Proofs.Ythkndfkkgncjfab
open Go.RowKit
set_option maxRecDepth 100000

/-- four rows and their block -/
structure Four (B : Nat) (w : World) (x : Nat) (vm vf vl vn : Value) (on : Bool) (lf sp hn : Int) (lm lfz ll ln : List Pa.Pg) : Prop where
  blk : PB w x vm vf vl vn on lf sp hn
  m : OwnS w B vm lm
  f : OwnS w B vf lfz
  l : OwnS w B vl ll
  n : OwnS w B vn ln
section
variable {B : Nat} {w w' : World} {x : Nat} {vm vf vl vn : Value} {on : Bool} {lf sp hn : Int} {lm lfz ll ln : List Pa.Pg}
theorem Four.below (h : Four B w x vm vf vl vn on lf sp hn lm lfz ll ln) (hb : Below w.heap.size w w') : Four B w' x vm vf vl vn on lf sp hn lm lfz ll ln := ⟨h.blk.below hb, h.m.below hb, h.f.below hb, h.l.below hb, h.n.below hb⟩
theorem Four.set0 (h : Four B w x vm vf vl vn on lf sp hn lm lfz ll ln) {u : Value} {k : List Pa.Pg} (hu : OwnS w B u k) : Four B (w.setCell ⟨x, 0, none⟩ u) x u vf vl vn on lf sp hn k lfz ll ln := ⟨h.blk.s0 u, h.blk.keep hu 0 u, h.blk.keep h.f 0 u, h.blk.keep h.l 0 u, h.blk.keep h.n 0 u⟩
theorem Four.set1 (h : Four B w x vm vf vl vn on lf sp hn lm lfz ll ln) {u : Value} {k : List Pa.Pg} (hu : OwnS w B u k) : Four B (w.setCell ⟨x, 1, none⟩ u) x vm u vl vn on lf sp hn lm k ll ln := ⟨h.blk.s1 u, h.blk.keep h.m 1 u, h.blk.keep hu 1 u, h.blk.keep h.l 1 u, h.blk.keep h.n 1 u⟩
theorem Four.set2 (h : Four B w x vm vf vl vn on lf sp hn lm lfz ll ln) {u : Value} {k : List Pa.Pg} (hu : OwnS w B u k) : Four B (w.setCell ⟨x, 2, none⟩ u) x vm vf u vn on lf sp hn lm lfz k ln := ⟨h.blk.s2 u, h.blk.keep h.m 2 u, h.blk.keep h.f 2 u, h.blk.keep hu 2 u, h.blk.keep h.n 2 u⟩
theorem Four.set3 (h : Four B w x vm vf vl vn on lf sp hn lm lfz ll ln) {u : Value} {k : List Pa.Pg} (hu : OwnS w B u k) : Four B (w.setCell ⟨x, 3, none⟩ u) x vm vf vl u on lf sp hn lm lfz ll k := ⟨h.blk.s3 u, h.blk.keep h.m 3 u, h.blk.keep h.f 3 u, h.blk.keep h.l 3 u, h.blk.keep hu 3 u⟩
end

set_option maxHeartbeats 4000000 in
theorem rChange_del (B : Nat) (w : World) (x b : Nat) (p : Pa.Pt) (c : Do.Chg) (vm vf vl vn : Value) (hins : c.ins = false) (hcd : c.doc.size ≤ 40) (hcl : p.live.length ≤ 10000 ∧ p.main.length ≤ 10000 ∧ p.frozen.length ≤ 10000) (hb : 1 ≤ b ∧ b ≤ 80) (hk : Small (Pa.came p c)) (hB : B ≤ w.heap.size) (h : PIn B w x p vm vf vl vn) :
    Calls Try.prog 102 #[.pointer (some ⟨x, 0, none⟩), .agg #[.bool c.ins, .string c.doc, .int .i64 (c.id : Int)], .int .i64 (b : Int)] w fun e w' => e = .returned (.tuple #[]) ∧ (∃ vm' vf' vl' vn', PIn B w' x (Pa.change b p c) vm' vf' vl' vn') ∧ Below B w w' := by
  obtain ⟨i0, hi, hz0, hz1, hz2⟩ := info_parts Try.info165
  have hxl := h.blk.lt
  have HX : Hid (B ≤ x) := h.low
  rw [hins]
  have hb0 : Below w.heap.size w (w.alloc (.cells #[.bool false, .string c.doc, .int .i64 (c.id : Int)] 149)) := (Below.refl _ _).alloc (Nat.le_refl _) _
  have hs0 : (w.alloc (.cells #[.bool false, .string c.doc, .int .i64 (c.id : Int)] 149)).heap.size = w.heap.size + 1 := by simp
  have yn := World.news_of_block (heap_alloc_new w (.cells #[.bool false, .string c.doc, .int .i64 (c.id : Int)] 149))
  have n2 : (w.alloc (.cells #[.bool false, .string c.doc, .int .i64 (c.id : Int)] 149)).cell? ⟨w.heap.size, 2, none⟩ = some (.int .i64 (c.id : Int)) := yn 2 _ rfl
  have h1 := h.below hb0
  have R0 : Four B (w.alloc (.cells #[.bool false, .string c.doc, .int .i64 (c.id : Int)] 149)) x vm vf vl vn (decide (0 < p.left)) (p.left : Int) (p.speed : Int) (p.hand : Int) p.main p.frozen p.live (if p.left = 0 then [] else Pa.next p.main) := ⟨h1.blk, h1.main, h1.frozen, h1.live, h1.next⟩
  have HCA : Hid (Pa.came p c = { p with live := p.live.filter (fun g => !(g.id == c.id)), main := Pa.die c.id p.main, frozen := Pa.die c.id p.frozen }) := by show _ = _; unfold Pa.came; rw [if_neg (by rw [hins]; simp)]
  have hnl : (if p.left = 0 then [] else Pa.next p.main).length ≤ 10000 := by
    split
    · simp
    · have := List.length_filter_le (fun g : Pa.Pg => !g.out) p.main
      unfold Pa.next; omega
  have hnx : (w.heap.size : Nat) ≠ x := by omega
  have B0 : Below B w (w.alloc (.cells #[.bool false, .string c.doc, .int .i64 (c.id : Int)] 149)) := hb0.mono hB
  clear yn h h1
  go_enter Try.func102, Try.ntmps102
  go_wp2_with fail
  generalize w.alloc (.cells #[.bool false, .string c.doc, .int .i64 (c.id : Int)] 149) = w1 at *
  have s0 : w.heap.size < w1.heap.size := by omega
  clear hb0
  have c2_ := R0.blk.c2
  have HL1 := rLeft_any vl p.live (c.id : Int) w1.drew (R0.l.weaken (Nat.zero_le _)) (by have := hcl.1; omega)
  refine wp_region_held_drew (S := fun w' => w'.cell? ⟨w.heap.size, 2, none⟩ = some (.int .i64 (c.id : Int))) (by kernel_rfl) n2 (fun hHeld => ?_)
  refine wpAnyH_take (i := 0) (v := ?a10) rfl (by kernel_rfl) (by kernel_rfl) (by kernel_rfl) (fun _ _ _ h => h) (Or.inl ⟨by rfl, ?hya10⟩) (by assumption) ?resta10
  case hya10 => intro w hSw; (try dsimp only at hSw); go_simp; (try with_reducible rfl)
  simp only [Act.put]
  refine wpAnyH_take (i := 1) (v := ?a11) rfl (by kernel_rfl) (by kernel_rfl) (by kernel_rfl) (fun _ _ _ h => h) (Or.inl ⟨by rfl, ?hya11⟩) (by assumption) ?resta11
  case hya11 => intro w hSw; (try dsimp only at hSw); go_simp; (try with_reducible rfl)
  simp only [Act.put]
  refine wpAnyH_take (i := 2) (v := ?a12) rfl (by kernel_rfl) (by kernel_rfl) (by kernel_rfl) (fun _ _ _ h => h) (Or.inl ⟨by rfl, ?hya12⟩) (by assumption) ?resta12
  case hya12 => intro w hSw; (try dsimp only at hSw); go_simp; (try with_reducible rfl)
  simp only [Act.put]
  refine wpAnyH_take (i := 3) (v := ?a13) rfl (by kernel_rfl) (by kernel_rfl) (by kernel_rfl) (fun _ _ _ h => h) (Or.inl ⟨by rfl, ?hya13⟩) (by assumption) ?resta13
  case hya13 => intro w hSw; (try dsimp only at hSw); go_simp; (try with_reducible rfl)
  simp only [Act.put]
  refine wpAnyH_take (i := 5) (v := ?a15) rfl (by kernel_rfl) (by kernel_rfl) (by kernel_rfl) (fun _ _ _ h => h) (Or.inl ⟨by rfl, ?hya15⟩) (by assumption) ?resta15
  case hya15 => intro w hSw; (try dsimp only at hSw); go_simp; (try with_reducible rfl)
  simp only [Act.put]
  refine wpAnyH_take (i := 6) (v := ?a16) rfl (by kernel_rfl) (by kernel_rfl) (by kernel_rfl) (fun _ _ _ h => h) (Or.inl ⟨by rfl, ?hya16⟩) (by assumption) ?resta16
  case hya16 => intro w hSw; (try dsimp only at hSw); go_simp; (try with_reducible rfl)
  simp only [Act.put]
  refine wpAnyH_ready (rs := [4]) (by kernel_rfl) (by simp) ?_
  refine AllReadyH.cons rfl (fun K hK => ?_) AllReadyH.nil
  go_simp
  refine hK.out _ _ (by exact hHeld) (fun hHeld => ?_)
  clear hK K
  refine wpAnyH_ready (rs := [7]) (by kernel_rfl) (by simp) ?_
  refine AllReadyH.cons rfl (fun K hK => ?_) AllReadyH.nil
  go_simp
  refine HL1.mono ?_
  rintro e x1 ⟨u1, rfl, hu1, hd1⟩
  have hb1 : Below w1.heap.size w1 x1 := (Below.refl _ _).drew.trans hd1
  have Q1 := R0.below (w' := x1) hb1
  have hsz1 : w1.heap.size ≤ x1.heap.size := hb1.size
  have m1 : x1.cell? ⟨w.heap.size, 2, none⟩ = some (.int .i64 (c.id : Int)) := cell_later (w := w1) hb1 n2
  have D1 : Below B w x1 := B0.trans (Below.mono (w := w1) hb1 (by have := B0.size; omega))
  have hu1' : OwnS x1 w1.heap.size u1 (p.live.filter (Pa.stays (c.id : Int))) := hu1
  obtain ⟨p1, q1, rfl, _⟩ := hu1.any
  have R1 := Q1.set2 (hu1'.weaken (by have := B0.size; omega))
  have d1 := Q1.blk.c2
  have e1 := Q1.blk.free 2
  refine hK.out _ _ m1 (fun hHeld => ?_)
  clear hK K
  refine wpAnyH_take (i := 8) (v := ?b18) rfl (by kernel_rfl) (by kernel_rfl) (by kernel_rfl) (fun _ _ _ h => h) (Or.inl ⟨by rfl, ?hyb18⟩) (by assumption) ?restb18
  case hyb18 => intro w hSw; (try dsimp only at hSw); go_simp; (try with_reducible rfl)
  simp only [Act.put]
  refine wpAnyH_take (i := 9) (v := ?b19) rfl (by kernel_rfl) (by kernel_rfl) (by kernel_rfl) (fun _ _ _ h => h) (Or.inl ⟨by rfl, ?hyb19⟩) (by assumption) ?restb19
  case hyb19 => intro w hSw; (try dsimp only at hSw); go_simp; (try with_reducible rfl)
  simp only [Act.put]
  refine wpAnyH_ready (rs := [10]) (by kernel_rfl) (by simp) ?_
  refine AllReadyH.cons rfl (fun K hK => ?_) AllReadyH.nil
  go_simp
  refine hK.out _ _ (by rw [World.cell?_setCell_other _ _ _ _ (by simp)]; exact m1) (fun hHeld => ?_)
  clear hK K hHeld HL1 c2_ d1 e1
  refine wpAnyH_done (by kernel_rfl) ?_ _
  have B1 : Below B w (x1.setCell ⟨x, 2, none⟩ (.slice p1 (p.live.filter (Pa.stays (c.id : Int))).length q1)) := D1.setCell (p := ⟨x, 2, none⟩) HX.out _
  have n2 : (x1.setCell ⟨x, 2, none⟩ (.slice p1 (p.live.filter (Pa.stays (c.id : Int))).length q1)).cell? ⟨w.heap.size, 2, none⟩ = some (.int .i64 (c.id : Int)) := by rw [World.cell?_setCell_other _ _ _ _ (by simp)]; exact m1
  have z1 : (x1.setCell ⟨x, 2, none⟩ (.slice p1 (p.live.filter (Pa.stays (c.id : Int))).length q1)).heap.size = x1.heap.size := by simp
  clear D1 m1 hb1 hd1 R0 Q1
  generalize (x1.setCell ⟨x, 2, none⟩ (.slice p1 (p.live.filter (Pa.stays (c.id : Int))).length q1)) = y1 at *
  go_wp2_with fail
  have c0_ := R1.blk.c0
  have HL2 := rDied_any vm p.main c.id y1.drew (R1.m.weaken (Nat.zero_le _)) (by have := hcl.2.1; omega)
  refine wp_region_held_drew (S := fun w' => w'.cell? ⟨w.heap.size, 2, none⟩ = some (.int .i64 (c.id : Int))) (by kernel_rfl) n2 (fun hHeld => ?_)
  refine wpAnyH_take (i := 0) (v := ?a20) rfl (by kernel_rfl) (by kernel_rfl) (by kernel_rfl) (fun _ _ _ h => h) (Or.inl ⟨by rfl, ?hya20⟩) (by assumption) ?resta20
  case hya20 => intro w hSw; (try dsimp only at hSw); go_simp; (try with_reducible rfl)
  simp only [Act.put]
  refine wpAnyH_take (i := 1) (v := ?a21) rfl (by kernel_rfl) (by kernel_rfl) (by kernel_rfl) (fun _ _ _ h => h) (Or.inl ⟨by rfl, ?hya21⟩) (by assumption) ?resta21
  case hya21 => intro w hSw; (try dsimp only at hSw); go_simp; (try with_reducible rfl)
  simp only [Act.put]
  refine wpAnyH_take (i := 2) (v := ?a22) rfl (by kernel_rfl) (by kernel_rfl) (by kernel_rfl) (fun _ _ _ h => h) (Or.inl ⟨by rfl, ?hya22⟩) (by assumption) ?resta22
  case hya22 => intro w hSw; (try dsimp only at hSw); go_simp; (try with_reducible rfl)
  simp only [Act.put]
  refine wpAnyH_take (i := 3) (v := ?a23) rfl (by kernel_rfl) (by kernel_rfl) (by kernel_rfl) (fun _ _ _ h => h) (Or.inl ⟨by rfl, ?hya23⟩) (by assumption) ?resta23
  case hya23 => intro w hSw; (try dsimp only at hSw); go_simp; (try with_reducible rfl)
  simp only [Act.put]
  refine wpAnyH_take (i := 5) (v := ?a25) rfl (by kernel_rfl) (by kernel_rfl) (by kernel_rfl) (fun _ _ _ h => h) (Or.inl ⟨by rfl, ?hya25⟩) (by assumption) ?resta25
  case hya25 => intro w hSw; (try dsimp only at hSw); go_simp; (try with_reducible rfl)
  simp only [Act.put]
  refine wpAnyH_take (i := 6) (v := ?a26) rfl (by kernel_rfl) (by kernel_rfl) (by kernel_rfl) (fun _ _ _ h => h) (Or.inl ⟨by rfl, ?hya26⟩) (by assumption) ?resta26
  case hya26 => intro w hSw; (try dsimp only at hSw); go_simp; (try with_reducible rfl)
  simp only [Act.put]
  refine wpAnyH_ready (rs := [4]) (by kernel_rfl) (by simp) ?_
  refine AllReadyH.cons rfl (fun K hK => ?_) AllReadyH.nil
  go_simp
  refine hK.out _ _ (by exact hHeld) (fun hHeld => ?_)
  clear hK K
  refine wpAnyH_ready (rs := [7]) (by kernel_rfl) (by simp) ?_
  refine AllReadyH.cons rfl (fun K hK => ?_) AllReadyH.nil
  go_simp
  refine HL2.mono ?_
  rintro e x2 ⟨u2, rfl, hu2, hd2⟩
  have hb2 : Below y1.heap.size y1 x2 := (Below.refl _ _).drew.trans hd2
  have Q2 := R1.below (w' := x2) hb2
  have hsz2 : y1.heap.size ≤ x2.heap.size := hb2.size
  have m2 : x2.cell? ⟨w.heap.size, 2, none⟩ = some (.int .i64 (c.id : Int)) := cell_later (w := y1) hb2 n2
  have D2 : Below B w x2 := B1.trans (Below.mono (w := y1) hb2 (by have := B1.size; omega))
  have hu2' : OwnS x2 y1.heap.size u2 (Pa.die c.id p.main) := hu2
  obtain ⟨p2, q2, rfl, _⟩ := hu2.any
  have R2 := Q2.set0 (hu2'.weaken (by have := B1.size; omega))
  have d2 := Q2.blk.c0
  have e2 := Q2.blk.free 0
  refine hK.out _ _ m2 (fun hHeld => ?_)
  clear hK K
  refine wpAnyH_take (i := 8) (v := ?b28) rfl (by kernel_rfl) (by kernel_rfl) (by kernel_rfl) (fun _ _ _ h => h) (Or.inl ⟨by rfl, ?hyb28⟩) (by assumption) ?restb28
  case hyb28 => intro w hSw; (try dsimp only at hSw); go_simp; (try with_reducible rfl)
  simp only [Act.put]
  refine wpAnyH_take (i := 9) (v := ?b29) rfl (by kernel_rfl) (by kernel_rfl) (by kernel_rfl) (fun _ _ _ h => h) (Or.inl ⟨by rfl, ?hyb29⟩) (by assumption) ?restb29
  case hyb29 => intro w hSw; (try dsimp only at hSw); go_simp; (try with_reducible rfl)
  simp only [Act.put]
  refine wpAnyH_ready (rs := [10]) (by kernel_rfl) (by simp) ?_
  refine AllReadyH.cons rfl (fun K hK => ?_) AllReadyH.nil
  go_simp
  refine hK.out _ _ (by rw [World.cell?_setCell_other _ _ _ _ (by simp)]; exact m2) (fun hHeld => ?_)
  clear hK K hHeld HL2 c0_ d2 e2
  refine wpAnyH_done (by kernel_rfl) ?_ _
  have B2 : Below B w (x2.setCell ⟨x, 0, none⟩ (.slice p2 (Pa.die c.id p.main).length q2)) := D2.setCell (p := ⟨x, 0, none⟩) HX.out _
  have n2 : (x2.setCell ⟨x, 0, none⟩ (.slice p2 (Pa.die c.id p.main).length q2)).cell? ⟨w.heap.size, 2, none⟩ = some (.int .i64 (c.id : Int)) := by rw [World.cell?_setCell_other _ _ _ _ (by simp)]; exact m2
  have z2 : (x2.setCell ⟨x, 0, none⟩ (.slice p2 (Pa.die c.id p.main).length q2)).heap.size = x2.heap.size := by simp
  clear D2 m2 hb2 hd2 R1 Q2
  generalize (x2.setCell ⟨x, 0, none⟩ (.slice p2 (Pa.die c.id p.main).length q2)) = y2 at *
  go_wp2_with fail
  have c1_ := R2.blk.c1
  have HL3 := rDied_any vf p.frozen c.id y2.drew (R2.f.weaken (Nat.zero_le _)) (by have := hcl.2.2; omega)
  refine wp_region_held_drew (S := fun w' => w'.cell? ⟨w.heap.size, 2, none⟩ = some (.int .i64 (c.id : Int))) (by kernel_rfl) n2 (fun hHeld => ?_)
  refine wpAnyH_take (i := 0) (v := ?a30) rfl (by kernel_rfl) (by kernel_rfl) (by kernel_rfl) (fun _ _ _ h => h) (Or.inl ⟨by rfl, ?hya30⟩) (by assumption) ?resta30
  case hya30 => intro w hSw; (try dsimp only at hSw); go_simp; (try with_reducible rfl)
  simp only [Act.put]
  refine wpAnyH_take (i := 1) (v := ?a31) rfl (by kernel_rfl) (by kernel_rfl) (by kernel_rfl) (fun _ _ _ h => h) (Or.inl ⟨by rfl, ?hya31⟩) (by assumption) ?resta31
  case hya31 => intro w hSw; (try dsimp only at hSw); go_simp; (try with_reducible rfl)
  simp only [Act.put]
  refine wpAnyH_take (i := 2) (v := ?a32) rfl (by kernel_rfl) (by kernel_rfl) (by kernel_rfl) (fun _ _ _ h => h) (Or.inl ⟨by rfl, ?hya32⟩) (by assumption) ?resta32
  case hya32 => intro w hSw; (try dsimp only at hSw); go_simp; (try with_reducible rfl)
  simp only [Act.put]
  refine wpAnyH_take (i := 3) (v := ?a33) rfl (by kernel_rfl) (by kernel_rfl) (by kernel_rfl) (fun _ _ _ h => h) (Or.inl ⟨by rfl, ?hya33⟩) (by assumption) ?resta33
  case hya33 => intro w hSw; (try dsimp only at hSw); go_simp; (try with_reducible rfl)
  simp only [Act.put]
  refine wpAnyH_take (i := 5) (v := ?a35) rfl (by kernel_rfl) (by kernel_rfl) (by kernel_rfl) (fun _ _ _ h => h) (Or.inl ⟨by rfl, ?hya35⟩) (by assumption) ?resta35
  case hya35 => intro w hSw; (try dsimp only at hSw); go_simp; (try with_reducible rfl)
  simp only [Act.put]
  refine wpAnyH_take (i := 6) (v := ?a36) rfl (by kernel_rfl) (by kernel_rfl) (by kernel_rfl) (fun _ _ _ h => h) (Or.inl ⟨by rfl, ?hya36⟩) (by assumption) ?resta36
  case hya36 => intro w hSw; (try dsimp only at hSw); go_simp; (try with_reducible rfl)
  simp only [Act.put]
  refine wpAnyH_ready (rs := [4]) (by kernel_rfl) (by simp) ?_
  refine AllReadyH.cons rfl (fun K hK => ?_) AllReadyH.nil
  go_simp
  refine hK.out _ _ (by exact hHeld) (fun hHeld => ?_)
  clear hK K
  refine wpAnyH_ready (rs := [7]) (by kernel_rfl) (by simp) ?_
  refine AllReadyH.cons rfl (fun K hK => ?_) AllReadyH.nil
  go_simp
  refine HL3.mono ?_
  rintro e x3 ⟨u3, rfl, hu3, hd3⟩
  have hb3 : Below y2.heap.size y2 x3 := (Below.refl _ _).drew.trans hd3
  have Q3 := R2.below (w' := x3) hb3
  have hsz3 : y2.heap.size ≤ x3.heap.size := hb3.size
  have m3 : x3.cell? ⟨w.heap.size, 2, none⟩ = some (.int .i64 (c.id : Int)) := cell_later (w := y2) hb3 n2
  have D3 : Below B w x3 := B2.trans (Below.mono (w := y2) hb3 (by have := B2.size; omega))
  have hu3' : OwnS x3 y2.heap.size u3 (Pa.die c.id p.frozen) := hu3
  obtain ⟨p3, q3, rfl, _⟩ := hu3.any
  have R3 := Q3.set1 (hu3'.weaken (by have := B2.size; omega))
  have d3 := Q3.blk.c1
  have e3 := Q3.blk.free 1
  refine hK.out _ _ m3 (fun hHeld => ?_)
  clear hK K
  refine wpAnyH_take (i := 8) (v := ?b38) rfl (by kernel_rfl) (by kernel_rfl) (by kernel_rfl) (fun _ _ _ h => h) (Or.inl ⟨by rfl, ?hyb38⟩) (by assumption) ?restb38
  case hyb38 => intro w hSw; (try dsimp only at hSw); go_simp; (try with_reducible rfl)
  simp only [Act.put]
  refine wpAnyH_take (i := 9) (v := ?b39) rfl (by kernel_rfl) (by kernel_rfl) (by kernel_rfl) (fun _ _ _ h => h) (Or.inl ⟨by rfl, ?hyb39⟩) (by assumption) ?restb39
  case hyb39 => intro w hSw; (try dsimp only at hSw); go_simp; (try with_reducible rfl)
  simp only [Act.put]
  refine wpAnyH_ready (rs := [10]) (by kernel_rfl) (by simp) ?_
  refine AllReadyH.cons rfl (fun K hK => ?_) AllReadyH.nil
  go_simp
  refine hK.out _ _ (by rw [World.cell?_setCell_other _ _ _ _ (by simp)]; exact m3) (fun hHeld => ?_)
  clear hK K hHeld HL3 c1_ d3 e3
  refine wpAnyH_done (by kernel_rfl) ?_ _
  have B3 : Below B w (x3.setCell ⟨x, 1, none⟩ (.slice p3 (Pa.die c.id p.frozen).length q3)) := D3.setCell (p := ⟨x, 1, none⟩) HX.out _
  have n2 : (x3.setCell ⟨x, 1, none⟩ (.slice p3 (Pa.die c.id p.frozen).length q3)).cell? ⟨w.heap.size, 2, none⟩ = some (.int .i64 (c.id : Int)) := by rw [World.cell?_setCell_other _ _ _ _ (by simp)]; exact m3
  have z3 : (x3.setCell ⟨x, 1, none⟩ (.slice p3 (Pa.die c.id p.frozen).length q3)).heap.size = x3.heap.size := by simp
  clear D3 m3 hb3 hd3 R2 Q3
  generalize (x3.setCell ⟨x, 1, none⟩ (.slice p3 (Pa.die c.id p.frozen).length q3)) = y3 at *
  go_wp2_with fail
  have c3_ := R3.blk.c3
  have HL4 := rDied_any vn (if p.left = 0 then [] else Pa.next p.main) c.id y3.drew (R3.n.weaken (Nat.zero_le _)) (by have := hnl; omega)
  refine wp_region_held_drew (S := fun w' => w'.cell? ⟨w.heap.size, 2, none⟩ = some (.int .i64 (c.id : Int))) (by kernel_rfl) n2 (fun hHeld => ?_)
  refine wpAnyH_take (i := 0) (v := ?a40) rfl (by kernel_rfl) (by kernel_rfl) (by kernel_rfl) (fun _ _ _ h => h) (Or.inl ⟨by rfl, ?hya40⟩) (by assumption) ?resta40
  case hya40 => intro w hSw; (try dsimp only at hSw); go_simp; (try with_reducible rfl)
  simp only [Act.put]
  refine wpAnyH_take (i := 1) (v := ?a41) rfl (by kernel_rfl) (by kernel_rfl) (by kernel_rfl) (fun _ _ _ h => h) (Or.inl ⟨by rfl, ?hya41⟩) (by assumption) ?resta41
  case hya41 => intro w hSw; (try dsimp only at hSw); go_simp; (try with_reducible rfl)
  simp only [Act.put]
  refine wpAnyH_take (i := 2) (v := ?a42) rfl (by kernel_rfl) (by kernel_rfl) (by kernel_rfl) (fun _ _ _ h => h) (Or.inl ⟨by rfl, ?hya42⟩) (by assumption) ?resta42
  case hya42 => intro w hSw; (try dsimp only at hSw); go_simp; (try with_reducible rfl)
  simp only [Act.put]
  refine wpAnyH_take (i := 3) (v := ?a43) rfl (by kernel_rfl) (by kernel_rfl) (by kernel_rfl) (fun _ _ _ h => h) (Or.inl ⟨by rfl, ?hya43⟩) (by assumption) ?resta43
  case hya43 => intro w hSw; (try dsimp only at hSw); go_simp; (try with_reducible rfl)
  simp only [Act.put]
  refine wpAnyH_take (i := 5) (v := ?a45) rfl (by kernel_rfl) (by kernel_rfl) (by kernel_rfl) (fun _ _ _ h => h) (Or.inl ⟨by rfl, ?hya45⟩) (by assumption) ?resta45
  case hya45 => intro w hSw; (try dsimp only at hSw); go_simp; (try with_reducible rfl)
  simp only [Act.put]
  refine wpAnyH_take (i := 6) (v := ?a46) rfl (by kernel_rfl) (by kernel_rfl) (by kernel_rfl) (fun _ _ _ h => h) (Or.inl ⟨by rfl, ?hya46⟩) (by assumption) ?resta46
  case hya46 => intro w hSw; (try dsimp only at hSw); go_simp; (try with_reducible rfl)
  simp only [Act.put]
  refine wpAnyH_ready (rs := [4]) (by kernel_rfl) (by simp) ?_
  refine AllReadyH.cons rfl (fun K hK => ?_) AllReadyH.nil
  go_simp
  refine hK.out _ _ (by exact hHeld) (fun hHeld => ?_)
  clear hK K
  refine wpAnyH_ready (rs := [7]) (by kernel_rfl) (by simp) ?_
  refine AllReadyH.cons rfl (fun K hK => ?_) AllReadyH.nil
  go_simp
  refine HL4.mono ?_
  rintro e x4 ⟨u4, rfl, hu4, hd4⟩
  have hb4 : Below y3.heap.size y3 x4 := (Below.refl _ _).drew.trans hd4
  have Q4 := R3.below (w' := x4) hb4
  have hsz4 : y3.heap.size ≤ x4.heap.size := hb4.size
  have m4 : x4.cell? ⟨w.heap.size, 2, none⟩ = some (.int .i64 (c.id : Int)) := cell_later (w := y3) hb4 n2
  have D4 : Below B w x4 := B3.trans (Below.mono (w := y3) hb4 (by have := B3.size; omega))
  have hu4' : OwnS x4 y3.heap.size u4 (Pa.die c.id (if p.left = 0 then [] else Pa.next p.main)) := hu4
  obtain ⟨p4, q4, rfl, _⟩ := hu4.any
  have R4 := Q4.set3 (hu4'.weaken (by have := B3.size; omega))
  have d4 := Q4.blk.c3
  have e4 := Q4.blk.free 3
  refine hK.out _ _ m4 (fun hHeld => ?_)
  clear hK K
  refine wpAnyH_take (i := 8) (v := ?b48) rfl (by kernel_rfl) (by kernel_rfl) (by kernel_rfl) (fun _ _ _ h => h) (Or.inl ⟨by rfl, ?hyb48⟩) (by assumption) ?restb48
  case hyb48 => intro w hSw; (try dsimp only at hSw); go_simp; (try with_reducible rfl)
  simp only [Act.put]
  refine wpAnyH_take (i := 9) (v := ?b49) rfl (by kernel_rfl) (by kernel_rfl) (by kernel_rfl) (fun _ _ _ h => h) (Or.inl ⟨by rfl, ?hyb49⟩) (by assumption) ?restb49
  case hyb49 => intro w hSw; (try dsimp only at hSw); go_simp; (try with_reducible rfl)
  simp only [Act.put]
  refine wpAnyH_ready (rs := [10]) (by kernel_rfl) (by simp) ?_
  refine AllReadyH.cons rfl (fun K hK => ?_) AllReadyH.nil
  go_simp
  refine hK.out _ _ (by rw [World.cell?_setCell_other _ _ _ _ (by simp)]; exact m4) (fun hHeld => ?_)
  clear hK K hHeld HL4 c3_ d4 e4
  refine wpAnyH_done (by kernel_rfl) ?_ _
  have B4 : Below B w (x4.setCell ⟨x, 3, none⟩ (.slice p4 (Pa.die c.id (if p.left = 0 then [] else Pa.next p.main)).length q4)) := D4.setCell (p := ⟨x, 3, none⟩) HX.out _
  have n2 : (x4.setCell ⟨x, 3, none⟩ (.slice p4 (Pa.die c.id (if p.left = 0 then [] else Pa.next p.main)).length q4)).cell? ⟨w.heap.size, 2, none⟩ = some (.int .i64 (c.id : Int)) := by rw [World.cell?_setCell_other _ _ _ _ (by simp)]; exact m4
  have z4 : (x4.setCell ⟨x, 3, none⟩ (.slice p4 (Pa.die c.id (if p.left = 0 then [] else Pa.next p.main)).length q4)).heap.size = x4.heap.size := by simp
  clear D4 m4 hb4 hd4 R3 Q4
  generalize (x4.setCell ⟨x, 3, none⟩ (.slice p4 (Pa.die c.id (if p.left = 0 then [] else Pa.next p.main)).length q4)) = y4 at *
  have HP : Hid (PIn B y4 x (Pa.came p c) (.slice p2 (Pa.die c.id p.main).length q2) (.slice p3 (Pa.die c.id p.frozen).length q3) (.slice p1 (p.live.filter (Pa.stays (c.id : Int))).length q1) (.slice p4 (Pa.die c.id (if p.left = 0 then [] else Pa.next p.main)).length q4)) := by
    show PIn _ _ _ _ _ _ _ _
    rw [HCA.out]
    have hap : ∀ (v : Value) (C : Nat) (W : World) (l : List Pa.Pg), OwnS W C v l → x1.heap.size ≤ C → apS (.slice p1 (p.live.filter (Pa.stays (c.id : Int))).length q1) v := fun v C W l hv hC k h1 h2 => by
      have := hu1'.lt k h1
      have := hv.at_least k h2
      omega
    refine ⟨R4.blk, R4.m, R4.f, ?_, ?_, hap _ _ _ _ hu2' (by omega), hap _ _ _ _ hu3' (by omega), hap _ _ _ _ hu4' (by omega), HX.out⟩
    · show OwnS y4 B _ (p.live.filter fun g => !(g.id == c.id))
      have := R4.l
      rw [Pa.stays_id] at this
      rw [Pa.stays_id]
      exact this
    · have := R4.n
      have e : Pa.die c.id (if p.left = 0 then [] else Pa.next p.main) = (if p.left = 0 then [] else Pa.next (Pa.die c.id p.main)) := by
        split
        · rfl
        · exact (Pa.next_die _ _).symm
      rw [e] at this
      rw [e]
      exact this
  have HBW : Hid (Below B w y4) := B4
  have s4 := HBW.out.size
  have HCH : Hid (Pa.change b p c = Pa.begun b (Pa.worked (Pa.came p c) (c.doc.size + 1))) := rfl
  obtain ⟨k1', k2', k3', k4', k5'⟩ := hk
  clear HCA R4 B4 B3 B2 B1 B0 hu1 hu2 hu3 hu4 hu1' hu2' hu3' hu4' n2
  generalize Value.slice p1 (p.live.filter (Pa.stays (c.id : Int))).length q1 = ul at *
  generalize Value.slice p2 (Pa.die c.id p.main).length q2 = um at *
  generalize Value.slice p3 (Pa.die c.id p.frozen).length q3 = uf at *
  generalize Value.slice p4 (Pa.die c.id (if p.left = 0 then [] else Pa.next p.main)).length q4 = uq at *
  generalize Pa.came p c = q at *
  have hon := HP.out.blk.c4
  by_cases h0 : 0 < q.left
  · rw [decide_eq_true h0] at hon
    have t5 := HP.out.blk.c5
    have t6 := HP.out.blk.c6
    have u5 := HP.out.blk.free 5
    have hpr : q.speed * (c.doc.size + 1) ≤ 100000 * 41 := Nat.mul_le_mul k4' (by omega)
    have hpi : (q.speed : Int) * ((c.doc.size : Int) + 1) = ((q.speed * (c.doc.size + 1) : Nat) : Int) := by simp
    have hw1 : IntKind.i64.wrap ((q.speed : Int) * ((c.doc.size : Int) + 1)) = ((q.speed * (c.doc.size + 1) : Nat) : Int) := by rw [hpi, IntKind.wrap_i64]; omega
    generalize hprn : q.speed * (c.doc.size + 1) = pr at *
    have hw2 : IntKind.i64.wrap ((q.left : Int) - (pr : Int)) = (q.left : Int) - (pr : Int) := by rw [IntKind.wrap_i64]; omega
    have hd5 := HP.out.blk.s5 ((q.left : Int) - (pr : Int))
    have hd6 := hd5.c6
    clear hpi
    go_wp2_with fail
    refine wp_region_held_drew (S := fun w' => w'.cell? ⟨x, 6, none⟩ = some (.int .i64 (q.speed : Int))) (by kernel_rfl) t6 (fun hHeld => ?_)
    refine wpAnyH_take (i := 0) (v := ?c0) rfl (by kernel_rfl) (by kernel_rfl) (by kernel_rfl) (fun _ _ _ h => h) (Or.inl ⟨by rfl, ?hyc0⟩) (by assumption) ?restc0
    case hyc0 => intro w hSw; (try dsimp only at hSw); go_simp; (try with_reducible rfl)
    simp only [Act.put]
    refine wpAnyH_take (i := 1) (v := ?c1) rfl (by kernel_rfl) (by kernel_rfl) (by kernel_rfl) (fun _ _ _ h => h) (Or.inl ⟨by rfl, ?hyc1⟩) (by assumption) ?restc1
    case hyc1 => intro w hSw; (try dsimp only at hSw); go_simp; (try with_reducible rfl)
    simp only [Act.put]
    refine wpAnyH_take (i := 2) (v := ?c2) rfl (by kernel_rfl) (by kernel_rfl) (by kernel_rfl) (fun _ _ _ h => h) (Or.inl ⟨by rfl, ?hyc2⟩) (by assumption) ?restc2
    case hyc2 => intro w hSw; (try dsimp only at hSw); go_simp; (try with_reducible rfl)
    simp only [Act.put]
    refine wpAnyH_take (i := 3) (v := ?c3) rfl (by kernel_rfl) (by kernel_rfl) (by kernel_rfl) (fun _ _ _ h => h) (Or.inl ⟨by rfl, ?hyc3⟩) (by assumption) ?restc3
    case hyc3 => intro w hSw; (try dsimp only at hSw); go_simp; (try with_reducible rfl)
    simp only [Act.put]
    refine wpAnyH_take (i := 5) (v := ?c5) rfl (by kernel_rfl) (by kernel_rfl) (by kernel_rfl) (fun _ _ _ h => h) (Or.inl ⟨by rfl, ?hyc5⟩) (by assumption) ?restc5
    case hyc5 => intro w hSw; (try dsimp only at hSw); go_simp; (try with_reducible rfl)
    simp only [Act.put]
    refine wpAnyH_take (i := 6) (v := ?c6) rfl (by kernel_rfl) (by kernel_rfl) (by kernel_rfl) (fun _ _ _ h => h) (Or.inl ⟨by rfl, ?hyc6⟩) (by assumption) ?restc6
    case hyc6 => intro w hSw; (try dsimp only at hSw); go_simp; (try with_reducible rfl)
    simp only [Act.put]
    refine wpAnyH_take (i := 7) (v := ?c7) rfl (by kernel_rfl) (by kernel_rfl) (by kernel_rfl) (fun _ _ _ h => h) (Or.inl ⟨by rfl, ?hyc7⟩) (by assumption) ?restc7
    case hyc7 => intro w hSw; (try dsimp only at hSw); go_simp; (try with_reducible rfl)
    simp only [Act.put]
    refine wpAnyH_take (i := 8) (v := ?c8) rfl (by kernel_rfl) (by kernel_rfl) (by kernel_rfl) (fun _ _ _ h => h) (Or.inl ⟨by rfl, ?hyc8⟩) (by assumption) ?restc8
    case hyc8 => intro w hSw; (try dsimp only at hSw); go_simp; (try with_reducible rfl)
    simp only [Act.put]
    refine wpAnyH_take (i := 9) (v := ?c9) rfl (by kernel_rfl) (by kernel_rfl) (by kernel_rfl) (fun _ _ _ h => h) (Or.inl ⟨by rfl, ?hyc9⟩) (by assumption) ?restc9
    case hyc9 => intro w hSw; (try dsimp only at hSw); go_simp; (try with_reducible rfl)
    simp only [Act.put]
    refine wpAnyH_take (i := 10) (v := ?c10) rfl (by kernel_rfl) (by kernel_rfl) (by kernel_rfl) (fun _ _ _ h => h) (Or.inl ⟨by rfl, ?hyc10⟩) (by assumption) ?restc10
    case hyc10 => intro w hSw; (try dsimp only at hSw); go_simp; (try with_reducible rfl)
    simp only [Act.put]
    refine wpAnyH_ready (rs := [4]) (by kernel_rfl) (by simp) ?_
    refine AllReadyH.cons rfl (fun K hK => ?_) AllReadyH.nil
    go_simp
    refine hK.out _ _ (by exact hHeld) (fun hHeld => ?_)
    clear hK K
    refine wpAnyH_take (i := 11) (v := ?d11) rfl (by kernel_rfl) (by kernel_rfl) (by kernel_rfl) (fun _ _ _ h => h) (Or.inl ⟨by rfl, ?hyd11⟩) (by assumption) ?restd11
    case hyd11 => intro w hSw; (try dsimp only at hSw); go_simp; (try with_reducible rfl)
    simp only [Act.put]
    refine wpAnyH_take (i := 12) (v := ?d12) rfl (by kernel_rfl) (by kernel_rfl) (by kernel_rfl) (fun _ _ _ h => h) (Or.inl ⟨by rfl, ?hyd12⟩) (by assumption) ?restd12
    case hyd12 => intro w hSw; (try dsimp only at hSw); go_simp; (try with_reducible rfl)
    simp only [Act.put]
    refine wpAnyH_take (i := 13) (v := ?d13) rfl (by kernel_rfl) (by kernel_rfl) (by kernel_rfl) (fun _ _ _ h => h) (Or.inl ⟨by rfl, ?hyd13⟩) (by assumption) ?restd13
    case hyd13 => intro w hSw; (try dsimp only at hSw); go_simp; (try with_reducible rfl)
    simp only [Act.put]
    refine wpAnyH_ready (rs := [14]) (by kernel_rfl) (by simp) ?_
    refine AllReadyH.cons rfl (fun K hK => ?_) AllReadyH.nil
    go_simp
    refine hK.out _ _ (by exact hd6) (fun hHeld => ?_)
    clear hK K hHeld
    refine wpAnyH_done (by kernel_rfl) ?_ _
    have HP5 : Hid (PB (y4.setCell ⟨x, 5, none⟩ (.int .i64 ((q.left : Int) - (pr : Int)))).drew x _ _ _ _ (decide (0 < q.left)) ((q.left : Int) - (pr : Int)) (q.speed : Int) (q.hand : Int)) := hd5
    have HM5 : Hid (OwnS (y4.setCell ⟨x, 5, none⟩ (.int .i64 ((q.left : Int) - (pr : Int)))).drew B _ q.main) := HP.out.blk.keep HP.out.main 5 _
    have HF5 : Hid (OwnS (y4.setCell ⟨x, 5, none⟩ (.int .i64 ((q.left : Int) - (pr : Int)))).drew B _ q.frozen) := HP.out.blk.keep HP.out.frozen 5 _
    have HL5 : Hid (OwnS (y4.setCell ⟨x, 5, none⟩ (.int .i64 ((q.left : Int) - (pr : Int)))).drew B _ q.live) := HP.out.blk.keep HP.out.live 5 _
    have HN5 : Hid (OwnS (y4.setCell ⟨x, 5, none⟩ (.int .i64 ((q.left : Int) - (pr : Int)))).drew B _ (if q.left = 0 then [] else Pa.next q.main)) := HP.out.blk.keep HP.out.next 5 _
    have HB5 : Hid (Below B w (y4.setCell ⟨x, 5, none⟩ (.int .i64 ((q.left : Int) - (pr : Int)))).drew) := (HBW.out.setCell (p := ⟨x, 5, none⟩) HP.out.low _).drew
    clear hd5 hd6 t5 t6 u5 hon hw1 hw2
    generalize (y4.setCell ⟨x, 5, none⟩ (.int .i64 ((q.left : Int) - (pr : Int)))).drew = w5 at *
    have v5 := HP5.out.c5
    by_cases hov : q.left ≤ pr
    · have hov' : (q.left : Int) - (pr : Int) ≤ 0 := by omega
      have v3 := HP5.out.c3
      have HNX := HN5.out
      rw [if_neg (show ¬ q.left = 0 by omega)] at HNX
      have hnl := Pa.wt_len (Pa.next q.main)
      have hnw := Pa.wt_next q.main
      have hfl := Pa.wt_len q.frozen
      have hone : ∀ l : List Pa.Pg, ∀ u ∈ SH l, u.oneCell' = true := fun l u hu => by
        unfold SH at hu
        rw [List.mem_flatMap] at hu
        obtain ⟨g, _, hg⟩ := hu
        simp [SH1] at hg
        rcases hg with rfl | rfl | rfl <;> rfl
      have s5 := HB5.out.size
      have hwh : IntKind.i64.wrap ((q.hand : Int) + 1) = (q.hand : Int) + 1 := by rw [IntKind.wrap_i64]; omega
      have HWK : Hid (Pa.worked q (c.doc.size + 1) = Pa.handOver q) := by show _ = _; unfold Pa.worked; rw [if_pos h0, hprn, if_pos hov]
      go_wp2_with (first
        | (at_builtin; refine wpList_append_row rfl (.tmp 90) (.tmp 94) 152 rfl w5.heap.size 165 i0 (.agg #[.int .i64 0, .int .i64 0, .bool false]) 3 24 Try.underlying152 hi hz0 hz1 hz2 rfl (by decide) (.slice none 0 0) 0 [] rfl (World.ownsRow_nil _ _ _ _) _ (Pa.next q.main).length (SH (Pa.next q.main)) rfl (HNX.weaken (Nat.zero_le _)) (hone _) (by unfold maxLen; omega) (by omega) (Nat.le_refl _) ?_; intro v6 w6 hown6 hgrow6; have hb6 : Below w5.heap.size w5 w6 := ⟨hgrow6.os, hgrow6.tape, hgrow6.output, hgrow6.size, fun k hk => hgrow6.block k hk (by simp [Value.ownBlock])⟩; have v1 := (HP5.out.below hb6).c1; have HF6 := HF5.out.below hb6; have s6 := hb6.size)
        | (at_builtin; refine wpList_append_row rfl _ _ 152 rfl w5.heap.size 165 i0 (.agg #[.int .i64 0, .int .i64 0, .bool false]) 3 24 Try.underlying152 hi hz0 hz1 hz2 rfl (by decide) v6 _ _ rfl hown6 _ q.frozen.length (SH q.frozen) rfl (HF6.weaken (Nat.zero_le _)) (hone _) (by unfold maxLen; omega) (by omega) (by omega) ?_; intro v7 w7 hown7 hgrow7; have hb7 : Below w5.heap.size w5 w7 := hb6.grown hgrow7 (by omega) (fun k hk => (World.ownsRow.lt hown6 k hk).1); have hm7 : OwnS w7 w5.heap.size v7 (Pa.next q.main ++ q.frozen) := (by unfold OwnS; rw [SH_append, List.length_append]; simpa using hown7); obtain ⟨a7, c7, e7, _⟩ := hm7.any; rw [List.length_append] at e7; subst e7; obtain ⟨k0, k1, k2, k3, k4, k5, k6, k7⟩ := (HP5.out.below hb7).hand_over (.slice a7 ((Pa.next q.main).length + q.frozen.length) c7); have k00 := k0.1; have k01 := k0.2; have k10 := k1.1; have k11 := k1.2; have k20 := k2.1; have k21 := k2.2; have k30 := k3.1; have k31 := k3.2; have k40 := k4.1; have k41 := k4.2; have k50 := k5.1; have k51 := k5.2; clear k0 k1 k2 k3 k4 k5))
      have hP8 : PIn B ((((((w7.setCell ⟨x, 0, none⟩ (.slice a7 ((Pa.next q.main).length + q.frozen.length) c7)).setCell ⟨x, 3, none⟩ (.slice none 0 0)).setCell ⟨x, 1, none⟩ (.slice none 0 0)).setCell ⟨x, 4, none⟩ (.bool false)).setCell ⟨x, 5, none⟩ (.int .i64 0)).setCell ⟨x, 7, none⟩ (.int .i64 ((q.hand : Int) + 1))) x (Pa.handOver q) (.slice a7 ((Pa.next q.main).length + q.frozen.length) c7) (.slice none 0 0) _ (.slice none 0 0) := ⟨k6, k7 _ _ _ (hm7.weaken (by omega)), OwnS.nil _ _, k7 _ _ _ (HL5.out.below hb7), OwnS.nil _ _, fun k h1 h2 => (by have := HL5.out.lt k h1; have := hm7.at_least k h2; omega), fun _ _ => by simp [Value.ownBlock], fun _ _ => by simp [Value.ownBlock], HP.out.low⟩
      have s7 := hb7.size
      have hx := HP.out.low
      have HB8 : Hid (Below B w ((((((w7.setCell ⟨x, 0, none⟩ (.slice a7 ((Pa.next q.main).length + q.frozen.length) c7)).setCell ⟨x, 3, none⟩ (.slice none 0 0)).setCell ⟨x, 1, none⟩ (.slice none 0 0)).setCell ⟨x, 4, none⟩ (.bool false)).setCell ⟨x, 5, none⟩ (.int .i64 0)).setCell ⟨x, 7, none⟩ (.int .i64 ((q.hand : Int) + 1)))) := ((((((HB5.out.trans (hb7.mono (by omega))).setCell (p := ⟨x, 0, none⟩) hx _).setCell (p := ⟨x, 3, none⟩) hx _).setCell (p := ⟨x, 1, none⟩) hx _).setCell (p := ⟨x, 4, none⟩) hx _).setCell (p := ⟨x, 5, none⟩) hx _).setCell (p := ⟨x, 7, none⟩) hx _
      have s8 := HB8.out.size
      have hmw : Pa.wt (Pa.handOver q).main ≤ 10000 := by
        show Pa.wt (Pa.next q.main ++ q.frozen) ≤ _
        rw [Pa.wt_append]; omega
      have HBG := rBegin_any B ((((((w7.setCell ⟨x, 0, none⟩ (.slice a7 ((Pa.next q.main).length + q.frozen.length) c7)).setCell ⟨x, 3, none⟩ (.slice none 0 0)).setCell ⟨x, 1, none⟩ (.slice none 0 0)).setCell ⟨x, 4, none⟩ (.bool false)).setCell ⟨x, 5, none⟩ (.int .i64 0)).setCell ⟨x, 7, none⟩ (.int .i64 ((q.hand : Int) + 1))) x b (Pa.handOver q) _ _ _ _ hb hmw k2' (by omega) hP8
      refine HBG.mono ?_
      rintro e w9 ⟨rfl, hP9, hB9⟩
      clear HBG hP8 k00 k01 k10 k11 k20 k21 k30 k31 k40 k41 k50 k51 k6 k7
      go_wp2_with fail
      go_end0
      exact ⟨rfl, by rw [HCH.out, HWK.out]; exact hP9, HB8.out.trans hB9⟩
    · have hov' : ¬ (q.left : Int) - (pr : Int) ≤ 0 := by omega
      have s5 := HB5.out.size
      have hP6 : PIn B w5 x { q with left := q.left - pr, since := q.since + (c.doc.size + 1) } um uf ul uq := by
        refine ⟨?_, HM5.out, HF5.out, HL5.out, ?_, HP.out.am, HP.out.af, HP.out.an, HP.out.low⟩
        · have e1 : decide (0 < q.left - pr) = decide (0 < q.left) := by rw [decide_eq_decide]; omega
          have e2 : ((q.left - pr : Nat) : Int) = (q.left : Int) - (pr : Int) := by omega
          show PB w5 x _ _ _ _ (decide (0 < q.left - pr)) ((q.left - pr : Nat) : Int) _ _
          rw [e1, e2]
          exact HP5.out
        · have e1 : ¬ q.left - pr = 0 := by omega
          show OwnS w5 B _ (if q.left - pr = 0 then [] else Pa.next q.main)
          rw [if_neg e1]
          have := HN5.out
          rw [if_neg (by omega)] at this
          exact this
      have HWK : Hid (Pa.worked q (c.doc.size + 1) = { q with left := q.left - pr, since := q.since + (c.doc.size + 1) }) := by show _ = _; unfold Pa.worked; rw [if_pos h0, hprn, if_neg hov]
      have HBG : Hid (Calls Try.prog 108 #[.pointer (some ⟨x, 0, none⟩), .int .i64 (b : Int)] w5 fun e w' => e = .returned (.tuple #[]) ∧ (∃ vm' vf' vl' vn', PIn B w' x (Pa.begun b { q with left := q.left - pr, since := q.since + (c.doc.size + 1) }) vm' vf' vl' vn') ∧ Below B w5 w') := rBegin_any B w5 x b _ _ _ _ _ hb (by show Pa.wt q.main ≤ _; omega) k2' (by omega) hP6
      clear hP6
      go_wp2_with fail
      refine HBG.out.mono ?_
      rintro e w6 ⟨rfl, hP6, hB6⟩
      go_wp2_with fail
      go_end0
      exact ⟨rfl, by rw [HCH.out, HWK.out]; exact hP6, HB5.out.trans hB6⟩
  · rw [decide_eq_false h0] at hon
    have HWK : Hid (Pa.worked q (c.doc.size + 1) = q) := by show _ = _; unfold Pa.worked; rw [if_neg h0]
    have HBG : Hid (Calls Try.prog 108 #[.pointer (some ⟨x, 0, none⟩), .int .i64 (b : Int)] y4 fun e w' => e = .returned (.tuple #[]) ∧ (∃ vm' vf' vl' vn', PIn B w' x (Pa.begun b q) vm' vf' vl' vn') ∧ Below B y4 w') := rBegin_any B y4 x b q _ _ _ _ hb (by omega) k2' (by omega) HP.out
    go_wp2_with fail
    refine HBG.out.mono ?_
    rintro e w5 ⟨rfl, hP5, hB5⟩
    go_wp2_with fail
    go_end0
    exact ⟨rfl, by rw [HCH.out, HWK.out]; exact hP5, HBW.out.trans hB5⟩

end Go.Proofs.Ythkndfkkgncjfab

namespace Go.Proofs.Ythkndfkkgncjfab
open Go.RowKit
set_option maxRecDepth 100000

/-- the parts behind each change -/
structure Valid (b : Nat) (cs : List Do.Chg) : Prop where
  inv : ∀ k, k ≤ cs.length → Pa.Inv b (cs.take k) (insTo cs k) (Pa.parts b (cs.take k))
  few : ∀ k, k ≤ cs.length → (Do.there (cs.take k)).length ≤ 60
  doc : ∀ c ∈ cs, c.doc.size ≤ 40

theorem Valid.nil (b : Nat) (hb : 1 ≤ b) : Valid b [] where
  inv := fun k hk => by
    have : k = 0 := by simpa using hk
    subst this
    exact Pa.Inv.start b hb
  few := fun k hk => by
    have : k = 0 := by simpa using hk
    subst this
    exact Nat.zero_le _
  doc := fun c hc => by cases hc
theorem Valid.last {b : Nat} {cs : List Do.Chg} (h : Valid b cs) : Pa.Inv b cs (insTo cs cs.length) (Pa.parts b cs) ∧ (Do.there cs).length ≤ 60 := by
  have h1 := h.inv cs.length (Nat.le_refl _)
  have h2 := h.few cs.length (Nat.le_refl _)
  rw [List.take_of_length_le (Nat.le_refl _)] at h1 h2
  exact ⟨h1, h2⟩
theorem Valid.snoc {b : Nat} {cs : List Do.Chg} (h : Valid b cs) (c : Do.Chg) (hd : c.doc.size ≤ 40) (hI : Pa.Inv b (cs ++ [c]) (insTo (cs ++ [c]) (cs ++ [c]).length) (Pa.parts b (cs ++ [c]))) (hf : (Do.there (cs ++ [c])).length ≤ 60) : Valid b (cs ++ [c]) where
  inv := fun k hk => by
    rw [List.length_append, List.length_singleton] at hk
    rcases Nat.lt_or_ge k (cs.length + 1) with h1 | h1
    · rw [List.take_append_of_le_length (by omega), insTo_same cs [c] k (by omega)]
      exact h.inv k (by omega)
    · have e : k = (cs ++ [c]).length := by simp; omega
      subst e
      rw [List.take_of_length_le (Nat.le_refl _)]
      exact hI
  few := fun k hk => by
    rw [List.length_append, List.length_singleton] at hk
    rcases Nat.lt_or_ge k (cs.length + 1) with h1 | h1
    · rw [List.take_append_of_le_length (by omega)]
      exact h.few k (by omega)
    · rw [List.take_of_length_le (by simp; omega)]
      exact hf
  doc := fun d hd' => by
    rw [List.mem_append] at hd'
    rcases hd' with h1 | h1
    · exact h.doc d h1
    · simp at h1; subst h1; exact hd
theorem Valid.ins {b : Nat} {cs : List Do.Chg} (h : Valid b cs) (hb : b ≤ 80) (a : Int) (s : ByteArray) : Valid b (insRes cs a s).2.2 := by
  unfold insRes
  split
  · exact h
  · rename_i h1
    split
    · exact h
    · rename_i h2
      obtain ⟨hI, hf⟩ := h.last
      refine h.snoc _ (by show s.size ≤ 40; omega) ?_ ?_
      · rw [insTo_more]
        have := hI.insert hb (by omega) s (by omega)
        simpa using this
      · rw [Do.there_ins _ _ rfl]; simp; omega
theorem Valid.del {b : Nat} {cs : List Do.Chg} (h : Valid b cs) (hb : b ≤ 80) (id : Int) : Valid b (delRes cs id).2 := by
  unfold delRes
  split
  · exact h
  · rename_i k hk
    split
    · exact h
    · rename_i c hc
      obtain ⟨hI, hf⟩ := h.last
      have hcd : c.doc.size ≤ 40 := by
        have hm := List.mem_of_getElem? hc
        rw [← hI.there, List.mem_map] at hm
        obtain ⟨g, hg, rfl⟩ := hm
        exact hI.small g (List.mem_filter.1 hg).1
      refine h.snoc _ hcd ?_ ?_
      · rw [insTo_more]
        have := hI.delete hb hf c.doc hcd id.toNat
        simpa using this
      · rw [Do.there_del _ _ rfl]; exact Nat.le_trans (List.length_filter_le _ _) hf

theorem unitsS_le (n : Nat) (h : n ≤ 2460) : Pa.units n ≤ 36915 := by
  have hb : Pa.bits n ≤ 12 := by
    unfold Pa.bits
    split
    · omega
    · rename_i h0
      have : Nat.log2 n < 12 := (Nat.log2_lt h0).2 (by omega)
      omega
  unfold Pa.units
  exact Nat.le_trans (Nat.mul_le_mul (show n + 1 ≤ 2461 by omega) (show Pa.bits n + 3 ≤ 15 by omega)) (by decide)
theorem speedS_le (b k : Nat) : Pa.speedOf b k ≤ k := by
  have h := Pa.half_pos b
  unfold Pa.speedOf
  rw [Nat.div_le_iff_le_mul (by omega)]
  have : k * 1 ≤ k * Pa.half b := Nat.mul_le_mul_left k h
  omega
/-- the speed stays small -/
theorem Valid.speed {b : Nat} {cs : List Do.Chg} (h : Valid b cs) : ∀ k, k ≤ cs.length → (Pa.parts b (cs.take k)).speed ≤ 36915 := by
  intro k
  induction k with
  | zero => intro _; exact Nat.zero_le _
  | succ k ih =>
    intro hk
    have hk' : k < cs.length := hk
    have hI := h.inv (k + 1) hk
    by_cases h0 : (Pa.parts b (cs.take (k + 1))).left = 0
    · have e : cs.take (k + 1) = cs.take k ++ [cs[k]] := List.take_succ_eq_append_getElem hk'
      rw [e, Pa.parts_more] at h0 ⊢
      have := ih (by omega)
      have k1 : (Pa.came (Pa.parts b (cs.take k)) cs[k]).speed = (Pa.parts b (cs.take k)).speed := by unfold Pa.came; split <;> rfl
      have k2 : ∀ (q : Pa.Pt) (w : Nat), (Pa.worked q w).speed = q.speed := fun q w => by
        unfold Pa.worked
        split
        · split <;> rfl
        · rfl
      unfold Pa.change at h0 ⊢
      unfold Pa.begun at h0 ⊢
      split
      · rename_i hc
        rw [if_pos hc] at h0
        have := Pa.units_pos (Pa.wt (Pa.alive (Pa.worked (Pa.came (Pa.parts b (cs.take k)) cs[k]) (cs[k].doc.size + 1)).main) + Pa.wt (Pa.alive (Pa.worked (Pa.came (Pa.parts b (cs.take k)) cs[k]) (cs[k].doc.size + 1)).live))
        have h0' : Pa.units (Pa.wt (Pa.alive (Pa.worked (Pa.came (Pa.parts b (cs.take k)) cs[k]) (cs[k].doc.size + 1)).main) + Pa.wt (Pa.alive (Pa.worked (Pa.came (Pa.parts b (cs.take k)) cs[k]) (cs[k].doc.size + 1)).live)) = 0 := h0
        omega
      · rw [k2, k1]; exact this
    · obtain ⟨_, o2, _, _, o5⟩ := hI.on (by omega)
      rw [o2]
      exact Nat.le_trans (speedS_le _ _) (unitsS_le _ o5)
theorem Valid.hand {b : Nat} {cs : List Do.Chg} : ∀ k, k ≤ cs.length → (Pa.parts b (cs.take k)).hand ≤ k := by
  intro k
  induction k with
  | zero => intro _; exact Nat.zero_le _
  | succ k ih =>
    intro hk
    have hk' : k < cs.length := hk
    have e : cs.take (k + 1) = cs.take k ++ [cs[k]] := List.take_succ_eq_append_getElem hk'
    rw [e, Pa.parts_more]
    have h1 := hand_more b (Pa.parts b (cs.take k)) cs[k]
    have h2 := ih (by omega)
    omega
/-- what a change finds is small -/
theorem Valid.small {b : Nat} {cs : List Do.Chg} (h : Valid b cs) (hb : b ≤ 80) (k : Nat) (hk : k < cs.length) (hl : cs.length ≤ 2000000000000) : Small (Pa.came (Pa.parts b (cs.take k)) cs[k]) ∧ (Pa.parts b (cs.take k)).live.length ≤ 10000 ∧ (Pa.parts b (cs.take k)).main.length ≤ 10000 ∧ (Pa.parts b (cs.take k)).frozen.length ≤ 10000 := by
  have hI := h.inv k (by omega)
  have hsp := h.speed k (by omega)
  have hha := Valid.hand (b := b) (cs := cs) k (by omega)
  have hall := hI.all_wt hb (h.few k (by omega))
  have hdoc := h.doc cs[k] (List.getElem_mem hk)
  have hleft : (Pa.parts b (cs.take k)).left ≤ 36915 := by
    by_cases h0 : (Pa.parts b (cs.take k)).left = 0
    · omega
    · obtain ⟨o1, _, _, _, o5⟩ := hI.on (by omega)
      have := unitsS_le _ o5
      omega
  generalize Pa.parts b (cs.take k) = p at *
  have e : Pa.wt p.docs = Pa.wt p.main + Pa.wt p.frozen + Pa.wt p.live := by unfold Pa.Pt.docs; rw [Pa.wt_append, Pa.wt_append]
  have l1 := Pa.wt_len p.main
  have l2 := Pa.wt_len p.frozen
  have l3 := Pa.wt_len p.live
  refine ⟨?_, by omega, by omega, by omega⟩
  unfold Pa.came
  split
  · refine ⟨by show Pa.wt p.main + Pa.wt p.frozen ≤ _; omega, ?_, by show p.left ≤ _; omega, by show p.speed ≤ _; omega, by show p.hand ≤ _; omega⟩
    show Pa.wt (p.live ++ _) ≤ _
    rw [Pa.wt_append]
    show _ + (cs[k].doc.size + 1 + 0) ≤ _
    omega
  · refine ⟨?_, ?_, by show p.left ≤ _; omega, by show p.speed ≤ _; omega, by show p.hand ≤ _; omega⟩
    · show Pa.wt (Pa.die _ p.main) + Pa.wt (Pa.die _ p.frozen) ≤ _
      rw [Pa.wt_die, Pa.wt_die]; omega
    · have := Pa.wt_filter (fun g => !(g.id == cs[k].id)) p.live
      show Pa.wt (p.live.filter _) ≤ _
      omega

theorem rChange_any (B : Nat) (w : World) (x b : Nat) (p : Pa.Pt) (c : Do.Chg) (vm vf vl vn : Value) (hcd : c.doc.size ≤ 40) (hcl : p.live.length ≤ 10000 ∧ p.main.length ≤ 10000 ∧ p.frozen.length ≤ 10000) (hb : 1 ≤ b ∧ b ≤ 80) (hk : Small (Pa.came p c)) (hB : B ≤ w.heap.size) (h : PIn B w x p vm vf vl vn) :
    Calls Try.prog 102 #[.pointer (some ⟨x, 0, none⟩), .agg #[.bool c.ins, .string c.doc, .int .i64 (c.id : Int)], .int .i64 (b : Int)] w fun e w' => e = .returned (.tuple #[]) ∧ (∃ vm' vf' vl' vn', PIn B w' x (Pa.change b p c) vm' vf' vl' vn') ∧ Below B w w' := by
  cases hi : c.ins with
  | true =>
    have := rChange_ins B w x b p c vm vf vl vn hi hcd hcl.1 hb hk hB h
    rw [hi] at this
    exact this
  | false =>
    have := rChange_del B w x b p c vm vf vl vn hi hcd hcl hb hk hB h
    rw [hi] at this
    exact this

end Go.Proofs.Ythkndfkkgncjfab

namespace Go.Proofs.Ythkndfkkgncjfab
open Go.RowKit
set_option maxRecDepth 100000

theorem RefAt.c1 {w : World} {r : Nat} {a b p : Int} {v : Value} (h : RefAt w r a b p v) : w.cell? ⟨r, 1, none⟩ = some (.int .i64 b) := by rw [cell_of_row w r 1 _ 108 (0, 0) h]; rfl
theorem Try.sizeT154 : (Try.prog.info? 154).map (·.size) = some 8 := by kernel_rfl

set_option maxHeartbeats 2000000 in
theorem rParts_any (r : Nat) (a p : Int) (b : Nat) (v : Value) (cs : List Do.Chg) (w : World) (hb : 1 ≤ b ∧ b ≤ 80) (hl : cs.length ≤ 2000000000000) (hv : Valid b cs) (h : RefAt w r a (b : Int) p v) (hc : OwnC w 0 v cs) :
    Calls Try.prog 90 #[.pointer (some ⟨r, 0, none⟩)] w fun e w' => ∃ vm vf vl vn, e = .returned (.agg #[vm, vf, vl, vn, .bool (decide (0 < (Pa.parts b cs).left)), .int .i64 ((Pa.parts b cs).left : Int), .int .i64 ((Pa.parts b cs).speed : Int), .int .i64 ((Pa.parts b cs).hand : Int)]) ∧ OwnS w' 0 vm (Pa.parts b cs).main ∧ OwnS w' 0 vf (Pa.parts b cs).frozen ∧ OwnS w' 0 vl (Pa.parts b cs).live ∧ (∃ ln, OwnS w' 0 vn ln) ∧ Below w.heap.size w w' := by
  obtain ⟨av, cap, rfl, hcell⟩ : ∃ av cap, v = .slice av cs.length cap ∧ ∀ k c, cs[k]? = some c → ∃ g, av = some ⟨g, 0, none⟩ ∧ w.cell? ⟨g, k * 3, none⟩ = some (.bool c.ins) ∧ w.cell? ⟨g, k * 3 + 1, none⟩ = some (.string c.doc) ∧ w.cell? ⟨g, k * 3 + 2, none⟩ = some (.int .i64 (c.id : Int)) := by
    rcases hc.2 with ⟨e, hn⟩ | ⟨g, cap, cur, e, _⟩
    · refine ⟨none, 0, by rw [e, hn], fun k c hk => ?_⟩
      have := (List.getElem?_eq_some_iff.1 hk).1
      omega
    · subst e
      exact ⟨_, cap, rfl, fun k c hk => ⟨g, rfl, hc.cell rfl k c hk⟩⟩
  have HC : Hid (∀ k c, cs[k]? = some c → ∃ g, av = some ⟨g, 0, none⟩ ∧ w.cell? ⟨g, k * 3, none⟩ = some (.bool c.ins) ∧ w.cell? ⟨g, k * 3 + 1, none⟩ = some (.string c.doc) ∧ w.cell? ⟨g, k * 3 + 2, none⟩ = some (.int .i64 (c.id : Int))) := hcell
  have hrl := h.lt
  have hb0 : Below w.heap.size w ((w.alloc (.cells #[.slice none 0 0, .slice none 0 0, .slice none 0 0, .slice none 0 0, .bool false, .int .i64 0, .int .i64 0, .int .i64 0] 154)).alloc (.cells #[.slice none 0 0, .slice none 0 0, .slice none 0 0, .slice none 0 0, .bool false, .int .i64 0, .int .i64 0, .int .i64 0] 154)) := ((Below.refl _ _).alloc (Nat.le_refl _) _).alloc (by simp) _
  have hp0 : PIn (w.heap.size + 1) ((w.alloc (.cells #[.slice none 0 0, .slice none 0 0, .slice none 0 0, .slice none 0 0, .bool false, .int .i64 0, .int .i64 0, .int .i64 0] 154)).alloc (.cells #[.slice none 0 0, .slice none 0 0, .slice none 0 0, .slice none 0 0, .bool false, .int .i64 0, .int .i64 0, .int .i64 0] 154)) (w.heap.size + 1) (Pa.parts b (cs.take 0)) (.slice none 0 0) (.slice none 0 0) (.slice none 0 0) (.slice none 0 0) := ⟨by have := heap_alloc_new (w.alloc (.cells #[.slice none 0 0, .slice none 0 0, .slice none 0 0, .slice none 0 0, .bool false, .int .i64 0, .int .i64 0, .int .i64 0] 154)) (.cells #[.slice none 0 0, .slice none 0 0, .slice none 0 0, .slice none 0 0, .bool false, .int .i64 0, .int .i64 0, .int .i64 0] 154); rw [show (w.alloc (.cells #[.slice none 0 0, .slice none 0 0, .slice none 0 0, .slice none 0 0, .bool false, .int .i64 0, .int .i64 0, .int .i64 0] 154)).heap.size = w.heap.size + 1 by simp] at this; exact this, OwnS.nil _ _, OwnS.nil _ _, OwnS.nil _ _, OwnS.nil _ _, apS.nil _, apS.nil _, apS.nil _, Nat.le_refl _⟩
  have hr0 : ((w.alloc (.cells #[.slice none 0 0, .slice none 0 0, .slice none 0 0, .slice none 0 0, .bool false, .int .i64 0, .int .i64 0, .int .i64 0] 154)).alloc (.cells #[.slice none 0 0, .slice none 0 0, .slice none 0 0, .slice none 0 0, .bool false, .int .i64 0, .int .i64 0, .int .i64 0] 154)).heap[w.heap.size]? = some (.cells #[.slice none 0 0, .slice none 0 0, .slice none 0 0, .slice none 0 0, .bool false, .int .i64 0, .int .i64 0, .int .i64 0] 154 (0, 0)) := (Below.heap_alloc _ _ w.heap.size (by simp)).trans (heap_alloc_new w _)
  have hs0 : ((w.alloc (.cells #[.slice none 0 0, .slice none 0 0, .slice none 0 0, .slice none 0 0, .bool false, .int .i64 0, .int .i64 0, .int .i64 0] 154)).alloc (.cells #[.slice none 0 0, .slice none 0 0, .slice none 0 0, .slice none 0 0, .bool false, .int .i64 0, .int .i64 0, .int .i64 0] 154)).heap.size = w.heap.size + 2 := by simp
  clear hcell hc
  go_enter Try.func90, Try.ntmps90
  go_wp2_with fail
  generalize (w.alloc (.cells #[.slice none 0 0, .slice none 0 0, .slice none 0 0, .slice none 0 0, .bool false, .int .i64 0, .int .i64 0, .int .i64 0] 154)).alloc (.cells #[.slice none 0 0, .slice none 0 0, .slice none 0 0, .slice none 0 0, .bool false, .int .i64 0, .int .i64 0, .int .i64 0] 154) = w0 at *
  go_loopw [4] (fun i wr => ∃ k : Nat, k ≤ cs.length ∧ i = .int .i64 k ∧ (∃ vm vf vl vn, PIn (w.heap.size + 1) wr (w.heap.size + 1) (Pa.parts b (cs.take k)) vm vf vl vn) ∧ Below w.heap.size w wr ∧ Below (w.heap.size + 1) w0 wr) (fun i _ => cs.length - (intOf i).toNat)
  case atStart => exact ⟨0, Nat.zero_le _, rfl, ⟨_, _, _, _, hp0⟩, hb0, Below.refl _ _⟩
  case round =>
    clear hp0 hb0
    obtain ⟨k, hk, rfl, ⟨vm, vf, vl, vn, hp⟩, hbw, hbz⟩ := hrel
    have sz := hbz.size
    have sw := hbw.size
    have r1 : wr.cell? ⟨r, 1, none⟩ = some (.int .i64 (b : Int)) := (hbw.cell (p := ⟨r, 1, none⟩) hrl).trans h.c1
    have r3 : wr.cell? ⟨r, 3, none⟩ = some (.slice av cs.length cap) := (hbw.cell (p := ⟨r, 3, none⟩) hrl).trans h.c3
    by_cases hlt : k < cs.length
    · obtain ⟨c, hck⟩ : ∃ c, cs[k]? = some c := ⟨cs[k], List.getElem?_eq_getElem hlt⟩
      have hce : cs[k] = c := by
        have := List.getElem?_eq_getElem hlt
        rw [hck] at this
        exact (Option.some.inj this).symm
      obtain ⟨g, rfl, x0, x1, x2⟩ := HC.out k c hck
      have hgl : g < w.heap.size := World.block_lt_of_cell? w ⟨g, k * 3, none⟩ x0
      have y0 : wr.cell? ⟨g, k * 3, none⟩ = some (.bool c.ins) := (hbw.cell (p := ⟨g, k * 3, none⟩) hgl).trans x0
      have y1 : wr.cell? ⟨g, k * 3 + 1, none⟩ = some (.string c.doc) := (hbw.cell (p := ⟨g, k * 3 + 1, none⟩) hgl).trans x1
      have y2 : wr.cell? ⟨g, k * 3 + 2, none⟩ = some (.int .i64 (c.id : Int)) := (hbw.cell (p := ⟨g, k * 3 + 2, none⟩) hgl).trans x2
      obtain ⟨hsm, hln⟩ := hv.small hb.2 k hlt hl
      have hcd := hv.doc cs[k] (List.getElem_mem hlt)
      rw [hce] at hsm hcd
      have hpd : PIn (w.heap.size + 1) wr.drew (w.heap.size + 1) (Pa.parts b (cs.take k)) vm vf vl vn := ⟨hp.blk, hp.main, hp.frozen, hp.live, hp.next, hp.am, hp.af, hp.an, hp.low⟩
      have HCH : Hid (Calls Try.prog 102 #[.pointer (some ⟨w.heap.size + 1, 0, none⟩), .agg #[.bool c.ins, .string c.doc, .int .i64 (c.id : Int)], .int .i64 (b : Int)] wr.drew fun e w' => e = .returned (.tuple #[]) ∧ (∃ vm' vf' vl' vn', PIn (w.heap.size + 1) w' (w.heap.size + 1) (Pa.change b (Pa.parts b (cs.take k)) c) vm' vf' vl' vn') ∧ Below (w.heap.size + 1) wr.drew w') := rChange_any (w.heap.size + 1) wr.drew (w.heap.size + 1) b _ c vm vf vl vn hcd hln hb hsm (by show _ ≤ wr.heap.size; omega) hpd
      have HPM : Hid (Pa.parts b (cs.take (k + 1)) = Pa.change b (Pa.parts b (cs.take k)) c) := by
        show _ = _
        rw [List.take_succ_eq_append_getElem hlt, Pa.parts_more, hce]
      have HBW : Hid (Below w.heap.size w wr ∧ Below (w.heap.size + 1) w0 wr) := ⟨hbw, hbz⟩
      have HS : Hid (∀ w', Below w.heap.size w w' → w'.cell? ⟨r, 1, none⟩ = some (.int .i64 (b : Int)) ∧ w'.cell? ⟨r, 3, none⟩ = some (.slice (some ⟨g, 0, none⟩) cs.length cap) ∧ w'.cell? ⟨g, k * 3, none⟩ = some (.bool c.ins) ∧ w'.cell? ⟨g, k * 3 + 1, none⟩ = some (.string c.doc) ∧ w'.cell? ⟨g, k * 3 + 2, none⟩ = some (.int .i64 (c.id : Int))) := fun w' hw' => ⟨(hw'.cell (p := ⟨r, 1, none⟩) hrl).trans h.c1, (hw'.cell (p := ⟨r, 3, none⟩) hrl).trans h.c3, (hw'.cell (p := ⟨g, k * 3, none⟩) hgl).trans x0, (hw'.cell (p := ⟨g, k * 3 + 1, none⟩) hgl).trans x1, (hw'.cell (p := ⟨g, k * 3 + 2, none⟩) hgl).trans x2⟩
      clear hsm hln hcd hpd hp hbw hbz hck hce x0 x1 x2 h hv HC
      go_wp2_with fail
      refine wp_region_held_drew (S := fun w' => w'.cell? ⟨r, 1, none⟩ = some (.int .i64 (b : Int)) ∧ w'.cell? ⟨r, 3, none⟩ = some (.slice (some ⟨g, 0, none⟩) cs.length cap) ∧ w'.cell? ⟨g, k * 3, none⟩ = some (.bool c.ins) ∧ w'.cell? ⟨g, k * 3 + 1, none⟩ = some (.string c.doc) ∧ w'.cell? ⟨g, k * 3 + 2, none⟩ = some (.int .i64 (c.id : Int))) (by kernel_rfl) ⟨r1, r3, y0, y1, y2⟩ (fun hHeld => ?_)
      refine wpAnyH_take (i := 0) (v := ?a0) rfl (by kernel_rfl) (by kernel_rfl) (by kernel_rfl) (fun _ _ _ h => h) (Or.inl ⟨by rfl, ?hya0⟩) (by assumption) ?resta0
      case hya0 => intro w hSw; (try dsimp only at hSw); go_simp; (try with_reducible rfl)
      simp only [Act.put]
      refine wpAnyH_take (i := 1) (v := ?a1) rfl (by kernel_rfl) (by kernel_rfl) (by kernel_rfl) (fun _ _ _ h => h) (Or.inl ⟨by rfl, ?hya1⟩) (by assumption) ?resta1
      case hya1 => intro w hSw; (try dsimp only at hSw); go_simp; (try with_reducible rfl)
      simp only [Act.put]
      refine wpAnyH_take (i := 2) (v := ?a2) rfl (by kernel_rfl) (by kernel_rfl) (by kernel_rfl) (fun _ _ _ h => h) (Or.inl ⟨by rfl, ?hya2⟩) (by assumption) ?resta2
      case hya2 => intro w hSw; (try dsimp only at hSw); go_simp; (try with_reducible rfl)
      simp only [Act.put]
      refine wpAnyH_take (i := 3) (v := ?a3) rfl (by kernel_rfl) (by kernel_rfl) (by kernel_rfl) (fun _ _ _ h => h) (Or.inl ⟨by rfl, ?hya3⟩) (by assumption) ?resta3
      case hya3 => intro w hSw; (try dsimp only at hSw); go_simp; (try with_reducible rfl)
      simp only [Act.put]
      refine wpAnyH_take (i := 4) (v := ?a4) rfl (by kernel_rfl) (by kernel_rfl) (by kernel_rfl) (fun _ _ _ h => h) (Or.inl ⟨by rfl, ?hya4⟩) (by assumption) ?resta4
      case hya4 => intro w hSw; (try dsimp only at hSw); go_simp; (try with_reducible rfl)
      simp only [Act.put]
      refine wpAnyH_take (i := 5) (v := ?a5) rfl (by kernel_rfl) (by kernel_rfl) (by kernel_rfl) (fun _ _ _ h => h) (Or.inl ⟨by rfl, ?hya5⟩) (by assumption) ?resta5
      case hya5 => intro w hSw; (try dsimp only at hSw); go_simp; (try with_reducible rfl)
      simp only [Act.put]
      refine wpAnyH_take (i := 6) (v := ?a6) rfl (by kernel_rfl) (by kernel_rfl) (by kernel_rfl) (fun _ _ _ h => h) (Or.inl ⟨by rfl, ?hya6⟩) (by assumption) ?resta6
      case hya6 => intro w hSw; (try dsimp only at hSw); go_simp; (try with_reducible rfl)
      simp only [Act.put]
      refine wpAnyH_take (i := 7) (v := ?a7) rfl (by kernel_rfl) (by kernel_rfl) (by kernel_rfl) (fun _ _ _ h => h) (Or.inl ⟨by rfl, ?hya7⟩) (by assumption) ?resta7
      case hya7 => intro w hSw; (try dsimp only at hSw); go_simp; (try with_reducible rfl)
      simp only [Act.put]
      refine wpAnyH_take (i := 8) (v := ?a8) rfl (by kernel_rfl) (by kernel_rfl) (by kernel_rfl) (fun _ _ _ h => h) (Or.inl ⟨by rfl, ?hya8⟩) (by assumption) ?resta8
      case hya8 => intro w hSw; (try dsimp only at hSw); go_simp; (try with_reducible rfl)
      simp only [Act.put]
      refine wpAnyH_take (i := 9) (v := ?a9) rfl (by kernel_rfl) (by kernel_rfl) (by kernel_rfl) (fun _ _ _ h => h) (Or.inl ⟨by rfl, ?hya9⟩) (by assumption) ?resta9
      case hya9 => intro w hSw; (try dsimp only at hSw); go_simp; (try with_reducible rfl)
      simp only [Act.put]
      refine wpAnyH_take (i := 10) (v := ?a10) rfl (by kernel_rfl) (by kernel_rfl) (by kernel_rfl) (fun _ _ _ h => h) (Or.inl ⟨by rfl, ?hya10⟩) (by assumption) ?resta10
      case hya10 => intro w hSw; (try dsimp only at hSw); go_simp; (try with_reducible rfl)
      simp only [Act.put]
      refine wpAnyH_take (i := 11) (v := ?a11) rfl (by kernel_rfl) (by kernel_rfl) (by kernel_rfl) (fun _ _ _ h => h) (Or.inl ⟨by rfl, ?hya11⟩) (by assumption) ?resta11
      case hya11 => intro w hSw; (try dsimp only at hSw); go_simp; (try with_reducible rfl)
      simp only [Act.put]
      refine wpAnyH_ready (rs := [12]) (by kernel_rfl) (by simp) ?_
      refine AllReadyH.cons rfl (fun K hK => ?_) AllReadyH.nil
      go_simp
      refine HCH.out.mono ?_
      rintro e w2 ⟨rfl, hP2, hB2⟩
      have hB3 : Below w.heap.size w w2 := (HBW.out.1.drew).trans (hB2.mono (by omega))
      have hB4 : Below (w.heap.size + 1) w0 w2 := (HBW.out.2.drew).trans hB2
      refine hK.out _ _ (HS.out _ hB3) (fun hHeld => ?_)
      clear hK K hHeld
      refine wpAnyH_done (by kernel_rfl) ?_ _
      have HP2 : Hid (∃ vm' vf' vl' vn', PIn (w.heap.size + 1) w2 (w.heap.size + 1) (Pa.change b (Pa.parts b (cs.take k)) c) vm' vf' vl' vn') := hP2
      have HB3 : Hid (Below w.heap.size w w2 ∧ Below (w.heap.size + 1) w0 w2) := ⟨hB3, hB4⟩
      clear hP2 hB2 hB3 hB4
      go_wp2_with fail
      exact ⟨⟨k + 1, by omega, by go_num, by rw [HPM.out]; exact HP2.out, HB3.out.1, HB3.out.2⟩, by simp [intOf]; omega⟩
    · have hke : k = cs.length := by omega
      subst hke
      rw [List.take_of_length_le (Nat.le_refl _)] at hp
      have q0 := hp.blk.c0
      have q1 := hp.blk.c1
      have q2 := hp.blk.c2
      have q3 := hp.blk.c3
      have q4 := hp.blk.c4
      have q5 := hp.blk.c5
      have q6 := hp.blk.c6
      have q7 := hp.blk.c7
      have HP : Hid (PIn (w.heap.size + 1) wr (w.heap.size + 1) (Pa.parts b cs) vm vf vl vn) := hp
      have HBW : Hid (Below w.heap.size w wr) := hbw
      have hrz : wr.heap[w.heap.size]? = some (.cells #[.slice none 0 0, .slice none 0 0, .slice none 0 0, .slice none 0 0, .bool false, .int .i64 0, .int .i64 0, .int .i64 0] 154 (0, 0)) := (hbz.block w.heap.size (by omega)).trans hr0
      have hG : (wr.setRow w.heap.size #[vm, vf, vl, vn, .bool (decide (0 < (Pa.parts b cs).left)), .int .i64 ((Pa.parts b cs).left : Int), .int .i64 ((Pa.parts b cs).speed : Int), .int .i64 ((Pa.parts b cs).hand : Int)]).heap[w.heap.size]? = some (.cells #[vm, vf, vl, vn, .bool (decide (0 < (Pa.parts b cs).left)), .int .i64 ((Pa.parts b cs).left : Int), .int .i64 ((Pa.parts b cs).speed : Int), .int .i64 ((Pa.parts b cs).hand : Int)] 154 (0, 0)) := setRow_heap _ _ _ _ _ _ hrz
      have hone : ∀ v l, OwnS wr (w.heap.size + 1) v l → v.oneCell' = true := fun v l hv => by
        obtain ⟨_, _, rfl, _⟩ := hv.any
        rfl
      have o1 := hone _ _ hp.main
      have o2 := hone _ _ hp.frozen
      have o3 := hone _ _ hp.live
      have o4 := hone _ _ hp.next
      clear hp hbw hbz HC hv h hone
      go_wp2_with (with_reducible refine wpList_store_row rfl 154 _ _ rfl w.heap.size #[vm, vf, vl, vn, .bool (decide (0 < (Pa.parts b cs).left)), .int .i64 ((Pa.parts b cs).left : Int), .int .i64 ((Pa.parts b cs).speed : Int), .int .i64 ((Pa.parts b cs).hand : Int)] ?_ ?_ 154 #[.slice none 0 0, .slice none 0 0, .slice none 0 0, .slice none 0 0, .bool false, .int .i64 0, .int .i64 0, .int .i64 0] ?_ ?_ ?_ ?_ ?_)
      case refine_1 => rfl
      case refine_2 => rfl
      case refine_3 => exact hrz
      case refine_4 => exact Try.sizeT154
      case refine_5 => rfl
      case refine_6 => simp [o1, o2, o3, o4]; exact ⟨rfl, rfl, rfl, rfl⟩
      refine bodyPost_ret (by exact results_cell_row rfl _ _ w.heap.size 154 _ _ _ rfl hG Try.underlying154 rfl Try.sizeT154) rfl ?_
      have far : ∀ (cells : Array Value) {v : Value} {l : List Pa.Pg}, OwnS wr (w.heap.size + 1) v l → OwnS (wr.setRow w.heap.size cells) 0 v l := fun cells {v l} hv => (OwnS.only (w' := wr.setRow w.heap.size cells) (F := fun k => k = w.heap.size) hv ⟨rfl, rfl, rfl, by simp, fun k _ hk => setRow_other _ _ _ _ hk⟩ (fun q hq e => by have := hv.at_least q hq; omega)).weaken (Nat.zero_le _)
      exact ⟨vm, vf, vl, vn, rfl, far _ HP.out.main, far _ HP.out.frozen, far _ HP.out.live, ⟨_, far _ HP.out.next⟩, below_setRow HBW.out⟩

end Go.Proofs.Ythkndfkkgncjfab

namespace Go.Proofs.Ythkndfkkgncjfab
open Go.RowKit
set_option maxRecDepth 100000

/-- Stats' cells -/
def StB (w : World) (s : Nat) (n0 n1 n2 n3 n4 n5 n6 n7 n8 : Int) : Prop := w.heap[s]? = some (.cells #[.int .i64 n0, .int .i64 n1, .int .i64 n2, .int .i64 n3, .int .i64 n4, .int .i64 n5, .int .i64 n6, .int .i64 n7, .int .i64 n8] 50 (0, 0))
section
variable {w w' : World} {s : Nat} {n0 n1 n2 n3 n4 n5 n6 n7 n8 : Int}
theorem StB.lt (h : StB w s n0 n1 n2 n3 n4 n5 n6 n7 n8) : s < w.heap.size := lt_of_block h
theorem StB.free (h : StB w s n0 n1 n2 n3 n4 n5 n6 n7 n8) (j : Nat) : w.frozen? ⟨s, j, none⟩ = false := frozen_of_row w s j _ 50 h
theorem StB.other (h : StB w s n0 n1 n2 n3 n4 n5 n6 n7 n8) (p : Addr) (u : Value) (hne : s ≠ p.block) : StB (w.setCell p u) s n0 n1 n2 n3 n4 n5 n6 n7 n8 := (Below.heap_setCell w p u s hne).trans h
theorem StB.below (h : StB w s n0 n1 n2 n3 n4 n5 n6 n7 n8) (hb : Below w.heap.size w w') : StB w' s n0 n1 n2 n3 n4 n5 n6 n7 n8 := (hb.block s h.lt).trans h
theorem StB.c0 (h : StB w s n0 n1 n2 n3 n4 n5 n6 n7 n8) : w.cell? ⟨s, 0, none⟩ = some (.int .i64 n0) := by rw [cell_of_row w s 0 _ 50 (0, 0) h]; rfl
theorem StB.s0 (h : StB w s n0 n1 n2 n3 n4 n5 n6 n7 n8) (u : Int) : StB (w.setCell ⟨s, 0, none⟩ (.int .i64 u)) s u n1 n2 n3 n4 n5 n6 n7 n8 := (heap_setCell_same w s 0 _ 50 _ h).trans rfl
theorem StB.c1 (h : StB w s n0 n1 n2 n3 n4 n5 n6 n7 n8) : w.cell? ⟨s, 1, none⟩ = some (.int .i64 n1) := by rw [cell_of_row w s 1 _ 50 (0, 0) h]; rfl
theorem StB.s1 (h : StB w s n0 n1 n2 n3 n4 n5 n6 n7 n8) (u : Int) : StB (w.setCell ⟨s, 1, none⟩ (.int .i64 u)) s n0 u n2 n3 n4 n5 n6 n7 n8 := (heap_setCell_same w s 1 _ 50 _ h).trans rfl
theorem StB.c2 (h : StB w s n0 n1 n2 n3 n4 n5 n6 n7 n8) : w.cell? ⟨s, 2, none⟩ = some (.int .i64 n2) := by rw [cell_of_row w s 2 _ 50 (0, 0) h]; rfl
theorem StB.s2 (h : StB w s n0 n1 n2 n3 n4 n5 n6 n7 n8) (u : Int) : StB (w.setCell ⟨s, 2, none⟩ (.int .i64 u)) s n0 n1 u n3 n4 n5 n6 n7 n8 := (heap_setCell_same w s 2 _ 50 _ h).trans rfl
theorem StB.c3 (h : StB w s n0 n1 n2 n3 n4 n5 n6 n7 n8) : w.cell? ⟨s, 3, none⟩ = some (.int .i64 n3) := by rw [cell_of_row w s 3 _ 50 (0, 0) h]; rfl
theorem StB.s3 (h : StB w s n0 n1 n2 n3 n4 n5 n6 n7 n8) (u : Int) : StB (w.setCell ⟨s, 3, none⟩ (.int .i64 u)) s n0 n1 n2 u n4 n5 n6 n7 n8 := (heap_setCell_same w s 3 _ 50 _ h).trans rfl
theorem StB.c4 (h : StB w s n0 n1 n2 n3 n4 n5 n6 n7 n8) : w.cell? ⟨s, 4, none⟩ = some (.int .i64 n4) := by rw [cell_of_row w s 4 _ 50 (0, 0) h]; rfl
theorem StB.s4 (h : StB w s n0 n1 n2 n3 n4 n5 n6 n7 n8) (u : Int) : StB (w.setCell ⟨s, 4, none⟩ (.int .i64 u)) s n0 n1 n2 n3 u n5 n6 n7 n8 := (heap_setCell_same w s 4 _ 50 _ h).trans rfl
theorem StB.c5 (h : StB w s n0 n1 n2 n3 n4 n5 n6 n7 n8) : w.cell? ⟨s, 5, none⟩ = some (.int .i64 n5) := by rw [cell_of_row w s 5 _ 50 (0, 0) h]; rfl
theorem StB.s5 (h : StB w s n0 n1 n2 n3 n4 n5 n6 n7 n8) (u : Int) : StB (w.setCell ⟨s, 5, none⟩ (.int .i64 u)) s n0 n1 n2 n3 n4 u n6 n7 n8 := (heap_setCell_same w s 5 _ 50 _ h).trans rfl
theorem StB.c6 (h : StB w s n0 n1 n2 n3 n4 n5 n6 n7 n8) : w.cell? ⟨s, 6, none⟩ = some (.int .i64 n6) := by rw [cell_of_row w s 6 _ 50 (0, 0) h]; rfl
theorem StB.s6 (h : StB w s n0 n1 n2 n3 n4 n5 n6 n7 n8) (u : Int) : StB (w.setCell ⟨s, 6, none⟩ (.int .i64 u)) s n0 n1 n2 n3 n4 n5 u n7 n8 := (heap_setCell_same w s 6 _ 50 _ h).trans rfl
theorem StB.c7 (h : StB w s n0 n1 n2 n3 n4 n5 n6 n7 n8) : w.cell? ⟨s, 7, none⟩ = some (.int .i64 n7) := by rw [cell_of_row w s 7 _ 50 (0, 0) h]; rfl
theorem StB.s7 (h : StB w s n0 n1 n2 n3 n4 n5 n6 n7 n8) (u : Int) : StB (w.setCell ⟨s, 7, none⟩ (.int .i64 u)) s n0 n1 n2 n3 n4 n5 n6 u n8 := (heap_setCell_same w s 7 _ 50 _ h).trans rfl
theorem StB.c8 (h : StB w s n0 n1 n2 n3 n4 n5 n6 n7 n8) : w.cell? ⟨s, 8, none⟩ = some (.int .i64 n8) := by rw [cell_of_row w s 8 _ 50 (0, 0) h]; rfl
theorem StB.s8 (h : StB w s n0 n1 n2 n3 n4 n5 n6 n7 n8) (u : Int) : StB (w.setCell ⟨s, 8, none⟩ (.int .i64 u)) s n0 n1 n2 n3 n4 n5 n6 n7 u := (heap_setCell_same w s 8 _ 50 _ h).trans rfl
end

end Go.Proofs.Ythkndfkkgncjfab

namespace Go.Proofs.Ythkndfkkgncjfab
open Go.RowKit
set_option maxRecDepth 100000

theorem Try.sizeT50' : (Try.prog.info? 50).map (·.size) = some 9 := by kernel_rfl

set_option maxHeartbeats 4000000 in
theorem rStats_any (r : Nat) (a p : Int) (b : Nat) (v : Value) (cs : List Do.Chg) (w : World) (hb : 1 ≤ b ∧ b ≤ 80) (hl : cs.length ≤ 2000000000000) (hv : Valid b cs) (h : RefAt w r a (b : Int) p v) (hc : OwnC w 0 v cs) (P : Pa.Pt) (hP : Pa.parts b cs = P) (L : List Do.Chg) (hL : Do.there cs = L) (onv : Int) (hov : (if 0 < P.left then (1 : Int) else 0) = onv) :
    Calls Try.prog 67 #[.pointer (some ⟨r, 0, none⟩)] w fun e w' => e = .returned (.agg #[.int .i64 (L.length : Int), .int .i64 (Do.size L : Nat), .int .i64 (Pa.wt P.main : Nat), .int .i64 (Pa.wt P.frozen : Nat), .int .i64 (Pa.wt P.live : Nat), .int .i64 (Pa.wt (Pa.dead P.main) : Nat), .int .i64 (P.left : Int), .int .i64 onv, .int .i64 (P.hand : Int)]) ∧ Below w.heap.size w w' := by
  obtain ⟨hI, hf⟩ := hv.last
  have hall := hI.all_wt hb.2 hf
  have hdo : ∀ c ∈ L, c.doc.size ≤ 40 := fun c hm => by
    rw [← hL, ← hI.there, List.mem_map] at hm
    obtain ⟨g, hg, rfl⟩ := hm
    exact hI.small g (List.mem_filter.1 hg).1
  have hwt : Pa.wt P.main + Pa.wt P.frozen + Pa.wt P.live ≤ 5300 := by
    rw [hP] at hall
    unfold Pa.Pt.docs at hall
    rw [Pa.wt_append, Pa.wt_append] at hall
    exact hall
  have hdw : Pa.wt (Pa.dead P.main) ≤ Pa.wt P.main := by have := Pa.wt_split P.main; omega
  have hlf : L.length ≤ 60 := by rw [← hL]; exact hf
  have hb0 : Below w.heap.size w (w.alloc (.cells #[.int .i64 0, .int .i64 0, .int .i64 0, .int .i64 0, .int .i64 0, .int .i64 0, .int .i64 0, .int .i64 0, .int .i64 0] 50)) := (Below.refl _ _).alloc (Nat.le_refl _) _
  have hr0 : StB (w.alloc (.cells #[.int .i64 0, .int .i64 0, .int .i64 0, .int .i64 0, .int .i64 0, .int .i64 0, .int .i64 0, .int .i64 0, .int .i64 0] 50)) w.heap.size 0 0 0 0 0 0 0 0 0 := heap_alloc_new w _
  have h1 := h.below hb0
  have hc1 := hc.below hb0
  have hrl := h.lt
  go_enter Try.func67, Try.ntmps67
  go_wp2_with fail
  generalize w.alloc (.cells #[.int .i64 0, .int .i64 0, .int .i64 0, .int .i64 0, .int .i64 0, .int .i64 0, .int .i64 0, .int .i64 0, .int .i64 0] 50) = w1 at *
  refine (rParts_any r a p b v cs w1 hb hl hv h1 hc1).mono ?_
  rintro e w2 ⟨vm, vf, vl, vn, rfl, om, ofz, ol, ⟨ln, on'⟩, hb2⟩
  rw [hP] at om ofz ol
  rw [hP]
  have s2 := hb2.size
  have h2 := h1.below hb2
  have hc2 := hc1.below hb2
  have hr2 := hr0.below hb2
  have hs0 := hb0.size
  have hr0l := hr0.lt
  obtain ⟨am, cm, rfl, _⟩ := om.any
  obtain ⟨af, cf, rfl, _⟩ := ofz.any
  obtain ⟨al, cl, rfl, _⟩ := ol.any
  obtain ⟨an, cn, rfl, _⟩ := on'.any
  clear on'
  generalize ln.length = nn
  have hb3 : Below w2.heap.size w2 (w2.alloc (.cells #[.slice am P.main.length cm, .slice af P.frozen.length cf, .slice al P.live.length cl, .slice an nn cn, .bool (decide (0 < P.left)), .int .i64 (P.left : Int), .int .i64 (P.speed : Int), .int .i64 (P.hand : Int)] 154)) := (Below.refl _ _).alloc (Nat.le_refl _) _
  have hp3 : PB (w2.alloc (.cells #[.slice am P.main.length cm, .slice af P.frozen.length cf, .slice al P.live.length cl, .slice an nn cn, .bool (decide (0 < P.left)), .int .i64 (P.left : Int), .int .i64 (P.speed : Int), .int .i64 (P.hand : Int)] 154)) w2.heap.size (.slice am P.main.length cm) (.slice af P.frozen.length cf) (.slice al P.live.length cl) (.slice an nn cn) (decide (0 < P.left)) (P.left : Int) (P.speed : Int) (P.hand : Int) := heap_alloc_new w2 _
  have h3 := h2.below hb3
  have hc3 := hc2.below hb3
  have hr3 := hr2.below hb3
  have om3 := om.below hb3
  have of3 := ofz.below hb3
  have ol3 := ol.below hb3
  have s3 := hb3.size
  have hp3l := hp3.lt
  clear h h1 h2 hc hc1 hc2 hr0 hr2 om ofz ol hv hI
  go_wp2_with fail
  generalize w2.alloc (.cells #[.slice am P.main.length cm, .slice af P.frozen.length cf, .slice al P.live.length cl, .slice an nn cn, .bool (decide (0 < P.left)), .int .i64 (P.left : Int), .int .i64 (P.speed : Int), .int .i64 (P.hand : Int)] 154) = w3 at *
  refine (there_any r a (b : Int) p cs w3 hl ⟨v, h3, hc3⟩).mono ?_
  rintro e w4 ⟨u, rfl, hu, hb4⟩
  rw [hL] at hu
  have s4 := hb4.size
  obtain ⟨au, cu, rfl⟩ : ∃ au cu, u = .slice au L.length cu := by
    rcases hu.2 with ⟨e, hn⟩ | ⟨g, cap, cur, e, _⟩
    · exact ⟨none, 0, by rw [e, hn]⟩
    · exact ⟨_, cap, e⟩
  have p4 := hp3.below hb4
  have r4 := hr3.below hb4
  have om4 := om3.below hb4
  have of4 := of3.below hb4
  have ol4 := ol3.below hb4
  have hall4 : Below w.heap.size w w4 := ((hb0.trans (hb2.mono hs0)).trans (hb3.mono (by omega))).trans (hb4.mono (by omega))
  have hfo : ∀ o : Obj, Below w4.heap.size w4 (w4.alloc o) := fun o => (Below.refl _ _).alloc (Nat.le_refl _) o
  have HY : Hid (∀ o, PB (w4.alloc o) w2.heap.size (.slice am P.main.length cm) (.slice af P.frozen.length cf) (.slice al P.live.length cl) (.slice an nn cn) (decide (0 < P.left)) (P.left : Int) (P.speed : Int) (P.hand : Int)) := fun o => p4.below (hfo o)
  have HBY : Hid (∀ o, Calls Try.prog 85 #[.slice au L.length cu] (w4.alloc o) fun e w' => e = .returned (.int .i64 ((Do.size L : Nat) : Int)) ∧ w' = w4.alloc o) := fun o => bytes_at _ _ L _ _ rfl (by omega) hdo (hu.below (hfo o))
  have HW1 : Hid (∀ o, Calls Try.prog 91 #[.slice am P.main.length cm, .bool true, .bool true] (w4.alloc o) fun e w' => e = .returned (.int .i64 ((Pa.wt P.main : Nat) : Int)) ∧ w' = w4.alloc o) := fun o => by
    have := rWeight_any _ P.main true true _ (om4.below (hfo o)) (by omega)
    rw [Pa.wsel_all] at this
    exact this
  have HW2 : Hid (∀ o, Calls Try.prog 91 #[.slice af P.frozen.length cf, .bool true, .bool true] (w4.alloc o) fun e w' => e = .returned (.int .i64 ((Pa.wt P.frozen : Nat) : Int)) ∧ w' = w4.alloc o) := fun o => by
    have := rWeight_any _ P.frozen true true _ (of4.below (hfo o)) (by omega)
    rw [Pa.wsel_all] at this
    exact this
  have HW3 : Hid (∀ o, Calls Try.prog 91 #[.slice al P.live.length cl, .bool true, .bool true] (w4.alloc o) fun e w' => e = .returned (.int .i64 ((Pa.wt P.live : Nat) : Int)) ∧ w' = w4.alloc o) := fun o => by
    have := rWeight_any _ P.live true true _ (ol4.below (hfo o)) (by omega)
    rw [Pa.wsel_all] at this
    exact this
  have HW4 : Hid (∀ o, Calls Try.prog 91 #[.slice am P.main.length cm, .bool true, .bool false] (w4.alloc o) fun e w' => e = .returned (.int .i64 ((Pa.wt (Pa.dead P.main) : Nat) : Int)) ∧ w' = w4.alloc o) := fun o => by
    have := rWeight_any _ P.main true false _ (om4.below (hfo o)) (by omega)
    rw [Pa.wsel_dead] at this
    exact this
  have HR4 : Hid (StB w4 w.heap.size 0 0 0 0 0 0 0 0 0) := r4
  have HA4 : Hid (Below w.heap.size w w4) := hall4
  clear h3 hc3 hr3 om3 of3 ol3 hu hb4 hb3 hb2 hb0 p4 r4 om4 of4 ol4 hfo hall4 hdo
  go_wp2_with fail
  refine (HBY.out _).mono ?_
  rintro e wx ⟨rfl, hwx⟩; rw [hwx]; clear hwx
  have z0 := (HY.out (.cells #[.int .i64 (L.length : Int), .int .i64 ((Do.size L : Nat) : Int), .int .i64 0, .int .i64 0, .int .i64 0, .int .i64 0, .int .i64 0, .int .i64 0, .int .i64 0] 50)).c0
  go_wp2_with fail
  clear z0
  refine (HW1.out _).mono ?_
  rintro e wx ⟨rfl, hwx⟩; rw [hwx]; clear hwx
  have z0 := (HY.out (.cells #[.int .i64 (L.length : Int), .int .i64 ((Do.size L : Nat) : Int), .int .i64 ((Pa.wt P.main : Nat) : Int), .int .i64 0, .int .i64 0, .int .i64 0, .int .i64 0, .int .i64 0, .int .i64 0] 50)).c1
  go_wp2_with fail
  clear z0
  refine (HW2.out _).mono ?_
  rintro e wx ⟨rfl, hwx⟩; rw [hwx]; clear hwx
  have z0 := (HY.out (.cells #[.int .i64 (L.length : Int), .int .i64 ((Do.size L : Nat) : Int), .int .i64 ((Pa.wt P.main : Nat) : Int), .int .i64 ((Pa.wt P.frozen : Nat) : Int), .int .i64 0, .int .i64 0, .int .i64 0, .int .i64 0, .int .i64 0] 50)).c2
  go_wp2_with fail
  clear z0
  refine (HW3.out _).mono ?_
  rintro e wx ⟨rfl, hwx⟩; rw [hwx]; clear hwx
  have z0 := (HY.out (.cells #[.int .i64 (L.length : Int), .int .i64 ((Do.size L : Nat) : Int), .int .i64 ((Pa.wt P.main : Nat) : Int), .int .i64 ((Pa.wt P.frozen : Nat) : Int), .int .i64 ((Pa.wt P.live : Nat) : Int), .int .i64 0, .int .i64 0, .int .i64 0, .int .i64 0] 50)).c0
  go_wp2_with fail
  clear z0
  refine (HW4.out _).mono ?_
  rintro e wx ⟨rfl, hwx⟩; rw [hwx]; clear hwx
  have z0 := (HY.out (.cells #[.int .i64 (L.length : Int), .int .i64 ((Do.size L : Nat) : Int), .int .i64 ((Pa.wt P.main : Nat) : Int), .int .i64 ((Pa.wt P.frozen : Nat) : Int), .int .i64 ((Pa.wt P.live : Nat) : Int), .int .i64 ((Pa.wt (Pa.dead P.main) : Nat) : Int), .int .i64 0, .int .i64 0, .int .i64 0] 50)).c5
  have z1 := (HY.out (.cells #[.int .i64 (L.length : Int), .int .i64 ((Do.size L : Nat) : Int), .int .i64 ((Pa.wt P.main : Nat) : Int), .int .i64 ((Pa.wt P.frozen : Nat) : Int), .int .i64 ((Pa.wt P.live : Nat) : Int), .int .i64 ((Pa.wt (Pa.dead P.main) : Nat) : Int), .int .i64 (P.left : Int), .int .i64 0, .int .i64 0] 50)).c4
  have z2 := (HY.out (.cells #[.int .i64 (L.length : Int), .int .i64 ((Do.size L : Nat) : Int), .int .i64 ((Pa.wt P.main : Nat) : Int), .int .i64 ((Pa.wt P.frozen : Nat) : Int), .int .i64 ((Pa.wt P.live : Nat) : Int), .int .i64 ((Pa.wt (Pa.dead P.main) : Nat) : Int), .int .i64 (P.left : Int), .int .i64 0, .int .i64 0] 50)).c7
  have z3 := (HY.out (.cells #[.int .i64 (L.length : Int), .int .i64 ((Do.size L : Nat) : Int), .int .i64 ((Pa.wt P.main : Nat) : Int), .int .i64 ((Pa.wt P.frozen : Nat) : Int), .int .i64 ((Pa.wt P.live : Nat) : Int), .int .i64 ((Pa.wt (Pa.dead P.main) : Nat) : Int), .int .i64 (P.left : Int), .int .i64 1, .int .i64 0] 50)).c7
  clear HBY HW1 HW2 HW3 HW4
  by_cases hon : 0 < P.left
  · rw [decide_eq_true hon] at z1
    rw [if_pos hon] at hov
    subst hov
    have hrz : StB (w4.alloc (.cells #[.int .i64 (L.length : Int), .int .i64 ((Do.size L : Nat) : Int), .int .i64 ((Pa.wt P.main : Nat) : Int), .int .i64 ((Pa.wt P.frozen : Nat) : Int), .int .i64 ((Pa.wt P.live : Nat) : Int), .int .i64 ((Pa.wt (Pa.dead P.main) : Nat) : Int), .int .i64 (P.left : Int), .int .i64 1, .int .i64 (P.hand : Int)] 50)) w.heap.size 0 0 0 0 0 0 0 0 0 := HR4.out.below ((Below.refl _ _).alloc (Nat.le_refl _) _)
    have hG : ((w4.alloc (.cells #[.int .i64 (L.length : Int), .int .i64 ((Do.size L : Nat) : Int), .int .i64 ((Pa.wt P.main : Nat) : Int), .int .i64 ((Pa.wt P.frozen : Nat) : Int), .int .i64 ((Pa.wt P.live : Nat) : Int), .int .i64 ((Pa.wt (Pa.dead P.main) : Nat) : Int), .int .i64 (P.left : Int), .int .i64 1, .int .i64 (P.hand : Int)] 50)).setRow w.heap.size #[.int .i64 (L.length : Int), .int .i64 ((Do.size L : Nat) : Int), .int .i64 ((Pa.wt P.main : Nat) : Int), .int .i64 ((Pa.wt P.frozen : Nat) : Int), .int .i64 ((Pa.wt P.live : Nat) : Int), .int .i64 ((Pa.wt (Pa.dead P.main) : Nat) : Int), .int .i64 (P.left : Int), .int .i64 1, .int .i64 (P.hand : Int)]).heap[w.heap.size]? = some (.cells #[.int .i64 (L.length : Int), .int .i64 ((Do.size L : Nat) : Int), .int .i64 ((Pa.wt P.main : Nat) : Int), .int .i64 ((Pa.wt P.frozen : Nat) : Int), .int .i64 ((Pa.wt P.live : Nat) : Int), .int .i64 ((Pa.wt (Pa.dead P.main) : Nat) : Int), .int .i64 (P.left : Int), .int .i64 1, .int .i64 (P.hand : Int)] 50 (0, 0)) := setRow_heap _ _ _ _ _ _ hrz
    have HBZ : Hid (Below w.heap.size w ((w4.alloc (.cells #[.int .i64 (L.length : Int), .int .i64 ((Do.size L : Nat) : Int), .int .i64 ((Pa.wt P.main : Nat) : Int), .int .i64 ((Pa.wt P.frozen : Nat) : Int), .int .i64 ((Pa.wt P.live : Nat) : Int), .int .i64 ((Pa.wt (Pa.dead P.main) : Nat) : Int), .int .i64 (P.left : Int), .int .i64 1, .int .i64 (P.hand : Int)] 50)).setRow w.heap.size #[.int .i64 (L.length : Int), .int .i64 ((Do.size L : Nat) : Int), .int .i64 ((Pa.wt P.main : Nat) : Int), .int .i64 ((Pa.wt P.frozen : Nat) : Int), .int .i64 ((Pa.wt P.live : Nat) : Int), .int .i64 ((Pa.wt (Pa.dead P.main) : Nat) : Int), .int .i64 (P.left : Int), .int .i64 1, .int .i64 (P.hand : Int)])) := below_setRow (HA4.out.alloc HA4.out.size _)
    clear hon
    go_wp2_with (with_reducible refine wpList_store_row rfl 50 _ _ rfl w.heap.size #[.int .i64 (L.length : Int), .int .i64 ((Do.size L : Nat) : Int), .int .i64 ((Pa.wt P.main : Nat) : Int), .int .i64 ((Pa.wt P.frozen : Nat) : Int), .int .i64 ((Pa.wt P.live : Nat) : Int), .int .i64 ((Pa.wt (Pa.dead P.main) : Nat) : Int), .int .i64 (P.left : Int), .int .i64 1, .int .i64 (P.hand : Int)] ?_ ?_ 50 #[.int .i64 0, .int .i64 0, .int .i64 0, .int .i64 0, .int .i64 0, .int .i64 0, .int .i64 0, .int .i64 0, .int .i64 0] ?_ ?_ ?_ ?_ ?_)
    case refine_1 => rfl
    case refine_2 => rfl
    case refine_3 => exact hrz
    case refine_4 => exact Try.sizeT50'
    case refine_5 => rfl
    case refine_6 => simp [Value.oneCell']
    refine bodyPost_ret (by exact results_cell_row rfl _ _ w.heap.size 50 _ _ _ rfl hG Try.underlying50 rfl Try.sizeT50') rfl ?_
    exact ⟨rfl, HBZ.out⟩
  · rw [decide_eq_false hon] at z1
    rw [if_neg hon] at hov
    subst hov
    have hrz : StB (w4.alloc (.cells #[.int .i64 (L.length : Int), .int .i64 ((Do.size L : Nat) : Int), .int .i64 ((Pa.wt P.main : Nat) : Int), .int .i64 ((Pa.wt P.frozen : Nat) : Int), .int .i64 ((Pa.wt P.live : Nat) : Int), .int .i64 ((Pa.wt (Pa.dead P.main) : Nat) : Int), .int .i64 (P.left : Int), .int .i64 0, .int .i64 (P.hand : Int)] 50)) w.heap.size 0 0 0 0 0 0 0 0 0 := HR4.out.below ((Below.refl _ _).alloc (Nat.le_refl _) _)
    have hG : ((w4.alloc (.cells #[.int .i64 (L.length : Int), .int .i64 ((Do.size L : Nat) : Int), .int .i64 ((Pa.wt P.main : Nat) : Int), .int .i64 ((Pa.wt P.frozen : Nat) : Int), .int .i64 ((Pa.wt P.live : Nat) : Int), .int .i64 ((Pa.wt (Pa.dead P.main) : Nat) : Int), .int .i64 (P.left : Int), .int .i64 0, .int .i64 (P.hand : Int)] 50)).setRow w.heap.size #[.int .i64 (L.length : Int), .int .i64 ((Do.size L : Nat) : Int), .int .i64 ((Pa.wt P.main : Nat) : Int), .int .i64 ((Pa.wt P.frozen : Nat) : Int), .int .i64 ((Pa.wt P.live : Nat) : Int), .int .i64 ((Pa.wt (Pa.dead P.main) : Nat) : Int), .int .i64 (P.left : Int), .int .i64 0, .int .i64 (P.hand : Int)]).heap[w.heap.size]? = some (.cells #[.int .i64 (L.length : Int), .int .i64 ((Do.size L : Nat) : Int), .int .i64 ((Pa.wt P.main : Nat) : Int), .int .i64 ((Pa.wt P.frozen : Nat) : Int), .int .i64 ((Pa.wt P.live : Nat) : Int), .int .i64 ((Pa.wt (Pa.dead P.main) : Nat) : Int), .int .i64 (P.left : Int), .int .i64 0, .int .i64 (P.hand : Int)] 50 (0, 0)) := setRow_heap _ _ _ _ _ _ hrz
    have HBZ : Hid (Below w.heap.size w ((w4.alloc (.cells #[.int .i64 (L.length : Int), .int .i64 ((Do.size L : Nat) : Int), .int .i64 ((Pa.wt P.main : Nat) : Int), .int .i64 ((Pa.wt P.frozen : Nat) : Int), .int .i64 ((Pa.wt P.live : Nat) : Int), .int .i64 ((Pa.wt (Pa.dead P.main) : Nat) : Int), .int .i64 (P.left : Int), .int .i64 0, .int .i64 (P.hand : Int)] 50)).setRow w.heap.size #[.int .i64 (L.length : Int), .int .i64 ((Do.size L : Nat) : Int), .int .i64 ((Pa.wt P.main : Nat) : Int), .int .i64 ((Pa.wt P.frozen : Nat) : Int), .int .i64 ((Pa.wt P.live : Nat) : Int), .int .i64 ((Pa.wt (Pa.dead P.main) : Nat) : Int), .int .i64 (P.left : Int), .int .i64 0, .int .i64 (P.hand : Int)])) := below_setRow (HA4.out.alloc HA4.out.size _)
    clear hon
    go_wp2_with (with_reducible refine wpList_store_row rfl 50 _ _ rfl w.heap.size #[.int .i64 (L.length : Int), .int .i64 ((Do.size L : Nat) : Int), .int .i64 ((Pa.wt P.main : Nat) : Int), .int .i64 ((Pa.wt P.frozen : Nat) : Int), .int .i64 ((Pa.wt P.live : Nat) : Int), .int .i64 ((Pa.wt (Pa.dead P.main) : Nat) : Int), .int .i64 (P.left : Int), .int .i64 0, .int .i64 (P.hand : Int)] ?_ ?_ 50 #[.int .i64 0, .int .i64 0, .int .i64 0, .int .i64 0, .int .i64 0, .int .i64 0, .int .i64 0, .int .i64 0, .int .i64 0] ?_ ?_ ?_ ?_ ?_)
    case refine_1 => rfl
    case refine_2 => rfl
    case refine_3 => exact hrz
    case refine_4 => exact Try.sizeT50'
    case refine_5 => rfl
    case refine_6 => simp [Value.oneCell']
    refine bodyPost_ret (by exact results_cell_row rfl _ _ w.heap.size 50 _ _ _ rfl hG Try.underlying50 rfl Try.sizeT50') rfl ?_
    exact ⟨rfl, HBZ.out⟩

end Go.Proofs.Ythkndfkkgncjfab
