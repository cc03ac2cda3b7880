/- LexA, LexB, LexC, LexD, LexJ, DocH. -/
import Derived.Test.YthkndfkkgncjfabRefSJB
import Derived.Test.YthkndfkkgncjfabRefSJC
import Derived.Test.YthkndfkkgncjfabFolGJA
import Derived.Deep.RegionHeld3
import Derived.Deep.AppendLies
namespace Go.Proofs.Ythkndfkkgncjfab
open Go.RowKit
set_option maxRecDepth 100000

theorem Try.info159 : (Try.prog.info? 159).map (fun i => (i.zero, i.size, i.bytes)) = some (some (.agg #[.int .i64 0, .int .i64 0, .string ⟨#[]⟩]), 3, 32) := by kernel_rfl
theorem Try.info98 : (Try.prog.info? 98).map (fun i => (i.zero, i.size, i.bytes)) = some (some (.agg #[.int .i64 0, .string ⟨#[]⟩, .int .i64 0, .bool false, .bool false]), 5, 40) := by kernel_rfl

/-- the code's index, cell by cell -/
structure Box where
  cap : Value
  buf0 : Value
  page : Value
  buf : Value
  docs : Value
  next : Value
  m0 : Value
  m1 : Value
  m2 : Value
  m3 : Value
  m4 : Value
  m5 : Value
  m6 : Value
  c0 : Value
  c1 : Value
  c2 : Value
  c3 : Value
  c4 : Value
  c5 : Value
  c6 : Value
  left : Value
  speed : Value
  hand : Value
  ver : Value
def Box.arr (b : Box) : Array Value := #[b.cap, b.buf0, b.page, b.buf, b.docs, b.next, b.m0, b.m1, b.m2, b.m3, b.m4, b.m5, b.m6, b.c0, b.c1, b.c2, b.c3, b.c4, b.c5, b.c6, b.left, b.speed, b.hand, b.ver]
def BoxAt (w : World) (x : Nat) (b : Box) : Prop := w.heap[x]? = some (.cells b.arr 66 (0, 0))
section
variable {w w' : World} {x : Nat} {b : Box}
theorem BoxAt.lt (h : BoxAt w x b) : x < w.heap.size := lt_of_block h
theorem BoxAt.below (h : BoxAt w x b) (hb : Below w.heap.size w w') : BoxAt w' x b := (hb.block x h.lt).trans h
theorem BoxAt.at (h : BoxAt w x b) (j : Nat) : w.cell? ⟨x, j, none⟩ = b.arr[j]? := by rw [cell_of_row w x j _ 66 (0, 0) h]
theorem BoxAt.free (h : BoxAt w x b) (j : Nat) : w.frozen? ⟨x, j, none⟩ = false := frozen_of_row w x j _ 66 h
theorem BoxAt.kept {row : Option Nat} (h : BoxAt w x b) (hg : w.grownBy w' row) (hne : row ≠ some x) : BoxAt w' x b := (hg.block x h.lt (fun e => hne e.symm)).trans h
end
theorem BoxAt.g0 {w : World} {x : Nat} {b : Box} (h : BoxAt w x b) : w.cell? ⟨x, 0, none⟩ = some b.cap := by rw [h.at]; rfl
theorem BoxAt.g1 {w : World} {x : Nat} {b : Box} (h : BoxAt w x b) : w.cell? ⟨x, 1, none⟩ = some b.buf0 := by rw [h.at]; rfl
theorem BoxAt.g2 {w : World} {x : Nat} {b : Box} (h : BoxAt w x b) : w.cell? ⟨x, 2, none⟩ = some b.page := by rw [h.at]; rfl
theorem BoxAt.g3 {w : World} {x : Nat} {b : Box} (h : BoxAt w x b) : w.cell? ⟨x, 3, none⟩ = some b.buf := by rw [h.at]; rfl
theorem BoxAt.g4 {w : World} {x : Nat} {b : Box} (h : BoxAt w x b) : w.cell? ⟨x, 4, none⟩ = some b.docs := by rw [h.at]; rfl
theorem BoxAt.g5 {w : World} {x : Nat} {b : Box} (h : BoxAt w x b) : w.cell? ⟨x, 5, none⟩ = some b.next := by rw [h.at]; rfl
theorem BoxAt.g6 {w : World} {x : Nat} {b : Box} (h : BoxAt w x b) : w.cell? ⟨x, 6, none⟩ = some b.m0 := by rw [h.at]; rfl
theorem BoxAt.g7 {w : World} {x : Nat} {b : Box} (h : BoxAt w x b) : w.cell? ⟨x, 7, none⟩ = some b.m1 := by rw [h.at]; rfl
theorem BoxAt.g8 {w : World} {x : Nat} {b : Box} (h : BoxAt w x b) : w.cell? ⟨x, 8, none⟩ = some b.m2 := by rw [h.at]; rfl
theorem BoxAt.g9 {w : World} {x : Nat} {b : Box} (h : BoxAt w x b) : w.cell? ⟨x, 9, none⟩ = some b.m3 := by rw [h.at]; rfl
theorem BoxAt.g10 {w : World} {x : Nat} {b : Box} (h : BoxAt w x b) : w.cell? ⟨x, 10, none⟩ = some b.m4 := by rw [h.at]; rfl
theorem BoxAt.g11 {w : World} {x : Nat} {b : Box} (h : BoxAt w x b) : w.cell? ⟨x, 11, none⟩ = some b.m5 := by rw [h.at]; rfl
theorem BoxAt.g12 {w : World} {x : Nat} {b : Box} (h : BoxAt w x b) : w.cell? ⟨x, 12, none⟩ = some b.m6 := by rw [h.at]; rfl
theorem BoxAt.g13 {w : World} {x : Nat} {b : Box} (h : BoxAt w x b) : w.cell? ⟨x, 13, none⟩ = some b.c0 := by rw [h.at]; rfl
theorem BoxAt.g14 {w : World} {x : Nat} {b : Box} (h : BoxAt w x b) : w.cell? ⟨x, 14, none⟩ = some b.c1 := by rw [h.at]; rfl
theorem BoxAt.g15 {w : World} {x : Nat} {b : Box} (h : BoxAt w x b) : w.cell? ⟨x, 15, none⟩ = some b.c2 := by rw [h.at]; rfl
theorem BoxAt.g16 {w : World} {x : Nat} {b : Box} (h : BoxAt w x b) : w.cell? ⟨x, 16, none⟩ = some b.c3 := by rw [h.at]; rfl
theorem BoxAt.g17 {w : World} {x : Nat} {b : Box} (h : BoxAt w x b) : w.cell? ⟨x, 17, none⟩ = some b.c4 := by rw [h.at]; rfl
theorem BoxAt.g18 {w : World} {x : Nat} {b : Box} (h : BoxAt w x b) : w.cell? ⟨x, 18, none⟩ = some b.c5 := by rw [h.at]; rfl
theorem BoxAt.g19 {w : World} {x : Nat} {b : Box} (h : BoxAt w x b) : w.cell? ⟨x, 19, none⟩ = some b.c6 := by rw [h.at]; rfl
theorem BoxAt.g20 {w : World} {x : Nat} {b : Box} (h : BoxAt w x b) : w.cell? ⟨x, 20, none⟩ = some b.left := by rw [h.at]; rfl
theorem BoxAt.g21 {w : World} {x : Nat} {b : Box} (h : BoxAt w x b) : w.cell? ⟨x, 21, none⟩ = some b.speed := by rw [h.at]; rfl
theorem BoxAt.g22 {w : World} {x : Nat} {b : Box} (h : BoxAt w x b) : w.cell? ⟨x, 22, none⟩ = some b.hand := by rw [h.at]; rfl
theorem BoxAt.g23 {w : World} {x : Nat} {b : Box} (h : BoxAt w x b) : w.cell? ⟨x, 23, none⟩ = some b.ver := by rw [h.at]; rfl
theorem BoxAt.s0 {w : World} {x : Nat} {b : Box} (h : BoxAt w x b) (u : Value) : BoxAt (w.setCell ⟨x, 0, none⟩ u) x { b with cap := u } := (heap_setCell_same w x 0 _ 66 _ h).trans rfl
theorem BoxAt.s1 {w : World} {x : Nat} {b : Box} (h : BoxAt w x b) (u : Value) : BoxAt (w.setCell ⟨x, 1, none⟩ u) x { b with buf0 := u } := (heap_setCell_same w x 1 _ 66 _ h).trans rfl
theorem BoxAt.s2 {w : World} {x : Nat} {b : Box} (h : BoxAt w x b) (u : Value) : BoxAt (w.setCell ⟨x, 2, none⟩ u) x { b with page := u } := (heap_setCell_same w x 2 _ 66 _ h).trans rfl
theorem BoxAt.s3 {w : World} {x : Nat} {b : Box} (h : BoxAt w x b) (u : Value) : BoxAt (w.setCell ⟨x, 3, none⟩ u) x { b with buf := u } := (heap_setCell_same w x 3 _ 66 _ h).trans rfl
theorem BoxAt.s4 {w : World} {x : Nat} {b : Box} (h : BoxAt w x b) (u : Value) : BoxAt (w.setCell ⟨x, 4, none⟩ u) x { b with docs := u } := (heap_setCell_same w x 4 _ 66 _ h).trans rfl
theorem BoxAt.s5 {w : World} {x : Nat} {b : Box} (h : BoxAt w x b) (u : Value) : BoxAt (w.setCell ⟨x, 5, none⟩ u) x { b with next := u } := (heap_setCell_same w x 5 _ 66 _ h).trans rfl
theorem BoxAt.s6 {w : World} {x : Nat} {b : Box} (h : BoxAt w x b) (u : Value) : BoxAt (w.setCell ⟨x, 6, none⟩ u) x { b with m0 := u } := (heap_setCell_same w x 6 _ 66 _ h).trans rfl
theorem BoxAt.s7 {w : World} {x : Nat} {b : Box} (h : BoxAt w x b) (u : Value) : BoxAt (w.setCell ⟨x, 7, none⟩ u) x { b with m1 := u } := (heap_setCell_same w x 7 _ 66 _ h).trans rfl
theorem BoxAt.s8 {w : World} {x : Nat} {b : Box} (h : BoxAt w x b) (u : Value) : BoxAt (w.setCell ⟨x, 8, none⟩ u) x { b with m2 := u } := (heap_setCell_same w x 8 _ 66 _ h).trans rfl
theorem BoxAt.s9 {w : World} {x : Nat} {b : Box} (h : BoxAt w x b) (u : Value) : BoxAt (w.setCell ⟨x, 9, none⟩ u) x { b with m3 := u } := (heap_setCell_same w x 9 _ 66 _ h).trans rfl
theorem BoxAt.s10 {w : World} {x : Nat} {b : Box} (h : BoxAt w x b) (u : Value) : BoxAt (w.setCell ⟨x, 10, none⟩ u) x { b with m4 := u } := (heap_setCell_same w x 10 _ 66 _ h).trans rfl
theorem BoxAt.s11 {w : World} {x : Nat} {b : Box} (h : BoxAt w x b) (u : Value) : BoxAt (w.setCell ⟨x, 11, none⟩ u) x { b with m5 := u } := (heap_setCell_same w x 11 _ 66 _ h).trans rfl
theorem BoxAt.s12 {w : World} {x : Nat} {b : Box} (h : BoxAt w x b) (u : Value) : BoxAt (w.setCell ⟨x, 12, none⟩ u) x { b with m6 := u } := (heap_setCell_same w x 12 _ 66 _ h).trans rfl
theorem BoxAt.s13 {w : World} {x : Nat} {b : Box} (h : BoxAt w x b) (u : Value) : BoxAt (w.setCell ⟨x, 13, none⟩ u) x { b with c0 := u } := (heap_setCell_same w x 13 _ 66 _ h).trans rfl
theorem BoxAt.s14 {w : World} {x : Nat} {b : Box} (h : BoxAt w x b) (u : Value) : BoxAt (w.setCell ⟨x, 14, none⟩ u) x { b with c1 := u } := (heap_setCell_same w x 14 _ 66 _ h).trans rfl
theorem BoxAt.s15 {w : World} {x : Nat} {b : Box} (h : BoxAt w x b) (u : Value) : BoxAt (w.setCell ⟨x, 15, none⟩ u) x { b with c2 := u } := (heap_setCell_same w x 15 _ 66 _ h).trans rfl
theorem BoxAt.s16 {w : World} {x : Nat} {b : Box} (h : BoxAt w x b) (u : Value) : BoxAt (w.setCell ⟨x, 16, none⟩ u) x { b with c3 := u } := (heap_setCell_same w x 16 _ 66 _ h).trans rfl
theorem BoxAt.s17 {w : World} {x : Nat} {b : Box} (h : BoxAt w x b) (u : Value) : BoxAt (w.setCell ⟨x, 17, none⟩ u) x { b with c4 := u } := (heap_setCell_same w x 17 _ 66 _ h).trans rfl
theorem BoxAt.s18 {w : World} {x : Nat} {b : Box} (h : BoxAt w x b) (u : Value) : BoxAt (w.setCell ⟨x, 18, none⟩ u) x { b with c5 := u } := (heap_setCell_same w x 18 _ 66 _ h).trans rfl
theorem BoxAt.s19 {w : World} {x : Nat} {b : Box} (h : BoxAt w x b) (u : Value) : BoxAt (w.setCell ⟨x, 19, none⟩ u) x { b with c6 := u } := (heap_setCell_same w x 19 _ 66 _ h).trans rfl
theorem BoxAt.s20 {w : World} {x : Nat} {b : Box} (h : BoxAt w x b) (u : Value) : BoxAt (w.setCell ⟨x, 20, none⟩ u) x { b with left := u } := (heap_setCell_same w x 20 _ 66 _ h).trans rfl
theorem BoxAt.s21 {w : World} {x : Nat} {b : Box} (h : BoxAt w x b) (u : Value) : BoxAt (w.setCell ⟨x, 21, none⟩ u) x { b with speed := u } := (heap_setCell_same w x 21 _ 66 _ h).trans rfl
theorem BoxAt.s22 {w : World} {x : Nat} {b : Box} (h : BoxAt w x b) (u : Value) : BoxAt (w.setCell ⟨x, 22, none⟩ u) x { b with hand := u } := (heap_setCell_same w x 22 _ 66 _ h).trans rfl
theorem BoxAt.s23 {w : World} {x : Nat} {b : Box} (h : BoxAt w x b) (u : Value) : BoxAt (w.setCell ⟨x, 23, none⟩ u) x { b with ver := u } := (heap_setCell_same w x 23 _ 66 _ h).trans rfl

set_option maxHeartbeats 400000 in
theorem lesser_any (a b : Int) (w : World) : Calls Try.prog 104 #[.int .i64 a, .int .i64 b] w fun e w' => e = .returned (.int .i64 (min a b)) ∧ w' = w := by
  by_cases h : a < b
  · have HM : Hid (min a b = a) := by show min a b = a; omega
    go_enter Try.func104, Try.ntmps104
    go_wp2
    go_ret
    exact ⟨ret_int HM.out.symm, rfl⟩
  · have HM : Hid (min a b = b) := by show min a b = b; omega
    go_enter Try.func104, Try.ntmps104
    go_wp2
    go_ret
    exact ⟨ret_int HM.out.symm, rfl⟩

set_option maxHeartbeats 400000 in
theorem pair_any (x : Nat) (b : Box) (ao : Option Addr) (n cap wd : Nat) (s : Nat) (w : World) (h : BoxAt w x b) (h1 : b.c1 = .slice ao n cap) (h2 : b.c2 = .int .i64 (wd : Int)) (hwd : wd ≤ 1000000) (hs : s ≤ 1000000) :
    Calls Try.prog 103 #[.pointer (some ⟨x, 13, none⟩), .int .i64 (s : Int)] w fun e w' => e = .returned (.tuple #[]) ∧ BoxAt w' x { b with c4 := .int .i64 (s : Int), c5 := .int .i64 (s : Int), c6 := .int .i64 (min (s + wd) n : Nat) } ∧ Only (fun k => k = x) w w' := by
  have g4 := h.g17
  have f4 := h.free 17
  have R1 := h.s17 (.int .i64 (s : Int))
  have g5 := R1.g18
  have f5 := R1.free 18
  have R2 := R1.s18 (.int .i64 (s : Int))
  have g2 := R2.g15
  have g1 := R2.g14
  simp only [h1, h2] at g1 g2
  have g6 := R2.g19
  have f6 := R2.free 19
  have R3 := R2.s19 (.int .i64 ((min (s + wd) n : Nat) : Int))
  have HL : Hid (∀ w, Calls Try.prog 104 #[.int .i64 ((s : Int) + (wd : Int)), .int .i64 (n : Int)] w fun e w' => e = .returned (.int .i64 ((min (s + wd) n : Nat) : Int)) ∧ w' = w) := fun w => by
    have := lesser_any ((s : Int) + (wd : Int)) (n : Int) w
    have hm : min ((s : Int) + (wd : Int)) (n : Int) = ((min (s + wd) n : Nat) : Int) := by omega
    rw [hm] at this; exact this
  generalize min (s + wd) n = mn at *
  have HO : Hid (Only (fun k => k = x) w (w.setCell ⟨x, 17, none⟩ (.int .i64 (s : Int)))) := Only.setCell _ _ rfl
  have HO2 : Hid (Only (fun k => k = x) (w.setCell ⟨x, 17, none⟩ (.int .i64 (s : Int))) ((w.setCell ⟨x, 17, none⟩ (.int .i64 (s : Int))).setCell ⟨x, 18, none⟩ (.int .i64 (s : Int)))) := Only.setCell _ _ rfl
  go_enter Try.func103, Try.ntmps103
  go_wp2
  generalize (w.setCell ⟨x, 17, none⟩ (.int .i64 (s : Int))).setCell ⟨x, 18, none⟩ (.int .i64 (s : Int)) = w2 at *
  have hwr : IntKind.i64.wrap ((s : Int) + (wd : Int)) = (s : Int) + (wd : Int) := by rw [IntKind.wrap_i64]; omega
  have HR : Hid (BoxAt _ _ _) := R3
  have H1 : Hid (b.c1 = .slice ao n cap) := h1
  have H2 : Hid (b.c2 = .int .i64 (wd : Int)) := h2
  clear R1 R2 R3 h g4 f4 g5 f5 h1 h2
  refine wp_region_held_drew (S := fun w' => w'.cell? ⟨x, 15, none⟩ = some (.int .i64 (wd : Int)) ∧ w'.cell? ⟨x, 14, none⟩ = some (.slice ao n cap)) (by kernel_rfl) ⟨g2, g1⟩ (fun hHeld => ?_)
  refine wpAnyH_take (i := 0) (v := ?a0) rfl (by kernel_rfl) (by kernel_rfl) (by kernel_rfl) (fun _ _ _ h => h) (Or.inl ⟨by rfl, ?hya0⟩) (by assumption) ?resta0
  case hya0 => intro w hSw; (try dsimp only at hSw); go_simp; (try with_reducible rfl)
  simp only [Act.put]
  refine wpAnyH_take (i := 1) (v := ?a1) rfl (by kernel_rfl) (by kernel_rfl) (by kernel_rfl) (fun _ _ _ h => h) (Or.inl ⟨by rfl, ?hya1⟩) (by assumption) ?resta1
  case hya1 => intro w hSw; (try dsimp only at hSw); go_simp; (try with_reducible rfl)
  simp only [Act.put]
  refine wpAnyH_take (i := 2) (v := ?a2) rfl (by kernel_rfl) (by kernel_rfl) (by kernel_rfl) (fun _ _ _ h => h) (Or.inl ⟨by rfl, ?hya2⟩) (by assumption) ?resta2
  case hya2 => intro w hSw; (try dsimp only at hSw); go_simp; (try with_reducible rfl)
  simp only [Act.put]
  refine wpAnyH_take (i := 3) (v := ?a3) rfl (by kernel_rfl) (by kernel_rfl) (by kernel_rfl) (fun _ _ _ h => h) (Or.inl ⟨by rfl, ?hya3⟩) (by assumption) ?resta3
  case hya3 => intro w hSw; (try dsimp only at hSw); go_simp; (try with_reducible rfl)
  simp only [Act.put]
  refine wpAnyH_take (i := 4) (v := ?a4) rfl (by kernel_rfl) (by kernel_rfl) (by kernel_rfl) (fun _ _ _ h => h) (Or.inl ⟨by rfl, ?hya4⟩) (by assumption) ?resta4
  case hya4 => intro w hSw; (try dsimp only at hSw); go_simp; (try with_reducible rfl)
  simp only [Act.put]
  refine wpAnyH_take (i := 5) (v := ?a5) rfl (by kernel_rfl) (by kernel_rfl) (by kernel_rfl) (fun _ _ _ h => h) (Or.inl ⟨by rfl, ?hya5⟩) (by assumption) ?resta5
  case hya5 => intro w hSw; (try dsimp only at hSw); go_simp; (try with_reducible rfl)
  simp only [Act.put]
  refine wpAnyH_take (i := 6) (v := ?a6) rfl (by kernel_rfl) (by kernel_rfl) (by kernel_rfl) (fun _ _ _ h => h) (Or.inl ⟨by rfl, ?hya6⟩) (by assumption) ?resta6
  case hya6 => intro w hSw; (try dsimp only at hSw); go_simp; (try with_reducible rfl)
  simp only [Act.put]
  refine wpAnyH_take (i := 7) (v := ?a7) rfl (by kernel_rfl) (by kernel_rfl) (by kernel_rfl) (fun _ _ _ h => h) (Or.inl ⟨by rfl, ?hya7⟩) (by assumption) ?resta7
  case hya7 => intro w hSw; (try dsimp only at hSw); go_simp; (try with_reducible rfl)
  simp only [Act.put]
  refine wpAnyH_take (i := 8) (v := ?a8) rfl (by kernel_rfl) (by kernel_rfl) (by kernel_rfl) (fun _ _ _ h => h) (Or.inl ⟨by rfl, ?hya8⟩) (by assumption) ?resta8
  case hya8 => intro w hSw; (try dsimp only at hSw); go_simp; (try with_reducible rfl)
  simp only [Act.put]
  refine wpAnyH_take (i := 9) (v := ?a9) rfl (by kernel_rfl) (by kernel_rfl) (by kernel_rfl) (fun _ _ _ h => h) (Or.inl ⟨by rfl, ?hya9⟩) (by assumption) ?resta9
  case hya9 => intro w hSw; (try dsimp only at hSw); go_simp; (try with_reducible rfl)
  simp only [Act.put]
  refine wpAnyH_take (i := 10) (v := ?a10) rfl (by kernel_rfl) (by kernel_rfl) (by kernel_rfl) (fun _ _ _ h => h) (Or.inl ⟨by rfl, ?hya10⟩) (by assumption) ?resta10
  case hya10 => intro w hSw; (try dsimp only at hSw); go_simp; (try with_reducible rfl)
  simp only [Act.put]
  refine wpAnyH_take (i := 11) (v := ?a11) rfl (by kernel_rfl) (by kernel_rfl) (by kernel_rfl) (fun _ _ _ h => h) (Or.inl ⟨by rfl, ?hya11⟩) (by assumption) ?resta11
  case hya11 => intro w hSw; (try dsimp only at hSw); go_simp; (try with_reducible rfl)
  simp only [Act.put]
  refine wpAnyH_ready (rs := [12]) (by kernel_rfl) (by simp) ?_
  refine AllReadyH.cons rfl (fun K hK => ?_) AllReadyH.nil
  go_simp
  refine (HL.out _).mono ?_
  rintro e w3 ⟨rfl, hw3⟩
  rw [hw3]; clear hw3
  refine hK.out _ _ ⟨g2, g1⟩ (fun hHeld => ?_)
  clear hK K
  refine wpAnyH_take (i := 13) (v := ?b13) rfl (by kernel_rfl) (by kernel_rfl) (by kernel_rfl) (fun _ _ _ h => h) (Or.inl ⟨by rfl, ?hyb13⟩) (by assumption) ?restb13
  case hyb13 => intro w hSw; (try dsimp only at hSw); go_simp; (try with_reducible rfl)
  simp only [Act.put]
  refine wpAnyH_take (i := 14) (v := ?b14) rfl (by kernel_rfl) (by kernel_rfl) (by kernel_rfl) (fun _ _ _ h => h) (Or.inl ⟨by rfl, ?hyb14⟩) (by assumption) ?restb14
  case hyb14 => intro w hSw; (try dsimp only at hSw); go_simp; (try with_reducible rfl)
  simp only [Act.put]
  refine wpAnyH_ready (rs := [15]) (by kernel_rfl) (by simp) ?_
  refine AllReadyH.cons rfl (fun K hK => ?_) AllReadyH.nil
  go_simp
  have e1 := HR.out.g15
  have e2 := HR.out.g14
  refine hK.out _ _ ⟨e1.trans (congrArg some H2.out), e2.trans (congrArg some H1.out)⟩ (fun hHeld => ?_)
  clear hK K e1 e2
  refine wpAnyH_done (by kernel_rfl) ?_ _
  clear hHeld
  go_wp2
  go_end0
  exact ⟨rfl, HR.out, ((HO.out.trans HO2.out).trans (Only.of_below (Below.refl _ _).drew)).trans (Only.setCell _ _ rfl)⟩

/-- a row's cells -/
def RW1 (r : Lx.Rw) : List Value := [.int .i64 (r.id : Int), .int .i64 (r.at' : Int), .string r.rest]
def RW (l : List Lx.Rw) : List Value := l.flatMap RW1
theorem RW_append (a b : List Lx.Rw) : RW (a ++ b) = RW a ++ RW b := by simp [RW]
theorem RW_len (l : List Lx.Rw) : (RW l).length = l.length * 3 := by
  induction l with
  | nil => rfl
  | cons a r ih => rw [RW, List.flatMap_cons, List.length_append]; show 3 + (RW r).length = _; rw [ih, List.length_cons]; omega
theorem RW_get (l : List Lx.Rw) (k j : Nat) (r : Lx.Rw) (hr : l[k]? = some r) (hj : j < 3) : (RW l)[k * 3 + j]? = (RW1 r)[j]? := by
  induction l generalizing k with
  | nil => simp at hr
  | cons d q ih =>
    cases k with
    | zero =>
      simp at hr; subst hr
      show (RW1 d ++ RW q)[0 * 3 + j]? = _
      rw [Nat.zero_mul, Nat.zero_add, List.getElem?_append_left (by show j < 3; exact hj)]
    | succ k =>
      simp at hr
      show (RW1 d ++ RW q)[(k + 1) * 3 + j]? = _
      rw [List.getElem?_append_right (by show 3 ≤ _; omega), ← ih k hr]
      congr 1
      show (k + 1) * 3 + j - 3 = _; omega

/-- a row of rows -/
def OwnR (w : World) (B : Nat) (v : Value) (l : List Lx.Rw) : Prop := w.ownsRow B 159 3 v l.length (RW l)
theorem OwnR.below {w w' : World} {B : Nat} {v : Value} {l : List Lx.Rw} (h : OwnR w B v l) (hb : Below w.heap.size w w') : OwnR w' B v l := row_below h hb
theorem OwnR.cell {w : World} {B g cap n : Nat} {l : List Lx.Rw} (h : OwnR w B (.slice (some ⟨g, 0, none⟩) n cap) l) (hn : l.length = n) (k : Nat) (r : Lx.Rw) (hr : l[k]? = some r) :
    w.cell? ⟨g, k * 3, none⟩ = some (.int .i64 (r.id : Int)) ∧ w.cell? ⟨g, k * 3 + 1, none⟩ = some (.int .i64 (r.at' : Int)) ∧ w.cell? ⟨g, k * 3 + 2, none⟩ = some (.string r.rest) := by
  subst hn
  have hk := (List.getElem?_eq_some_iff.1 hr).1
  refine ⟨?_, ?_, ?_⟩
  · rw [World.ownsRow.cellAt h (k * 3) (by omega)]
    have := RW_get l k 0 r hr (by omega)
    simpa [RW1] using this
  · rw [World.ownsRow.cellAt h (k * 3 + 1) (by omega)]
    have := RW_get l k 1 r hr (by omega)
    simpa [RW1] using this
  · rw [World.ownsRow.cellAt h (k * 3 + 2) (by omega)]
    have := RW_get l k 2 r hr (by omega)
    simpa [RW1] using this
theorem OwnR.any {w : World} {B : Nat} {v : Value} {l : List Lx.Rw} (h : OwnR w B v l) : ∃ ao cap, v = .slice ao l.length cap ∧ ∀ k r, l[k]? = some r → ∃ g, ao = some ⟨g, 0, none⟩ ∧ w.cell? ⟨g, k * 3, none⟩ = some (.int .i64 (r.id : Int)) ∧ w.cell? ⟨g, k * 3 + 1, none⟩ = some (.int .i64 (r.at' : Int)) ∧ w.cell? ⟨g, k * 3 + 2, none⟩ = some (.string r.rest) := by
  rcases h.2 with ⟨e, hn⟩ | ⟨g, cap, cur, e, _⟩
  · refine ⟨none, 0, by rw [e, hn], fun k r hr => ?_⟩
    have hk := (List.getElem?_eq_some_iff.1 hr).1
    omega
  · subst e
    exact ⟨_, cap, rfl, fun k r hr => ⟨g, rfl, h.cell rfl k r hr⟩⟩
theorem OwnR.weaken {w : World} {B C : Nat} {v : Value} {l : List Lx.Rw} (h : OwnR w B v l) (hc : C ≤ B) : OwnR w C v l := by
  refine ⟨h.1, ?_⟩
  rcases h.2 with hn | ⟨g1, cap, cur, e, hB, rest⟩
  · exact .inl hn
  · exact .inr ⟨g1, cap, cur, e, Nat.le_trans hc hB, rest⟩
theorem OwnR.nil (w : World) (B : Nat) : OwnR w B (.slice none 0 0) [] := World.ownsRow_nil _ _ _ _

/-- the rows that wait: a row of rows from some place on -/
def OwnW (w : World) (v : Value) (l : List Lx.Rw) : Prop :=
  (l = [] ∧ ∃ ao cap, v = .slice ao 0 cap ∧ ∀ a, ao = some a → a.block < w.heap.size) ∨ ∃ g k cap cur, v = .slice (some ⟨g, k * 3, none⟩) l.length cap ∧ w.heap[g]? = some (.cells cur 159 (0, 0)) ∧ l.length ≤ cap ∧ cap ≤ maxLen ∧ cur.size = (k + cap) * 3 ∧ (cur.toList.drop (k * 3)).take (l.length * 3) = RW l

/-- two rows lie apart -/
def ap (u v : Value) : Prop := ∀ k, u.ownBlock = some k → v.ownBlock ≠ some k


/-- what waits, its head told -/
theorem OwnW.head {w : World} {v : Value} {r : Lx.Rw} {l : List Lx.Rw} (h : OwnW w v (r :: l)) : ∃ g k cap cur, v = .slice (some ⟨g, k * 3, none⟩) (l.length + 1) cap ∧ w.heap[g]? = some (.cells cur 159 (0, 0)) ∧ l.length + 1 ≤ cap ∧ cap ≤ maxLen ∧ cur.size = (k + cap) * 3 ∧ (cur.toList.drop (k * 3)).take ((l.length + 1) * 3) = RW (r :: l) ∧
    w.cell? ⟨g, k * 3, none⟩ = some (.int .i64 (r.id : Int)) ∧ w.cell? ⟨g, k * 3 + 1, none⟩ = some (.int .i64 (r.at' : Int)) ∧ w.cell? ⟨g, k * 3 + 2, none⟩ = some (.string r.rest) := by
  rcases h with ⟨h, _⟩ | ⟨g, k, cap, cur, e, hg, h1, h2, h3, h4⟩
  · cases h
  · rw [List.length_cons] at e h1 h4
    have hc : ∀ j, j < 3 → w.cell? ⟨g, k * 3 + j, none⟩ = (RW1 r)[j]? := fun j hj => by
      rw [cell_of_row w g (k * 3 + j) _ 159 (0, 0) hg]
      have e1 : (RW (r :: l))[j]? = (RW1 r)[j]? := by
        have := RW_get (r :: l) 0 j r rfl hj
        rwa [Nat.zero_mul, Nat.zero_add] at this
      rw [← e1, ← h4, List.getElem?_take_of_lt (by omega), List.getElem?_drop, Array.getElem?_toList]
    exact ⟨g, k, cap, cur, e, hg, h1, h2, h3, h4, hc 0 (by omega), hc 1 (by omega), hc 2 (by omega)⟩
theorem OwnW.shape {w : World} {v : Value} {l : List Lx.Rw} (h : OwnW w v l) : ∃ ao cap, v = .slice ao l.length cap := by
  rcases h with ⟨rfl, ao, cap, e, _⟩ | ⟨g, k, cap, cur, e, _⟩
  · exact ⟨ao, cap, e⟩
  · exact ⟨_, cap, e⟩

theorem OwnW.lt {w : World} {v : Value} {l : List Lx.Rw} (h : OwnW w v l) (q : Nat) (hq : v.ownBlock = some q) : q < w.heap.size := by
  rcases h with ⟨rfl, ao, cap, rfl, hl⟩ | ⟨g, k, cap, cur, rfl, hg, _⟩
  · cases ao with
    | none => cases hq
    | some a => simp only [Value.ownBlock, Option.some.injEq] at hq; rw [← hq]; exact hl a rfl
  · simp only [Value.ownBlock, Option.some.injEq] at hq; rw [← hq]; exact lt_of_block hg

end Go.Proofs.Ythkndfkkgncjfab

namespace Go.Proofs.Ythkndfkkgncjfab
open Go.RowKit
set_option maxRecDepth 100000

set_option maxHeartbeats 400000 in
theorem whole_any (x : Nat) (b : Box) (l : Lx.Lex) (ao ao' : Option Addr) (cap cap' : Nat) (w : World) (h : BoxAt w x b) (h0 : b.c0 = .slice ao l.waiting.length cap) (h1 : b.c1 = .slice ao' l.runs.length cap') (h2 : b.c2 = .int .i64 (l.width : Int)) :
    Calls Try.prog 93 #[.pointer (some ⟨x, 13, none⟩)] w fun e w' => e = .returned (.bool (Lx.whole l)) ∧ Below w.heap.size w w' := by
  have g0 := h.g13
  have g1 := h.g14
  have g2 := h.g15
  rw [h0] at g0
  rw [h1] at g1
  rw [h2] at g2
  have HW : Hid (Lx.whole l = (decide (l.waiting.length = 0) && decide (l.runs.length ≤ l.width))) := by
    show Lx.whole l = _
    unfold Lx.whole
    cases l.waiting <;> simp
  clear h h0 h1 h2
  by_cases c1 : l.waiting.length = 0
  · have d1 : ((l.waiting.length : Int) == 0) = true := by rw [beq_iff_eq]; omega
    by_cases c2 : l.runs.length ≤ l.width
    · have d2 : decide ((l.runs.length : Int) ≤ (l.width : Int)) = true := by rw [decide_eq_true_eq]; omega
      have d3 : decide (l.runs.length ≤ l.width) = true := by rw [decide_eq_true_eq]; omega
      have d4 : decide (l.waiting.length = 0) = true := by rw [decide_eq_true_eq]; omega
      have HW2 : Hid (Lx.whole l = true) := by show _ = _; rw [HW.out]; simp [c1, c2]
      go_enter Try.func93, Try.ntmps93
      go_wp2
      go_quiet (fail)
      go_wp2
      go_ret
      exact ⟨by rw [HW2.out]; rfl, below_drewN (Below.refl _ _) _⟩
    · have d2 : decide ((l.runs.length : Int) ≤ (l.width : Int)) = false := by rw [decide_eq_false_iff_not]; omega
      have d3 : decide (l.runs.length ≤ l.width) = false := by rw [decide_eq_false_iff_not]; omega
      have d4 : decide (l.waiting.length = 0) = true := by rw [decide_eq_true_eq]; omega
      have HW2 : Hid (Lx.whole l = false) := by show _ = _; rw [HW.out]; simp [c1, c2]
      go_enter Try.func93, Try.ntmps93
      go_wp2
      go_quiet (fail)
      go_wp2
      go_ret
      exact ⟨by rw [HW2.out]; rfl, below_drewN (Below.refl _ _) _⟩
  · have d1 : ((l.waiting.length : Int) == 0) = false := by rw [beq_eq_false_iff_ne]; omega
    have HW2 : Hid (Lx.whole l = false) := by show _ = _; rw [HW.out]; simp [c1]
    go_enter Try.func93, Try.ntmps93
    go_wp2
    go_quiet (fail)
    go_wp2
    go_ret
    exact ⟨by rw [HW2.out]; rfl, below_drewN (Below.refl _ _) _⟩

set_option maxHeartbeats 400000 in
theorem double_any (x : Nat) (b : Box) (ao : Option Addr) (n cap wd : Nat) (w : World) (h : BoxAt w x b) (h1 : b.c3 = .slice ao n cap) (h2 : b.c2 = .int .i64 (wd : Int)) (hwd : wd ≤ 400000) :
    Calls Try.prog 105 #[.pointer (some ⟨x, 13, none⟩)] w fun e w' => e = .returned (.tuple #[]) ∧ BoxAt w' x { b with c1 := b.c3, c2 := .int .i64 (2 * wd : Nat), c3 := .slice none 0 0, c4 := .int .i64 0, c5 := .int .i64 0, c6 := .int .i64 (min (2 * wd) n : Nat) } ∧ Only (fun k => k = x) w w' := by
  have g3 := h.g16
  rw [h1] at g3
  have g1 := h.g14
  have f1 := h.free 14
  have R1 := h.s14 (.slice ao n cap)
  have k3 := R1.g16
  have f3 := R1.free 16
  have R2 := R1.s16 (.slice none 0 0)
  have g2 := R2.g15
  simp only [h2] at g2
  have f2 := R2.free 15
  have R3 := R2.s15 (.int .i64 (2 * (wd : Int)))
  have HP : Hid (Calls Try.prog 103 #[.pointer (some ⟨x, 13, none⟩), .int .i64 ((0 : Nat) : Int)] _ _) := pair_any x _ ao n cap (2 * wd) 0 _ R3 rfl rfl (by omega) (by omega)
  have HO : Hid (Only (fun k => k = x) w (((w.setCell ⟨x, 14, none⟩ (.slice ao n cap)).setCell ⟨x, 16, none⟩ (.slice none 0 0)).setCell ⟨x, 15, none⟩ (.int .i64 (2 * (wd : Int))))) := by
    refine Only.trans (Only.trans (Only.setCell (F := fun k => k = x) _ _ rfl) (Only.setCell _ _ rfl)) (Only.setCell _ _ rfl)
  have H1 : Hid (b.c3 = .slice ao n cap) := h1
  clear R1 R2 R3 h h1 h2
  go_enter Try.func105, Try.ntmps105
  go_wp2_with fail
  refine HP.out.mono ?_
  rintro e w3 ⟨rfl, hb, ho⟩
  go_wp2
  go_end0
  rw [H1.out]
  simp only [Nat.zero_add] at hb
  exact ⟨rfl, hb, HO.out.trans ho⟩

end Go.Proofs.Ythkndfkkgncjfab

namespace Go.Proofs.Ythkndfkkgncjfab
open Go.RowKit
set_option maxRecDepth 100000

/-- the blocks of the lexicon that is being built -/
def lfoot (x : Nat) (b : Box) (k : Nat) : Prop := k = x ∨ b.c0.ownBlock = some k ∨ b.c1.ownBlock = some k ∨ b.c3.ownBlock = some k
/-- nothing but that lexicon is another -/
def Box.same (b b' : Box) : Prop := b' = { b with c0 := b'.c0, c1 := b'.c1, c2 := b'.c2, c3 := b'.c3, c4 := b'.c4, c5 := b'.c5, c6 := b'.c6 }
theorem Box.same.refl (b : Box) : b.same b := rfl
theorem Box.same.trans {a b c : Box} (h : a.same b) (k : b.same c) : a.same c := by
  unfold Box.same at *
  rw [k, h]
/-- the lexicon that is being built -/
structure LexIn (w : World) (x : Nat) (b : Box) (l : Lx.Lex) : Prop where
  box : BoxAt w x b
  wait : OwnW w b.c0 l.waiting
  runs : OwnR w 0 b.c1 l.runs
  wid : b.c2 = .int .i64 (l.width : Int)
  mg : OwnR w 0 b.c3 l.merged
  st : b.c4 = .int .i64 (l.start : Int)
  lf : b.c5 = .int .i64 (l.left : Int)
  rg : b.c6 = .int .i64 (l.right : Int)
  a1 : ap b.c0 b.c1
  a2 : ap b.c0 b.c3
  a3 : ap b.c1 b.c3
/-- its numbers are small -/
structure Fits (l : Lx.Lex) : Prop where
  runs : l.runs.length ≤ 3000
  mg : l.merged.length ≤ 3000
  wid : l.width ≤ 6000
  st : l.start ≤ 3000
  lf : l.left ≤ 3000
  rg : l.right ≤ 3000
  wait : ∀ r ∈ l.waiting, r.doc.size ≤ 40 ∧ r.at' ≤ 40 ∧ r.id ≤ 9000000000000000

theorem OwnR.apart {w : World} {x : Nat} {b : Box} {B : Nat} {v : Value} {l : List Lx.Rw} (h : BoxAt w x b) (k : OwnR w B v l) : v.ownBlock ≠ some x := by
  intro e
  rcases k.2 with ⟨h2, _⟩ | ⟨g2, cap2, cur2, h2, _, hg2, _⟩
  · rw [h2] at e; simp [Value.ownBlock] at e
  · rw [h2] at e
    simp [Value.ownBlock] at e
    rw [e, h] at hg2
    simp at hg2
theorem OwnR.lt {w : World} {B : Nat} {v : Value} {l : List Lx.Rw} (k : OwnR w B v l) (q : Nat) (hq : v.ownBlock = some q) : q < w.heap.size := (World.ownsRow.lt k q hq).2
theorem OwnR.only {w w' : World} {B : Nat} {v : Value} {l : List Lx.Rw} {F : Nat → Prop} (k : OwnR w B v l) (h : Only F w w') (hF : ∀ q, v.ownBlock = some q → ¬ F q) : OwnR w' B v l := by
  refine ⟨k.1, ?_⟩
  rcases k.2 with h2 | ⟨g2, cap2, cur2, h2, hB, hg2, rest⟩
  · exact .inl h2
  · subst h2
    exact .inr ⟨g2, cap2, cur2, rfl, hB, by rw [h.block g2 (lt_of_block hg2) (hF g2 rfl)]; exact hg2, rest⟩
theorem OwnW.only {w w' : World} {v : Value} {l : List Lx.Rw} {F : Nat → Prop} (k : OwnW w v l) (h : Only F w w') (hF : ∀ q, v.ownBlock = some q → ¬ F q) : OwnW w' v l := by
  rcases k with ⟨h2, ao, cap, e, hl⟩ | ⟨g, k, cap, cur, e, hg, rest⟩
  · exact .inl ⟨h2, ao, cap, e, fun a ha => Nat.lt_of_lt_of_le (hl a ha) h.size⟩
  · subst e
    exact .inr ⟨g, k, cap, cur, rfl, by rw [h.block g (lt_of_block hg) (hF g rfl)]; exact hg, rest⟩
/-- one row more -/
theorem OwnR.more {w : World} {B : Nat} {v : Value} {l : List Lx.Rw} {r : Lx.Rw} (h : w.ownsRow B 159 3 v (l.length + 1) (RW l ++ RW1 r)) : OwnR w B v (l ++ [r]) := by
  unfold OwnR
  rw [RW_append, List.length_append]
  have : RW [r] = RW1 r := by simp [RW]
  rw [this]; exact h

theorem BoxAt.only {w w' : World} {x : Nat} {b : Box} {F : Nat → Prop} (h : BoxAt w x b) (ho : Only F w w') (hx : ¬ F x) : BoxAt w' x b := (ho.block x h.lt hx).trans h
theorem grown_only {w w3 : World} {o : Obj} {v : Value} (h : (w.alloc o).drew.grownBy w3 v.ownBlock) : Only (fun k => v.ownBlock = some k) w w3 :=
  (Only.of_below ((Below.refl _ _).alloc (Nat.le_refl _) o).drew).trans (Only.grown h (fun _ hk => hk))
theorem OwnW.apart {w : World} {x : Nat} {b : Box} {v : Value} {r : Lx.Rw} {l : List Lx.Rw} (h : BoxAt w x b) (k : OwnW w v (r :: l)) : v.ownBlock ≠ some x := by
  intro e
  obtain ⟨g, q, cap, cur, rfl, hg, _⟩ := k.head
  simp [Value.ownBlock] at e
  rw [e, h] at hg
  simp at hg
theorem OwnW.ne {w : World} {x : Nat} {b : Box} {v : Value} {l : List Lx.Rw} (h : BoxAt w x b) (k : OwnW w v l) (u : Value) (j : Nat) : OwnW (w.setCell ⟨x, j, none⟩ u) v l := by
  cases l with
  | nil =>
    rcases k with ⟨h2, ao, cap, e, hl⟩ | ⟨g, q, cap, cur, e, hg, rest⟩
    · exact .inl ⟨h2, ao, cap, e, fun a ha => by simpa using hl a ha⟩
    · refine .inl ⟨rfl, _, cap, e, fun a ha => ?_⟩
      cases ha; simpa using lt_of_block hg
  | cons r l => exact k.only (Only.setCell (F := fun q => q = x) _ _ rfl) (fun q hq e => by subst e; exact k.apart h hq)
theorem OwnR.ne {w : World} {x : Nat} {b : Box} {B : Nat} {v : Value} {l : List Lx.Rw} (h : BoxAt w x b) (k : OwnR w B v l) (u : Value) (j : Nat) : OwnR (w.setCell ⟨x, j, none⟩ u) B v l :=
  k.only (Only.setCell (F := fun q => q = x) _ _ rfl) (fun q hq e => by subst e; exact k.apart h hq)

theorem LexIn.below {w w' : World} {x : Nat} {b : Box} {l : Lx.Lex} (h : LexIn w x b l) (hb : Below w.heap.size w w') : LexIn w' x b l :=
  ⟨h.box.below hb, h.wait.only (Only.of_below (F := fun _ => False) hb) (fun _ _ e => e), h.runs.below hb, h.wid, h.mg.below hb, h.st, h.lf, h.rg, h.a1, h.a2, h.a3⟩
/-- one row more among the runs -/
theorem LexIn.runs_more {w w3 : World} {x g' cap' : Nat} {b : Box} {l : Lx.Lex} {r : Lx.Rw} {o : Obj} (h : LexIn w x b l) (h1 : w3.ownsRow 0 159 3 (.slice (some ⟨g', 0, none⟩) (l.runs.length + 1) cap') (l.runs.length + 1) (RW l.runs ++ RW1 r))
    (h2 : (w.alloc o).drew.grownBy w3 b.c1.ownBlock) (h3 : b.c1.ownBlock = some g' ∨ g' = w.heap.size + 1) :
    BoxAt w3 x b ∧
    LexIn (w3.setCell ⟨x, 14, none⟩ (.slice (some ⟨g', 0, none⟩) (l.runs.length + 1) cap')) x { b with c1 := .slice (some ⟨g', 0, none⟩) (l.runs.length + 1) cap' } { l with runs := l.runs ++ [r] } ∧
    Only (lfoot x b) w (w3.setCell ⟨x, 14, none⟩ (.slice (some ⟨g', 0, none⟩) (l.runs.length + 1) cap')) ∧
    ∀ k, lfoot x { b with c1 := .slice (some ⟨g', 0, none⟩) (l.runs.length + 1) cap' } k → lfoot x b k ∨ w.heap.size ≤ k := by
  have ho := grown_only h2
  have hx1 := h.runs.apart h.box
  have hb := h.box.only ho hx1
  have hr : OwnR w3 0 (.slice (some ⟨g', 0, none⟩) (l.runs.length + 1) cap') (l.runs ++ [r]) := OwnR.more h1
  have hw := h.wait.only ho (fun q hq e => h.a1 q hq e)
  have hm := h.mg.only ho (fun q hq e => h.a3 q e hq)
  have hap : ∀ u : Value, (∀ q, u.ownBlock = some q → q < w.heap.size) → ap u b.c1 → ap u (.slice (some ⟨g', 0, none⟩) (l.runs.length + 1) cap') := fun u hu ha q hq e => by
    simp only [Value.ownBlock, Option.some.injEq] at e
    rcases h3 with h3 | h3
    · exact ha q hq (by rw [h3, e])
    · have := hu q hq; omega
  refine ⟨hb, ⟨hb.s14 _, hw.ne hb _ _, hr.ne hb _ _, h.wid, hm.ne hb _ _, h.st, h.lf, h.rg, hap _ h.wait.lt h.a1, h.a2, ?_⟩, ?_, ?_⟩
  · intro q hq e
    exact hap b.c3 h.mg.lt (fun k hk e => h.a3 k e hk) q e hq
  · exact (ho.mono (fun k hk => .inr (.inr (.inl hk)))).trans (Only.setCell _ _ (.inl rfl))
  · intro k hk
    rcases hk with hk | hk | hk | hk
    · exact .inl (.inl hk)
    · exact .inl (.inr (.inl hk))
    · simp only [Value.ownBlock, Option.some.injEq] at hk
      rcases h3 with h3 | h3
      · exact .inl (.inr (.inr (.inl (by rw [h3, hk]))))
      · right; omega
    · exact .inl (.inr (.inr (.inr hk)))

/-- three cells of a row of rows are written -/
theorem put3 {w : World} {g k : Nat} {cur : Array Value} (i t : Int) (s : ByteArray) (hg : w.heap[g]? = some (.cells cur 159 (0, 0))) (hk : k * 3 + 2 < cur.size) :
    (∃ u, w.cell? ⟨g, k * 3, none⟩ = some u) ∧ w.frozen? ⟨g, k * 3, none⟩ = false ∧
    (∃ u, (w.setCell ⟨g, k * 3, none⟩ (.int .i64 i)).cell? ⟨g, k * 3 + 1, none⟩ = some u) ∧ (w.setCell ⟨g, k * 3, none⟩ (.int .i64 i)).frozen? ⟨g, k * 3 + 1, none⟩ = false ∧
    (∃ u, ((w.setCell ⟨g, k * 3, none⟩ (.int .i64 i)).setCell ⟨g, k * 3 + 1, none⟩ (.int .i64 t)).cell? ⟨g, k * 3 + 2, none⟩ = some u) ∧ ((w.setCell ⟨g, k * 3, none⟩ (.int .i64 i)).setCell ⟨g, k * 3 + 1, none⟩ (.int .i64 t)).frozen? ⟨g, k * 3 + 2, none⟩ = false ∧
    (((w.setCell ⟨g, k * 3, none⟩ (.int .i64 i)).setCell ⟨g, k * 3 + 1, none⟩ (.int .i64 t)).setCell ⟨g, k * 3 + 2, none⟩ (.string s)).heap[g]? = some (.cells (((cur.setIfInBounds (k * 3) (.int .i64 i)).setIfInBounds (k * 3 + 1) (.int .i64 t)).setIfInBounds (k * 3 + 2) (.string s)) 159 (0, 0)) := by
  have h1 := heap_setCell_same w g (k * 3) cur 159 (.int .i64 i) hg
  have h2 := heap_setCell_same _ g (k * 3 + 1) _ 159 (.int .i64 t) h1
  have h3 := heap_setCell_same _ g (k * 3 + 2) _ 159 (.string s) h2
  refine ⟨⟨cur[k * 3], ?_⟩, frozen_of_row w g _ _ 159 hg, ⟨(cur.setIfInBounds (k * 3) (.int .i64 i))[k * 3 + 1]'(by simp; omega), ?_⟩, frozen_of_row _ g _ _ 159 h1, ⟨((cur.setIfInBounds (k * 3) (.int .i64 i)).setIfInBounds (k * 3 + 1) (.int .i64 t))[k * 3 + 2]'(by simp; omega), ?_⟩, frozen_of_row _ g _ _ 159 h2, h3⟩
  · rw [cell_of_row w g _ _ 159 (0, 0) hg]; exact Array.getElem?_eq_getElem (by omega)
  · rw [cell_of_row _ g _ _ 159 (0, 0) h1]; exact Array.getElem?_eq_getElem (by simp; omega)
  · rw [cell_of_row _ g _ _ 159 (0, 0) h2]; exact Array.getElem?_eq_getElem (by simp; omega)
theorem put3_row (cur : Array Value) (k : Nat) (r q : Lx.Rw) (ws : List Lx.Rw) (h : (cur.toList.drop (k * 3)).take ((ws.length + 1) * 3) = RW (r :: ws)) :
    ((((cur.setIfInBounds (k * 3) (.int .i64 (q.id : Int))).setIfInBounds (k * 3 + 1) (.int .i64 (q.at' : Int))).setIfInBounds (k * 3 + 2) (.string q.rest)).toList.drop (k * 3)).take ((ws.length + 1) * 3) = RW (q :: ws) := by
  simp only [Array.toList_setIfInBounds]
  rw [List.drop_set, if_neg (by omega), List.drop_set, if_neg (by omega), List.drop_set, if_neg (by omega), List.take_set, List.take_set, List.take_set, h]
  have e1 : k * 3 + 2 - k * 3 = 2 := by omega
  have e2 : k * 3 + 1 - k * 3 = 1 := by omega
  have e3 : k * 3 - k * 3 = 0 := by omega
  rw [e1, e2, e3]
  rfl

theorem Only.step {F G : Nat → Prop} {w w1 w2 : World} (h : Only F w w1) (k : Only G w1 w2) (hg : ∀ q, G q → F q ∨ w.heap.size ≤ q) : Only F w w2 :=
  ⟨k.os.trans h.os, k.tape.trans h.tape, k.output.trans h.output, Nat.le_trans h.size k.size, fun i hi hf => (k.block i (by have := h.size; omega) (fun e => (hg i e).elim hf (fun e2 => by omega))).trans (h.block i hi hf)⟩
/-- the head of what waits is written over -/
theorem LexIn.put_head {w : World} {x g k cap : Nat} {b : Box} {l : Lx.Lex} {r : Lx.Rw} {ws : List Lx.Rw} {cur : Array Value} (h : LexIn w x b l) (he : b.c0 = .slice (some ⟨g, k * 3, none⟩) (ws.length + 1) cap) (hg : w.heap[g]? = some (.cells cur 159 (0, 0))) (hc1 : ws.length + 1 ≤ cap) (hc2 : cap ≤ maxLen) (hc3 : cur.size = (k + cap) * 3) (hc4 : (cur.toList.drop (k * 3)).take ((ws.length + 1) * 3) = RW (r :: ws)) :
    LexIn (((w.setCell ⟨g, k * 3, none⟩ (.int .i64 (r.id : Int))).setCell ⟨g, k * 3 + 1, none⟩ (.int .i64 ((r.at' : Int) + 1))).setCell ⟨g, k * 3 + 2, none⟩ (.string (r.rest.extract 1 r.rest.size))) x b { l with waiting := r.next :: ws } ∧
    Only (lfoot x b) w (((w.setCell ⟨g, k * 3, none⟩ (.int .i64 (r.id : Int))).setCell ⟨g, k * 3 + 1, none⟩ (.int .i64 ((r.at' : Int) + 1))).setCell ⟨g, k * 3 + 2, none⟩ (.string (r.rest.extract 1 r.rest.size))) := by
  have ho : Only (fun q => q = g) w (((w.setCell ⟨g, k * 3, none⟩ (.int .i64 (r.id : Int))).setCell ⟨g, k * 3 + 1, none⟩ (.int .i64 ((r.at' : Int) + 1))).setCell ⟨g, k * 3 + 2, none⟩ (.string (r.rest.extract 1 r.rest.size))) :=
    Only.trans (Only.trans (Only.setCell (F := fun q => q = g) _ _ rfl) (Only.setCell _ _ rfl)) (Only.setCell _ _ rfl)
  have hP := put3 (k := k) (r.id : Int) ((r.at' : Int) + 1) (r.rest.extract 1 r.rest.size) hg (by rw [hc3]; omega)
  have h6 := hP.2.2.2.2.2.2
  have hgx : g ≠ x := fun e => by rw [e, h.box] at hg; simp at hg
  have hob : b.c0.ownBlock = some g := by rw [he]; rfl
  refine ⟨⟨h.box.only ho (fun e => hgx e.symm), .inr ⟨g, k, cap, _, he, h6, hc1, hc2, by simp [hc3], ?_⟩, h.runs.only ho (fun q hq e => h.a1 g hob (by rw [← e]; exact hq)), h.wid, h.mg.only ho (fun q hq e => h.a2 g hob (by rw [← e]; exact hq)), h.st, h.lf, h.rg, h.a1, h.a2, h.a3⟩, ho.mono (fun q hq => .inr (.inl (by rw [hq]; exact hob)))⟩
  rw [Lx.rest_next]
  exact put3_row cur k r r.next ws hc4

set_option maxHeartbeats 1000000 in
theorem take_next (x : Nat) (b : Box) (l : Lx.Lex) (r : Lx.Rw) (ws : List Lx.Rw) (w : World) (h : LexIn w x b l) (hf : Fits l) (hw : l.waiting = r :: ws) (hr : 0 < r.rest.size) :
    Calls Try.prog 94 #[.pointer (some ⟨x, 13, none⟩)] w fun e w' => e = .returned (.tuple #[]) ∧ ∃ b', LexIn w' x b' (Lx.take l) ∧ b.same b' ∧ Only (lfoot x b) w w' ∧ ∀ k, lfoot x b' k → lfoot x b k ∨ w.heap.size ≤ k := by
  obtain ⟨i0, hi, hz0, hz1, hz2⟩ := info_parts Try.info159
  have hwt := h.wait
  rw [hw] at hwt
  obtain ⟨g, k, cap, cur, e0, hg, hc1, hc2, hc3, hc4, y0, y1, y2⟩ := hwt.head
  have g0 := h.box.g13
  rw [e0] at g0
  have hfr := hf.runs
  have hrw := (hf.wait r (by rw [hw]; simp)).2.1
  have hr1 : (1 : Int) ≤ (r.rest.size : Int) := by omega
  have hxl := h.box.lt
  have hb0 : Below w.heap.size w (w.alloc (.cells #[.int .i64 (r.id : Int), .int .i64 (r.at' : Int), .string r.rest] 159)) := (Below.refl _ _).alloc (Nat.le_refl _) _
  have hs0 : (w.alloc (.cells #[.int .i64 (r.id : Int), .int .i64 (r.at' : Int), .string r.rest] 159)).heap.size = w.heap.size + 1 := by simp
  have yn := World.news_of_block (heap_alloc_new w (.cells #[.int .i64 (r.id : Int), .int .i64 (r.at' : Int), .string r.rest] 159))
  have n0 : (w.alloc (.cells #[.int .i64 (r.id : Int), .int .i64 (r.at' : Int), .string r.rest] 159)).cell? ⟨w.heap.size, 0, none⟩ = some (.int .i64 (r.id : Int)) := yn 0 _ rfl
  have n1 : (w.alloc (.cells #[.int .i64 (r.id : Int), .int .i64 (r.at' : Int), .string r.rest] 159)).cell? ⟨w.heap.size, 1, none⟩ = some (.int .i64 (r.at' : Int)) := yn 1 _ rfl
  have n2 : (w.alloc (.cells #[.int .i64 (r.id : Int), .int .i64 (r.at' : Int), .string r.rest] 159)).cell? ⟨w.heap.size, 2, none⟩ = some (.string r.rest) := yn 2 _ rfl
  clear yn hwt
  have HL : Hid (LexIn w x b l) := h
  have HF : Hid (Fits l) := hf
  have HW : Hid (l.waiting = r :: ws) := hw
  have HC : Hid ((cur.toList.drop (k * 3)).take ((ws.length + 1) * 3) = RW (r :: ws)) := hc4
  have HG : Hid (w.heap[g]? = some (.cells cur 159 (0, 0))) := hg
  have HE : Hid (b.c0 = .slice (some ⟨g, k * 3, none⟩) (ws.length + 1) cap) := e0
  clear h hf hw hc4 hg e0
  go_enter Try.func94, Try.ntmps94
  go_wp2
  clear y0 y1 y2 g0
  generalize w.alloc (.cells #[.int .i64 (r.id : Int), .int .i64 (r.at' : Int), .string r.rest] 159) = w1 at *
  have HB0 : Hid (Below w.heap.size w w1) := hb0
  have HL1 : Hid (LexIn w1 x b l) := HL.out.below hb0
  have g11 := HL1.out.box.g14
  have hru1 := HL1.out.runs
  have hba : ∀ o, Below w1.heap.size w1 (w1.alloc o).drew := fun o => ((Below.refl _ _).alloc (Nat.le_refl _) o).drew
  have hS1 : ∀ o, (w1.alloc o).drew.cell? ⟨w.heap.size, 0, none⟩ = some (.int .i64 (r.id : Int)) ∧ (w1.alloc o).drew.cell? ⟨w.heap.size, 1, none⟩ = some (.int .i64 (r.at' : Int)) ∧ (w1.alloc o).drew.cell? ⟨w.heap.size, 2, none⟩ = some (.string r.rest) := fun o => ⟨cell_later (hba o) n0, cell_later (hba o) n1, cell_later (hba o) n2⟩
  have g12 : ∀ o, (w1.alloc o).drew.cell? ⟨x, 14, none⟩ = some b.c1 := fun o => cell_later (hba o) g11
  have hnx : (w.heap.size : Nat) ≠ x := by omega
  refine wp_region_held_drew (S := fun w' => w'.cell? ⟨w.heap.size, 0, none⟩ = some (.int .i64 (r.id : Int)) ∧ w'.cell? ⟨w.heap.size, 1, none⟩ = some (.int .i64 (r.at' : Int)) ∧ w'.cell? ⟨w.heap.size, 2, none⟩ = some (.string r.rest)) (by kernel_rfl) ⟨n0, n1, n2⟩ (fun hHeld => ?_)
  refine wpAnyH_take (i := 0) (v := ?a0) rfl (by kernel_rfl) (by kernel_rfl) (by kernel_rfl) (fun _ _ _ h => h) (Or.inl ⟨by rfl, ?hya0⟩) (by assumption) ?resta0
  case hya0 => intro w hSw; (try dsimp only at hSw); go_simp; (try with_reducible rfl)
  simp only [Act.put]
  refine wpAnyH_take (i := 1) (v := ?a1) rfl (by kernel_rfl) (by kernel_rfl) (by kernel_rfl) (fun _ _ _ h => h) (Or.inl ⟨by rfl, ?hya1⟩) (by assumption) ?resta1
  case hya1 => intro w hSw; (try dsimp only at hSw); go_simp; (try with_reducible rfl)
  simp only [Act.put]
  refine wpAnyH_take (i := 2) (v := ?a2) rfl (by kernel_rfl) (by kernel_rfl) (by kernel_rfl) (fun _ _ _ h => h) (Or.inl ⟨by rfl, ?hya2⟩) (by assumption) ?resta2
  case hya2 => intro w hSw; (try dsimp only at hSw); go_simp; (try with_reducible rfl)
  simp only [Act.put]
  refine wpAnyH_take (i := 3) (v := ?a3) rfl (by kernel_rfl) (by kernel_rfl) (by kernel_rfl) (fun _ _ _ h => h) (Or.inl ⟨by rfl, ?hya3⟩) (by assumption) ?resta3
  case hya3 => intro w hSw; (try dsimp only at hSw); go_simp; (try with_reducible rfl)
  simp only [Act.put]
  refine wpAnyH_take (i := 5) (v := ?a5) rfl (by kernel_rfl) (by kernel_rfl) (by kernel_rfl) (fun _ _ _ h => h) (Or.inl ⟨by rfl, ?hya5⟩) (by assumption) ?resta5
  case hya5 => intro w hSw; (try dsimp only at hSw); go_simp; (try with_reducible rfl)
  simp only [Act.put]
  refine wpAnyH_ready (rs := [4, 6]) (by kernel_rfl) (by simp) ?_
  refine AllReadyH.cons rfl (fun K hK => ?A) (AllReadyH.cons rfl (fun K hK => ?B) AllReadyH.nil)
  case' A =>
    go_simp
    refine hK.out _ _ (by exact hHeld) (fun hHeld => ?_)
    clear hK K
    refine wpAnyH_ready (rs := [6]) (by kernel_rfl) (by simp) ?_
    refine AllReadyH.cons rfl (fun K hK => ?_) AllReadyH.nil
    go_simp
    refine hK.out _ _ (hS1 _) (fun hHeld => ?_)
    clear hK K
  case' B =>
    go_simp
    refine hK.out _ _ (hS1 _) (fun hHeld => ?_)
    clear hK K
    refine wpAnyH_ready (rs := [4]) (by kernel_rfl) (by simp) ?_
    refine AllReadyH.cons rfl (fun K hK => ?_) AllReadyH.nil
    have g13 := g12 (.cells #[.int .i64 (r.id : Int), .int .i64 (r.at' : Int), .string r.rest] 159)
    go_simp
    refine hK.out _ _ (by exact hHeld) (fun hHeld => ?_)
    clear hK K g13
  · skip
    refine wpAnyH_ready (rs := [7]) (by kernel_rfl) (by simp) ?_
    refine AllReadyH.cons rfl (fun K hK => ?_) AllReadyH.nil
    refine step_lies_at 16 rfl (w1.heap.size + 1) rfl (.tmp 13) (.tmp 15) 60 rfl 0 159 i0 (.agg #[.int .i64 0, .int .i64 0, .string ⟨#[]⟩]) 3 32 Try.underlying60 hi hz0 hz1 hz2 rfl (by decide) b.c1 l.runs.length (RW l.runs) (by simp [Act.eval]) (World.ownsRow.alloc hru1 _) ⟨w1.heap.size, 0, none⟩ 1 1 (RW1 r) (by simp [Act.eval]) rfl (World.news_of_block (cs := #[.int .i64 (r.id : Int), .int .i64 (r.at' : Int), .string r.rest]) (heap_alloc_new w1 _)) (by intro u hu2; simp [RW1] at hu2; rcases hu2 with rfl | rfl | rfl <;> rfl) (by decide) (by unfold maxLen; omega) (by omega) (Nat.zero_le _) (by simp) ?_
    intro g' cap' w3 hown3 hgrow0 hat3 hlt3
    have RM := HL1.out.runs_more hown3 hgrow0 hat3
    have HR : Hid (LexIn _ _ _ _) := RM.2.1
    have HO : Hid (Only _ _ _) := RM.2.2.1
    have HQ : Hid (∀ k, _ → _) := RM.2.2.2
    have c33 := RM.1.g14
    have f33 := RM.1.free 14
    have hnc : some w.heap.size ≠ b.c1.ownBlock := fun e => by have := HL.out.runs.lt _ e.symm; omega
    have m0 : w3.cell? ⟨w.heap.size, 0, none⟩ = some (.int .i64 (r.id : Int)) := World.grownBy.cell hgrow0 (hS1 _).1 hnc
    have m1 : w3.cell? ⟨w.heap.size, 1, none⟩ = some (.int .i64 (r.at' : Int)) := World.grownBy.cell hgrow0 (hS1 _).2.1 hnc
    have m2 : w3.cell? ⟨w.heap.size, 2, none⟩ = some (.string r.rest) := World.grownBy.cell hgrow0 (hS1 _).2.2 hnc
    clear RM hown3 hgrow0 hHeld g12 hS1 hba
    refine hK.out _ _ ⟨m0, m1, m2⟩ (fun hHeld => ?_)
    clear hK K
    refine wpAnyH_take (i := 8) (v := ?bq8) rfl (by kernel_rfl) (by kernel_rfl) (by kernel_rfl) (fun _ _ _ h => h) (Or.inl ⟨by rfl, ?hybq8⟩) (by assumption) ?restbq8
    case hybq8 => intro w hSw; (try dsimp only at hSw); go_simp; (try with_reducible rfl)
    simp only [Act.put]
    refine wpAnyH_take (i := 9) (v := ?bq9) rfl (by kernel_rfl) (by kernel_rfl) (by kernel_rfl) (fun _ _ _ h => h) (Or.inl ⟨by rfl, ?hybq9⟩) (by assumption) ?restbq9
    case hybq9 => intro w hSw; (try dsimp only at hSw); go_simp; (try with_reducible rfl)
    simp only [Act.put]
    refine wpAnyH_ready (rs := [10]) (by kernel_rfl) (by simp) ?_
    refine AllReadyH.cons rfl (fun K hK => ?_) AllReadyH.nil
    go_simp
    have q0 : (w3.setCell ⟨x, 14, none⟩ (.slice (some ⟨g', 0, none⟩) (l.runs.length + 1) cap')).cell? ⟨w.heap.size, 0, none⟩ = some (.int .i64 (r.id : Int)) := by rw [World.cell?_setCell_other _ _ _ _ (by simp)]; exact m0
    have q1 : (w3.setCell ⟨x, 14, none⟩ (.slice (some ⟨g', 0, none⟩) (l.runs.length + 1) cap')).cell? ⟨w.heap.size, 1, none⟩ = some (.int .i64 (r.at' : Int)) := by rw [World.cell?_setCell_other _ _ _ _ (by simp)]; exact m1
    have q2 : (w3.setCell ⟨x, 14, none⟩ (.slice (some ⟨g', 0, none⟩) (l.runs.length + 1) cap')).cell? ⟨w.heap.size, 2, none⟩ = some (.string r.rest) := by rw [World.cell?_setCell_other _ _ _ _ (by simp)]; exact m2
    refine hK.out _ _ ⟨q0, q1, q2⟩ (fun hHeld => ?_)
    clear hK K m0 m1 m2 c33 f33 hHeld
    refine wpAnyH_done (by kernel_rfl) ?_ _
    have g4 := HR.out.box.g13
    simp only [HE.out] at g4
    generalize w3.setCell ⟨x, 14, none⟩ (.slice (some ⟨g', 0, none⟩) (l.runs.length + 1) cap') = w4 at *
    go_wp2
    have hgl : g < w.heap.size := lt_of_block HG.out
    have hgx : g ≠ x := fun e => by have := HG.out; rw [e, HL.out.box] at this; simp at this
    refine wp_region_held_drew (S := fun w' => w'.cell? ⟨w.heap.size, 0, none⟩ = some (.int .i64 (r.id : Int)) ∧ w'.cell? ⟨w.heap.size, 1, none⟩ = some (.int .i64 (r.at' : Int)) ∧ w'.cell? ⟨w.heap.size, 2, none⟩ = some (.string r.rest) ∧ w'.cell? ⟨x, 13, none⟩ = some (.slice (some ⟨g, k * 3, none⟩) (ws.length + 1) cap)) (by kernel_rfl) ⟨q0, q1, q2, g4⟩ (fun hHeld => ?_)
    have hwrap : IntKind.i64.wrap ((r.at' : Int) + 1) = (r.at' : Int) + 1 := by rw [IntKind.wrap_i64]; omega
    have hwt4 : OwnW w4 (.slice (some ⟨g, k * 3, none⟩) (ws.length + 1) cap) (r :: ws) := by
      have := HR.out.wait
      simp only [HE.out, HW.out] at this
      exact this
    obtain ⟨g2, k2, cap2, cur2, ee, hg4, v1, v2, v3, v4, _⟩ := hwt4.head
    simp only [Value.slice.injEq, Option.some.injEq, Addr.mk.injEq, true_and, and_true] at ee
    obtain ⟨⟨rfl, ek⟩, rfl⟩ := ee
    obtain rfl : k = k2 := by omega
    have PH := HR.out.put_head (r := r) (ws := ws) HE.out hg4 v1 v2 v3 v4
    have HP1 : Hid (LexIn _ _ _ _) := PH.1
    have HP2 : Hid (Only _ _ _) := PH.2
    clear PH hwt4
    obtain ⟨⟨u0, z0⟩, z1, ⟨u2, z2⟩, z3, ⟨u4, z4⟩, z5, _⟩ := put3 (k := k) (r.id : Int) ((r.at' : Int) + 1) (r.rest.extract 1 r.rest.size) hg4 (by rw [v3]; omega)
    refine wpAnyH_take (i := 0) (v := ?cq0) rfl (by kernel_rfl) (by kernel_rfl) (by kernel_rfl) (fun _ _ _ h => h) (Or.inl ⟨by rfl, ?hycq0⟩) (by assumption) ?restcq0
    case hycq0 => intro w hSw; (try dsimp only at hSw); go_simp; (try with_reducible rfl)
    simp only [Act.put]
    refine wpAnyH_take (i := 1) (v := ?cq1) rfl (by kernel_rfl) (by kernel_rfl) (by kernel_rfl) (fun _ _ _ h => h) (Or.inl ⟨by rfl, ?hycq1⟩) (by assumption) ?restcq1
    case hycq1 => intro w hSw; (try dsimp only at hSw); go_simp; (try with_reducible rfl)
    simp only [Act.put]
    refine wpAnyH_take (i := 2) (v := ?cq2) rfl (by kernel_rfl) (by kernel_rfl) (by kernel_rfl) (fun _ _ _ h => h) (Or.inl ⟨by rfl, ?hycq2⟩) (by assumption) ?restcq2
    case hycq2 => intro w hSw; (try dsimp only at hSw); go_simp; (try with_reducible rfl)
    simp only [Act.put]
    refine wpAnyH_take (i := 3) (v := ?cq3) rfl (by kernel_rfl) (by kernel_rfl) (by kernel_rfl) (fun _ _ _ h => h) (Or.inl ⟨by rfl, ?hycq3⟩) (by assumption) ?restcq3
    case hycq3 => intro w hSw; (try dsimp only at hSw); go_simp; (try with_reducible rfl)
    simp only [Act.put]
    refine wpAnyH_take (i := 4) (v := ?cq4) rfl (by kernel_rfl) (by kernel_rfl) (by kernel_rfl) (fun _ _ _ h => h) (Or.inl ⟨by rfl, ?hycq4⟩) (by assumption) ?restcq4
    case hycq4 => intro w hSw; (try dsimp only at hSw); go_simp; (try with_reducible rfl)
    simp only [Act.put]
    refine wpAnyH_take (i := 5) (v := ?cq5) rfl (by kernel_rfl) (by kernel_rfl) (by kernel_rfl) (fun _ _ _ h => h) (Or.inl ⟨by rfl, ?hycq5⟩) (by assumption) ?restcq5
    case hycq5 => intro w hSw; (try dsimp only at hSw); go_simp; (try with_reducible rfl)
    simp only [Act.put]
    refine wpAnyH_take (i := 6) (v := ?cq6) rfl (by kernel_rfl) (by kernel_rfl) (by kernel_rfl) (fun _ _ _ h => h) (Or.inl ⟨by rfl, ?hycq6⟩) (by assumption) ?restcq6
    case hycq6 => intro w hSw; (try dsimp only at hSw); go_simp; (try with_reducible rfl)
    simp only [Act.put]
    refine wpAnyH_take (i := 7) (v := ?cq7) rfl (by kernel_rfl) (by kernel_rfl) (by kernel_rfl) (fun _ _ _ h => h) (Or.inl ⟨by rfl, ?hycq7⟩) (by assumption) ?restcq7
    case hycq7 => intro w hSw; (try dsimp only at hSw); go_simp; (try with_reducible rfl)
    simp only [Act.put]
    refine wpAnyH_take (i := 8) (v := ?cq8) rfl (by kernel_rfl) (by kernel_rfl) (by kernel_rfl) (fun _ _ _ h => h) (Or.inl ⟨by rfl, ?hycq8⟩) (by assumption) ?restcq8
    case hycq8 => intro w hSw; (try dsimp only at hSw); go_simp; (try with_reducible rfl)
    simp only [Act.put]
    refine wpAnyH_take (i := 9) (v := ?cq9) rfl (by kernel_rfl) (by kernel_rfl) (by kernel_rfl) (fun _ _ _ h => h) (Or.inl ⟨by rfl, ?hycq9⟩) (by assumption) ?restcq9
    case hycq9 => intro w hSw; (try dsimp only at hSw); go_simp; (try with_reducible rfl)
    simp only [Act.put]
    refine wpAnyH_take (i := 10) (v := ?cq10) rfl (by kernel_rfl) (by kernel_rfl) (by kernel_rfl) (fun _ _ _ h => h) (Or.inl ⟨by rfl, ?hycq10⟩) (by assumption) ?restcq10
    case hycq10 => intro w hSw; (try dsimp only at hSw); go_simp; (try with_reducible rfl)
    simp only [Act.put]
    refine wpAnyH_take (i := 11) (v := ?cq11) rfl (by kernel_rfl) (by kernel_rfl) (by kernel_rfl) (fun _ _ _ h => h) (Or.inl ⟨by rfl, ?hycq11⟩) (by assumption) ?restcq11
    case hycq11 => intro w hSw; (try dsimp only at hSw); go_simp; (try with_reducible rfl)
    simp only [Act.put]
    refine wpAnyH_take (i := 12) (v := ?cq12) rfl (by kernel_rfl) (by kernel_rfl) (by kernel_rfl) (fun _ _ _ h => h) (Or.inl ⟨by rfl, ?hycq12⟩) (by assumption) ?restcq12
    case hycq12 => intro w hSw; (try dsimp only at hSw); go_simp; (try with_reducible rfl)
    simp only [Act.put]
    refine wpAnyH_take (i := 13) (v := ?cq13) rfl (by kernel_rfl) (by kernel_rfl) (by kernel_rfl) (fun _ _ _ h => h) (Or.inl ⟨by rfl, ?hycq13⟩) (by assumption) ?restcq13
    case hycq13 => intro w hSw; (try dsimp only at hSw); go_simp; (try with_reducible rfl)
    simp only [Act.put]
    refine wpAnyH_take (i := 14) (v := ?cq14) rfl (by kernel_rfl) (by kernel_rfl) (by kernel_rfl) (fun _ _ _ h => h) (Or.inl ⟨by rfl, ?hycq14⟩) (by assumption) ?restcq14
    case hycq14 => intro w hSw; (try dsimp only at hSw); go_simp; (try with_reducible rfl)
    simp only [Act.put]
    refine wpAnyH_take (i := 15) (v := ?cq15) rfl (by kernel_rfl) (by kernel_rfl) (by kernel_rfl) (fun _ _ _ h => h) (Or.inl ⟨by rfl, ?hycq15⟩) (by assumption) ?restcq15
    case hycq15 => intro w hSw; (try dsimp only at hSw); go_simp; (try with_reducible rfl)
    simp only [Act.put]
    refine wpAnyH_take (i := 16) (v := ?cq16) rfl (by kernel_rfl) (by kernel_rfl) (by kernel_rfl) (fun _ _ _ h => h) (Or.inl ⟨by rfl, ?hycq16⟩) (by assumption) ?restcq16
    case hycq16 => intro w hSw; (try dsimp only at hSw); go_simp; (try with_reducible rfl)
    simp only [Act.put]
    refine wpAnyH_ready (rs := [17]) (by kernel_rfl) (by simp) ?_
    refine AllReadyH.cons rfl (fun K hK => ?_) AllReadyH.nil
    go_simp
    have hkeep : ∀ j v, w4.cell? ⟨w.heap.size, j, none⟩ = some v → (((w4.setCell ⟨g, k * 3, none⟩ (.int .i64 (r.id : Int))).setCell ⟨g, k * 3 + 1, none⟩ (.int .i64 ((r.at' : Int) + 1))).setCell ⟨g, k * 3 + 2, none⟩ (.string (r.rest.extract 1 r.rest.size))).cell? ⟨w.heap.size, j, none⟩ = some v := fun j v hv => by
      rw [World.cell?_setCell_other _ _ _ _ (by simp), World.cell?_setCell_other _ _ _ _ (by simp), World.cell?_setCell_other _ _ _ _ (by simp)]; exact hv
    have hkeep2 : (((w4.setCell ⟨g, k * 3, none⟩ (.int .i64 (r.id : Int))).setCell ⟨g, k * 3 + 1, none⟩ (.int .i64 ((r.at' : Int) + 1))).setCell ⟨g, k * 3 + 2, none⟩ (.string (r.rest.extract 1 r.rest.size))).cell? ⟨x, 13, none⟩ = some (.slice (some ⟨g, k * 3, none⟩) (ws.length + 1) cap) := by
      rw [World.cell?_setCell_other _ _ _ _ (by simp), World.cell?_setCell_other _ _ _ _ (by simp), World.cell?_setCell_other _ _ _ _ (by simp)]; exact g4
    refine hK.out _ _ ⟨hkeep 0 _ q0, hkeep 1 _ q1, hkeep 2 _ q2, hkeep2⟩ (fun hHeld => ?_)
    clear hK K hHeld
    refine wpAnyH_done (by kernel_rfl) ?_ _
    go_wp2
    (try simp only [Exit.inBlock, Exit.then])
    refine bodyPost_ret (results_none rfl _ _ _) rfl ?_
    refine ⟨rfl, { b with c1 := .slice (some ⟨g', 0, none⟩) (l.runs.length + 1) cap' }, ?_, rfl, ?_, ?_⟩
    · have e : Lx.take l = { l with runs := l.runs ++ [r], waiting := r.next :: ws } := by
        unfold Lx.take
        rw [HW.out]
        simp only
        rw [if_pos hr]
      rw [e]
      exact HP1.out.below (Below.refl _ _).drew
    · exact ((Only.of_below HB0.out).trans (HO.out)).step (HP2.out.trans (Only.of_below (Below.refl _ _).drew)) (fun q hq => (HQ.out q hq).imp (fun h => h) (fun h => by omega))
    · intro q hq
      exact (HQ.out q hq).imp (fun h => h) (fun h => by omega)
  · skip
    refine wpAnyH_ready (rs := [7]) (by kernel_rfl) (by simp) ?_
    refine AllReadyH.cons rfl (fun K hK => ?_) AllReadyH.nil
    refine step_lies_at 16 rfl (w1.heap.size + 1) rfl (.tmp 13) (.tmp 15) 60 rfl 0 159 i0 (.agg #[.int .i64 0, .int .i64 0, .string ⟨#[]⟩]) 3 32 Try.underlying60 hi hz0 hz1 hz2 rfl (by decide) b.c1 l.runs.length (RW l.runs) (by simp [Act.eval]) (World.ownsRow.alloc hru1 _) ⟨w1.heap.size, 0, none⟩ 1 1 (RW1 r) (by simp [Act.eval]) rfl (World.news_of_block (cs := #[.int .i64 (r.id : Int), .int .i64 (r.at' : Int), .string r.rest]) (heap_alloc_new w1 _)) (by intro u hu2; simp [RW1] at hu2; rcases hu2 with rfl | rfl | rfl <;> rfl) (by decide) (by unfold maxLen; omega) (by omega) (Nat.zero_le _) (by simp) ?_
    intro g' cap' w3 hown3 hgrow0 hat3 hlt3
    have RM := HL1.out.runs_more hown3 hgrow0 hat3
    have HR : Hid (LexIn _ _ _ _) := RM.2.1
    have HO : Hid (Only _ _ _) := RM.2.2.1
    have HQ : Hid (∀ k, _ → _) := RM.2.2.2
    have c33 := RM.1.g14
    have f33 := RM.1.free 14
    have hnc : some w.heap.size ≠ b.c1.ownBlock := fun e => by have := HL.out.runs.lt _ e.symm; omega
    have m0 : w3.cell? ⟨w.heap.size, 0, none⟩ = some (.int .i64 (r.id : Int)) := World.grownBy.cell hgrow0 (hS1 _).1 hnc
    have m1 : w3.cell? ⟨w.heap.size, 1, none⟩ = some (.int .i64 (r.at' : Int)) := World.grownBy.cell hgrow0 (hS1 _).2.1 hnc
    have m2 : w3.cell? ⟨w.heap.size, 2, none⟩ = some (.string r.rest) := World.grownBy.cell hgrow0 (hS1 _).2.2 hnc
    clear RM hown3 hgrow0 hHeld g12 hS1 hba
    refine hK.out _ _ ⟨m0, m1, m2⟩ (fun hHeld => ?_)
    clear hK K
    refine wpAnyH_take (i := 8) (v := ?bqq8) rfl (by kernel_rfl) (by kernel_rfl) (by kernel_rfl) (fun _ _ _ h => h) (Or.inl ⟨by rfl, ?hybqq8⟩) (by assumption) ?restbqq8
    case hybqq8 => intro w hSw; (try dsimp only at hSw); go_simp; (try with_reducible rfl)
    simp only [Act.put]
    refine wpAnyH_take (i := 9) (v := ?bqq9) rfl (by kernel_rfl) (by kernel_rfl) (by kernel_rfl) (fun _ _ _ h => h) (Or.inl ⟨by rfl, ?hybqq9⟩) (by assumption) ?restbqq9
    case hybqq9 => intro w hSw; (try dsimp only at hSw); go_simp; (try with_reducible rfl)
    simp only [Act.put]
    refine wpAnyH_ready (rs := [10]) (by kernel_rfl) (by simp) ?_
    refine AllReadyH.cons rfl (fun K hK => ?_) AllReadyH.nil
    go_simp
    have q0 : (w3.setCell ⟨x, 14, none⟩ (.slice (some ⟨g', 0, none⟩) (l.runs.length + 1) cap')).cell? ⟨w.heap.size, 0, none⟩ = some (.int .i64 (r.id : Int)) := by rw [World.cell?_setCell_other _ _ _ _ (by simp)]; exact m0
    have q1 : (w3.setCell ⟨x, 14, none⟩ (.slice (some ⟨g', 0, none⟩) (l.runs.length + 1) cap')).cell? ⟨w.heap.size, 1, none⟩ = some (.int .i64 (r.at' : Int)) := by rw [World.cell?_setCell_other _ _ _ _ (by simp)]; exact m1
    have q2 : (w3.setCell ⟨x, 14, none⟩ (.slice (some ⟨g', 0, none⟩) (l.runs.length + 1) cap')).cell? ⟨w.heap.size, 2, none⟩ = some (.string r.rest) := by rw [World.cell?_setCell_other _ _ _ _ (by simp)]; exact m2
    refine hK.out _ _ ⟨q0, q1, q2⟩ (fun hHeld => ?_)
    clear hK K m0 m1 m2 c33 f33 hHeld
    refine wpAnyH_done (by kernel_rfl) ?_ _
    have g4 := HR.out.box.g13
    simp only [HE.out] at g4
    generalize w3.setCell ⟨x, 14, none⟩ (.slice (some ⟨g', 0, none⟩) (l.runs.length + 1) cap') = w4 at *
    go_wp2
    have hgl : g < w.heap.size := lt_of_block HG.out
    have hgx : g ≠ x := fun e => by have := HG.out; rw [e, HL.out.box] at this; simp at this
    refine wp_region_held_drew (S := fun w' => w'.cell? ⟨w.heap.size, 0, none⟩ = some (.int .i64 (r.id : Int)) ∧ w'.cell? ⟨w.heap.size, 1, none⟩ = some (.int .i64 (r.at' : Int)) ∧ w'.cell? ⟨w.heap.size, 2, none⟩ = some (.string r.rest) ∧ w'.cell? ⟨x, 13, none⟩ = some (.slice (some ⟨g, k * 3, none⟩) (ws.length + 1) cap)) (by kernel_rfl) ⟨q0, q1, q2, g4⟩ (fun hHeld => ?_)
    have hwrap : IntKind.i64.wrap ((r.at' : Int) + 1) = (r.at' : Int) + 1 := by rw [IntKind.wrap_i64]; omega
    have hwt4 : OwnW w4 (.slice (some ⟨g, k * 3, none⟩) (ws.length + 1) cap) (r :: ws) := by
      have := HR.out.wait
      simp only [HE.out, HW.out] at this
      exact this
    obtain ⟨g2, k2, cap2, cur2, ee, hg4, v1, v2, v3, v4, _⟩ := hwt4.head
    simp only [Value.slice.injEq, Option.some.injEq, Addr.mk.injEq, true_and, and_true] at ee
    obtain ⟨⟨rfl, ek⟩, rfl⟩ := ee
    obtain rfl : k = k2 := by omega
    have PH := HR.out.put_head (r := r) (ws := ws) HE.out hg4 v1 v2 v3 v4
    have HP1 : Hid (LexIn _ _ _ _) := PH.1
    have HP2 : Hid (Only _ _ _) := PH.2
    clear PH hwt4
    obtain ⟨⟨u0, z0⟩, z1, ⟨u2, z2⟩, z3, ⟨u4, z4⟩, z5, _⟩ := put3 (k := k) (r.id : Int) ((r.at' : Int) + 1) (r.rest.extract 1 r.rest.size) hg4 (by rw [v3]; omega)
    refine wpAnyH_take (i := 0) (v := ?cqq0) rfl (by kernel_rfl) (by kernel_rfl) (by kernel_rfl) (fun _ _ _ h => h) (Or.inl ⟨by rfl, ?hycqq0⟩) (by assumption) ?restcqq0
    case hycqq0 => intro w hSw; (try dsimp only at hSw); go_simp; (try with_reducible rfl)
    simp only [Act.put]
    refine wpAnyH_take (i := 1) (v := ?cqq1) rfl (by kernel_rfl) (by kernel_rfl) (by kernel_rfl) (fun _ _ _ h => h) (Or.inl ⟨by rfl, ?hycqq1⟩) (by assumption) ?restcqq1
    case hycqq1 => intro w hSw; (try dsimp only at hSw); go_simp; (try with_reducible rfl)
    simp only [Act.put]
    refine wpAnyH_take (i := 2) (v := ?cqq2) rfl (by kernel_rfl) (by kernel_rfl) (by kernel_rfl) (fun _ _ _ h => h) (Or.inl ⟨by rfl, ?hycqq2⟩) (by assumption) ?restcqq2
    case hycqq2 => intro w hSw; (try dsimp only at hSw); go_simp; (try with_reducible rfl)
    simp only [Act.put]
    refine wpAnyH_take (i := 3) (v := ?cqq3) rfl (by kernel_rfl) (by kernel_rfl) (by kernel_rfl) (fun _ _ _ h => h) (Or.inl ⟨by rfl, ?hycqq3⟩) (by assumption) ?restcqq3
    case hycqq3 => intro w hSw; (try dsimp only at hSw); go_simp; (try with_reducible rfl)
    simp only [Act.put]
    refine wpAnyH_take (i := 4) (v := ?cqq4) rfl (by kernel_rfl) (by kernel_rfl) (by kernel_rfl) (fun _ _ _ h => h) (Or.inl ⟨by rfl, ?hycqq4⟩) (by assumption) ?restcqq4
    case hycqq4 => intro w hSw; (try dsimp only at hSw); go_simp; (try with_reducible rfl)
    simp only [Act.put]
    refine wpAnyH_take (i := 5) (v := ?cqq5) rfl (by kernel_rfl) (by kernel_rfl) (by kernel_rfl) (fun _ _ _ h => h) (Or.inl ⟨by rfl, ?hycqq5⟩) (by assumption) ?restcqq5
    case hycqq5 => intro w hSw; (try dsimp only at hSw); go_simp; (try with_reducible rfl)
    simp only [Act.put]
    refine wpAnyH_take (i := 6) (v := ?cqq6) rfl (by kernel_rfl) (by kernel_rfl) (by kernel_rfl) (fun _ _ _ h => h) (Or.inl ⟨by rfl, ?hycqq6⟩) (by assumption) ?restcqq6
    case hycqq6 => intro w hSw; (try dsimp only at hSw); go_simp; (try with_reducible rfl)
    simp only [Act.put]
    refine wpAnyH_take (i := 7) (v := ?cqq7) rfl (by kernel_rfl) (by kernel_rfl) (by kernel_rfl) (fun _ _ _ h => h) (Or.inl ⟨by rfl, ?hycqq7⟩) (by assumption) ?restcqq7
    case hycqq7 => intro w hSw; (try dsimp only at hSw); go_simp; (try with_reducible rfl)
    simp only [Act.put]
    refine wpAnyH_take (i := 8) (v := ?cqq8) rfl (by kernel_rfl) (by kernel_rfl) (by kernel_rfl) (fun _ _ _ h => h) (Or.inl ⟨by rfl, ?hycqq8⟩) (by assumption) ?restcqq8
    case hycqq8 => intro w hSw; (try dsimp only at hSw); go_simp; (try with_reducible rfl)
    simp only [Act.put]
    refine wpAnyH_take (i := 9) (v := ?cqq9) rfl (by kernel_rfl) (by kernel_rfl) (by kernel_rfl) (fun _ _ _ h => h) (Or.inl ⟨by rfl, ?hycqq9⟩) (by assumption) ?restcqq9
    case hycqq9 => intro w hSw; (try dsimp only at hSw); go_simp; (try with_reducible rfl)
    simp only [Act.put]
    refine wpAnyH_take (i := 10) (v := ?cqq10) rfl (by kernel_rfl) (by kernel_rfl) (by kernel_rfl) (fun _ _ _ h => h) (Or.inl ⟨by rfl, ?hycqq10⟩) (by assumption) ?restcqq10
    case hycqq10 => intro w hSw; (try dsimp only at hSw); go_simp; (try with_reducible rfl)
    simp only [Act.put]
    refine wpAnyH_take (i := 11) (v := ?cqq11) rfl (by kernel_rfl) (by kernel_rfl) (by kernel_rfl) (fun _ _ _ h => h) (Or.inl ⟨by rfl, ?hycqq11⟩) (by assumption) ?restcqq11
    case hycqq11 => intro w hSw; (try dsimp only at hSw); go_simp; (try with_reducible rfl)
    simp only [Act.put]
    refine wpAnyH_take (i := 12) (v := ?cqq12) rfl (by kernel_rfl) (by kernel_rfl) (by kernel_rfl) (fun _ _ _ h => h) (Or.inl ⟨by rfl, ?hycqq12⟩) (by assumption) ?restcqq12
    case hycqq12 => intro w hSw; (try dsimp only at hSw); go_simp; (try with_reducible rfl)
    simp only [Act.put]
    refine wpAnyH_take (i := 13) (v := ?cqq13) rfl (by kernel_rfl) (by kernel_rfl) (by kernel_rfl) (fun _ _ _ h => h) (Or.inl ⟨by rfl, ?hycqq13⟩) (by assumption) ?restcqq13
    case hycqq13 => intro w hSw; (try dsimp only at hSw); go_simp; (try with_reducible rfl)
    simp only [Act.put]
    refine wpAnyH_take (i := 14) (v := ?cqq14) rfl (by kernel_rfl) (by kernel_rfl) (by kernel_rfl) (fun _ _ _ h => h) (Or.inl ⟨by rfl, ?hycqq14⟩) (by assumption) ?restcqq14
    case hycqq14 => intro w hSw; (try dsimp only at hSw); go_simp; (try with_reducible rfl)
    simp only [Act.put]
    refine wpAnyH_take (i := 15) (v := ?cqq15) rfl (by kernel_rfl) (by kernel_rfl) (by kernel_rfl) (fun _ _ _ h => h) (Or.inl ⟨by rfl, ?hycqq15⟩) (by assumption) ?restcqq15
    case hycqq15 => intro w hSw; (try dsimp only at hSw); go_simp; (try with_reducible rfl)
    simp only [Act.put]
    refine wpAnyH_take (i := 16) (v := ?cqq16) rfl (by kernel_rfl) (by kernel_rfl) (by kernel_rfl) (fun _ _ _ h => h) (Or.inl ⟨by rfl, ?hycqq16⟩) (by assumption) ?restcqq16
    case hycqq16 => intro w hSw; (try dsimp only at hSw); go_simp; (try with_reducible rfl)
    simp only [Act.put]
    refine wpAnyH_ready (rs := [17]) (by kernel_rfl) (by simp) ?_
    refine AllReadyH.cons rfl (fun K hK => ?_) AllReadyH.nil
    go_simp
    have hkeep : ∀ j v, w4.cell? ⟨w.heap.size, j, none⟩ = some v → (((w4.setCell ⟨g, k * 3, none⟩ (.int .i64 (r.id : Int))).setCell ⟨g, k * 3 + 1, none⟩ (.int .i64 ((r.at' : Int) + 1))).setCell ⟨g, k * 3 + 2, none⟩ (.string (r.rest.extract 1 r.rest.size))).cell? ⟨w.heap.size, j, none⟩ = some v := fun j v hv => by
      rw [World.cell?_setCell_other _ _ _ _ (by simp), World.cell?_setCell_other _ _ _ _ (by simp), World.cell?_setCell_other _ _ _ _ (by simp)]; exact hv
    have hkeep2 : (((w4.setCell ⟨g, k * 3, none⟩ (.int .i64 (r.id : Int))).setCell ⟨g, k * 3 + 1, none⟩ (.int .i64 ((r.at' : Int) + 1))).setCell ⟨g, k * 3 + 2, none⟩ (.string (r.rest.extract 1 r.rest.size))).cell? ⟨x, 13, none⟩ = some (.slice (some ⟨g, k * 3, none⟩) (ws.length + 1) cap) := by
      rw [World.cell?_setCell_other _ _ _ _ (by simp), World.cell?_setCell_other _ _ _ _ (by simp), World.cell?_setCell_other _ _ _ _ (by simp)]; exact g4
    refine hK.out _ _ ⟨hkeep 0 _ q0, hkeep 1 _ q1, hkeep 2 _ q2, hkeep2⟩ (fun hHeld => ?_)
    clear hK K hHeld
    refine wpAnyH_done (by kernel_rfl) ?_ _
    go_wp2
    (try simp only [Exit.inBlock, Exit.then])
    refine bodyPost_ret (results_none rfl _ _ _) rfl ?_
    refine ⟨rfl, { b with c1 := .slice (some ⟨g', 0, none⟩) (l.runs.length + 1) cap' }, ?_, rfl, ?_, ?_⟩
    · have e : Lx.take l = { l with runs := l.runs ++ [r], waiting := r.next :: ws } := by
        unfold Lx.take
        rw [HW.out]
        simp only
        rw [if_pos hr]
      rw [e]
      exact HP1.out.below (Below.refl _ _).drew
    · exact ((Only.of_below HB0.out).trans (HO.out)).step (HP2.out.trans (Only.of_below (Below.refl _ _).drew)) (fun q hq => (HQ.out q hq).imp (fun h => h) (fun h => by omega))
    · intro q hq
      exact (HQ.out q hq).imp (fun h => h) (fun h => by omega)

end Go.Proofs.Ythkndfkkgncjfab

namespace Go.Proofs.Ythkndfkkgncjfab
open Go.RowKit
set_option maxRecDepth 100000

/-- the box alone is written -/
theorem LexIn.rebox {w w' : World} {x : Nat} {b b' : Box} {l l' : Lx.Lex} (h : LexIn w x b l) (ho : Only (fun k => k = x) w w') (hb : BoxAt w' x b') (e0 : b'.c0 = b.c0) (e1 : b'.c1 = b.c1) (e3 : b'.c3 = b.c3) (w0 : l'.waiting = l.waiting) (w1 : l'.runs = l.runs) (w3 : l'.merged = l.merged)
    (e2 : b'.c2 = .int .i64 (l'.width : Int)) (e4 : b'.c4 = .int .i64 (l'.start : Int)) (e5 : b'.c5 = .int .i64 (l'.left : Int)) (e6 : b'.c6 = .int .i64 (l'.right : Int)) : LexIn w' x b' l' := by
  have hr := h.runs.only ho (fun q hq e => by subst e; exact h.runs.apart h.box hq)
  have hm := h.mg.only ho (fun q hq e => by subst e; exact h.mg.apart h.box hq)
  have hw : OwnW w' b.c0 l.waiting := by
    have hk := h.wait
    cases hl : l.waiting with
    | nil =>
      rw [hl] at hk
      rcases hk with ⟨h2, ao, cap, e, hl⟩ | ⟨g, q, cap, cur, e, hg, rest⟩
      · exact .inl ⟨h2, ao, cap, e, fun a ha => Nat.lt_of_lt_of_le (hl a ha) ho.size⟩
      · refine .inl ⟨rfl, _, cap, e, fun a ha => ?_⟩
        cases ha; exact Nat.lt_of_lt_of_le (lt_of_block hg) ho.size
    | cons r ws =>
      rw [hl] at hk
      exact hk.only ho (fun q hq e => by subst e; exact hk.apart h.box hq)
  exact ⟨hb, by rw [e0, w0]; exact hw, by rw [e1, w1]; exact hr, e2, by rw [e3, w3]; exact hm, e4, e5, e6, by rw [e0, e1]; exact h.a1, by rw [e0, e3]; exact h.a2, by rw [e1, e3]; exact h.a3⟩
/-- the head of what waits is left out -/
theorem LexIn.drop_head {w : World} {x g : Nat} {b : Box} {l : Lx.Lex} {ws : List Lx.Rw} (v : Value) (h : LexIn w x b l) (hg : b.c0.ownBlock = some g) (hv : v.ownBlock = some g) (hw : OwnW w v ws) :
    LexIn (w.setCell ⟨x, 13, none⟩ v) x { b with c0 := v } { l with waiting := ws } ∧ Only (fun k => k = x) w (w.setCell ⟨x, 13, none⟩ v) ∧ ∀ k, lfoot x { b with c0 := v } k → lfoot x b k := by
  refine ⟨⟨h.box.s13 _, hw.ne h.box _ _, h.runs.ne h.box _ _, h.wid, h.mg.ne h.box _ _, h.st, h.lf, h.rg, fun q hq => h.a1 q (by rw [hg, ← hv]; exact hq), fun q hq => h.a2 q (by rw [hg, ← hv]; exact hq), h.a3⟩, Only.setCell _ _ rfl, fun k hk => ?_⟩
  rcases hk with hk | hk | hk
  · exact .inl hk
  · exact .inr (.inl (by rw [hg, ← hv]; exact hk))
  · exact .inr (.inr hk)
theorem OwnW.tail {w : World} {g k cap : Nat} {r : Lx.Rw} {ws : List Lx.Rw} {cur : Array Value} (hg : w.heap[g]? = some (.cells cur 159 (0, 0))) (hc1 : ws.length + 1 ≤ cap) (hc2 : cap ≤ maxLen) (hc3 : cur.size = (k + cap) * 3) (hc4 : (cur.toList.drop (k * 3)).take ((ws.length + 1) * 3) = RW (r :: ws)) : OwnW w (.slice (some ⟨g, k * 3 + 3, none⟩) ws.length (cap - 1)) ws := by
  refine .inr ⟨g, k + 1, cap - 1, cur, ?_, hg, by omega, by omega, by rw [hc3]; omega, ?_⟩
  · rw [Nat.add_mul, Nat.one_mul]
  · have e : RW (r :: ws) = RW1 r ++ RW ws := rfl
    have h2 := congrArg (List.drop 3) hc4
    rw [e, List.drop_left' (by rfl), List.drop_take, List.drop_drop] at h2
    rw [← h2]
    have e1 : (k + 1) * 3 = k * 3 + 3 := by omega
    have e2 : (ws.length + 1) * 3 - 3 = ws.length * 3 := by omega
    rw [e1, e2]

set_option maxHeartbeats 2000000 in
theorem take_last (x : Nat) (b : Box) (l : Lx.Lex) (r : Lx.Rw) (ws : List Lx.Rw) (w : World) (h : LexIn w x b l) (hf : Fits l) (hw : l.waiting = r :: ws) (hr : ¬ 0 < r.rest.size) :
    Calls Try.prog 94 #[.pointer (some ⟨x, 13, none⟩)] w fun e w' => e = .returned (.tuple #[]) ∧ ∃ b', LexIn w' x b' (Lx.take l) ∧ b.same b' ∧ Only (lfoot x b) w w' ∧ ∀ k, lfoot x b' k → lfoot x b k ∨ w.heap.size ≤ k := by
  obtain ⟨i0, hi, hz0, hz1, hz2⟩ := info_parts Try.info159
  have hwt := h.wait
  rw [hw] at hwt
  obtain ⟨g, k, cap, cur, e0, hg, hc1, hc2, hc3, hc4, y0, y1, y2⟩ := hwt.head
  have g0 := h.box.g13
  rw [e0] at g0
  have hfr := hf.runs
  have hrw := (hf.wait r (by rw [hw]; simp)).2.1
  have hr1 : decide ((0 : Int) < (r.rest.size : Int)) = false := by rw [decide_eq_false_iff_not]; omega
  have hr2 : r.rest.size = 0 := by omega
  have hxl := h.box.lt
  have hb0 : Below w.heap.size w (w.alloc (.cells #[.int .i64 (r.id : Int), .int .i64 (r.at' : Int), .string r.rest] 159)) := (Below.refl _ _).alloc (Nat.le_refl _) _
  have hs0 : (w.alloc (.cells #[.int .i64 (r.id : Int), .int .i64 (r.at' : Int), .string r.rest] 159)).heap.size = w.heap.size + 1 := by simp
  have yn := World.news_of_block (heap_alloc_new w (.cells #[.int .i64 (r.id : Int), .int .i64 (r.at' : Int), .string r.rest] 159))
  have n0 : (w.alloc (.cells #[.int .i64 (r.id : Int), .int .i64 (r.at' : Int), .string r.rest] 159)).cell? ⟨w.heap.size, 0, none⟩ = some (.int .i64 (r.id : Int)) := yn 0 _ rfl
  have n1 : (w.alloc (.cells #[.int .i64 (r.id : Int), .int .i64 (r.at' : Int), .string r.rest] 159)).cell? ⟨w.heap.size, 1, none⟩ = some (.int .i64 (r.at' : Int)) := yn 1 _ rfl
  have n2 : (w.alloc (.cells #[.int .i64 (r.id : Int), .int .i64 (r.at' : Int), .string r.rest] 159)).cell? ⟨w.heap.size, 2, none⟩ = some (.string r.rest) := yn 2 _ rfl
  clear yn hwt
  have HL : Hid (LexIn w x b l) := h
  have HF : Hid (Fits l) := hf
  have HW : Hid (l.waiting = r :: ws) := hw
  have HC : Hid ((cur.toList.drop (k * 3)).take ((ws.length + 1) * 3) = RW (r :: ws)) := hc4
  have HG : Hid (w.heap[g]? = some (.cells cur 159 (0, 0))) := hg
  have HE : Hid (b.c0 = .slice (some ⟨g, k * 3, none⟩) (ws.length + 1) cap) := e0
  clear h hf hw hc4 hg e0
  go_enter Try.func94, Try.ntmps94
  go_wp2
  clear y0 y1 y2 g0
  generalize w.alloc (.cells #[.int .i64 (r.id : Int), .int .i64 (r.at' : Int), .string r.rest] 159) = w1 at *
  have HB0 : Hid (Below w.heap.size w w1) := hb0
  have HL1 : Hid (LexIn w1 x b l) := HL.out.below hb0
  have g11 := HL1.out.box.g14
  have hru1 := HL1.out.runs
  have hba : ∀ o, Below w1.heap.size w1 (w1.alloc o).drew := fun o => ((Below.refl _ _).alloc (Nat.le_refl _) o).drew
  have hS1 : ∀ o, (w1.alloc o).drew.cell? ⟨w.heap.size, 0, none⟩ = some (.int .i64 (r.id : Int)) ∧ (w1.alloc o).drew.cell? ⟨w.heap.size, 1, none⟩ = some (.int .i64 (r.at' : Int)) ∧ (w1.alloc o).drew.cell? ⟨w.heap.size, 2, none⟩ = some (.string r.rest) := fun o => ⟨cell_later (hba o) n0, cell_later (hba o) n1, cell_later (hba o) n2⟩
  have g12 : ∀ o, (w1.alloc o).drew.cell? ⟨x, 14, none⟩ = some b.c1 := fun o => cell_later (hba o) g11
  have hnx : (w.heap.size : Nat) ≠ x := by omega
  refine wp_region_held_drew (S := fun w' => w'.cell? ⟨w.heap.size, 0, none⟩ = some (.int .i64 (r.id : Int)) ∧ w'.cell? ⟨w.heap.size, 1, none⟩ = some (.int .i64 (r.at' : Int)) ∧ w'.cell? ⟨w.heap.size, 2, none⟩ = some (.string r.rest)) (by kernel_rfl) ⟨n0, n1, n2⟩ (fun hHeld => ?_)
  refine wpAnyH_take (i := 0) (v := ?a0) rfl (by kernel_rfl) (by kernel_rfl) (by kernel_rfl) (fun _ _ _ h => h) (Or.inl ⟨by rfl, ?hya0⟩) (by assumption) ?resta0
  case hya0 => intro w hSw; (try dsimp only at hSw); go_simp; (try with_reducible rfl)
  simp only [Act.put]
  refine wpAnyH_take (i := 1) (v := ?a1) rfl (by kernel_rfl) (by kernel_rfl) (by kernel_rfl) (fun _ _ _ h => h) (Or.inl ⟨by rfl, ?hya1⟩) (by assumption) ?resta1
  case hya1 => intro w hSw; (try dsimp only at hSw); go_simp; (try with_reducible rfl)
  simp only [Act.put]
  refine wpAnyH_take (i := 2) (v := ?a2) rfl (by kernel_rfl) (by kernel_rfl) (by kernel_rfl) (fun _ _ _ h => h) (Or.inl ⟨by rfl, ?hya2⟩) (by assumption) ?resta2
  case hya2 => intro w hSw; (try dsimp only at hSw); go_simp; (try with_reducible rfl)
  simp only [Act.put]
  refine wpAnyH_take (i := 3) (v := ?a3) rfl (by kernel_rfl) (by kernel_rfl) (by kernel_rfl) (fun _ _ _ h => h) (Or.inl ⟨by rfl, ?hya3⟩) (by assumption) ?resta3
  case hya3 => intro w hSw; (try dsimp only at hSw); go_simp; (try with_reducible rfl)
  simp only [Act.put]
  refine wpAnyH_take (i := 5) (v := ?a5) rfl (by kernel_rfl) (by kernel_rfl) (by kernel_rfl) (fun _ _ _ h => h) (Or.inl ⟨by rfl, ?hya5⟩) (by assumption) ?resta5
  case hya5 => intro w hSw; (try dsimp only at hSw); go_simp; (try with_reducible rfl)
  simp only [Act.put]
  refine wpAnyH_ready (rs := [4, 6]) (by kernel_rfl) (by simp) ?_
  refine AllReadyH.cons rfl (fun K hK => ?A) (AllReadyH.cons rfl (fun K hK => ?B) AllReadyH.nil)
  case' A =>
    go_simp
    refine hK.out _ _ (by exact hHeld) (fun hHeld => ?_)
    clear hK K
    refine wpAnyH_ready (rs := [6]) (by kernel_rfl) (by simp) ?_
    refine AllReadyH.cons rfl (fun K hK => ?_) AllReadyH.nil
    go_simp
    refine hK.out _ _ (hS1 _) (fun hHeld => ?_)
    clear hK K
  case' B =>
    go_simp
    refine hK.out _ _ (hS1 _) (fun hHeld => ?_)
    clear hK K
    refine wpAnyH_ready (rs := [4]) (by kernel_rfl) (by simp) ?_
    refine AllReadyH.cons rfl (fun K hK => ?_) AllReadyH.nil
    have g13 := g12 (.cells #[.int .i64 (r.id : Int), .int .i64 (r.at' : Int), .string r.rest] 159)
    go_simp
    refine hK.out _ _ (by exact hHeld) (fun hHeld => ?_)
    clear hK K g13
  · skip
    refine wpAnyH_ready (rs := [7]) (by kernel_rfl) (by simp) ?_
    refine AllReadyH.cons rfl (fun K hK => ?_) AllReadyH.nil
    refine step_lies_at 16 rfl (w1.heap.size + 1) rfl (.tmp 13) (.tmp 15) 60 rfl 0 159 i0 (.agg #[.int .i64 0, .int .i64 0, .string ⟨#[]⟩]) 3 32 Try.underlying60 hi hz0 hz1 hz2 rfl (by decide) b.c1 l.runs.length (RW l.runs) (by simp [Act.eval]) (World.ownsRow.alloc hru1 _) ⟨w1.heap.size, 0, none⟩ 1 1 (RW1 r) (by simp [Act.eval]) rfl (World.news_of_block (cs := #[.int .i64 (r.id : Int), .int .i64 (r.at' : Int), .string r.rest]) (heap_alloc_new w1 _)) (by intro u hu2; simp [RW1] at hu2; rcases hu2 with rfl | rfl | rfl <;> rfl) (by decide) (by unfold maxLen; omega) (by omega) (Nat.zero_le _) (by simp) ?_
    intro g' cap' w3 hown3 hgrow0 hat3 hlt3
    have RM := HL1.out.runs_more hown3 hgrow0 hat3
    have HR : Hid (LexIn _ _ _ _) := RM.2.1
    have HO : Hid (Only _ _ _) := RM.2.2.1
    have HQ : Hid (∀ k, _ → _) := RM.2.2.2
    have c33 := RM.1.g14
    have f33 := RM.1.free 14
    have hnc : some w.heap.size ≠ b.c1.ownBlock := fun e => by have := HL.out.runs.lt _ e.symm; omega
    have m0 : w3.cell? ⟨w.heap.size, 0, none⟩ = some (.int .i64 (r.id : Int)) := World.grownBy.cell hgrow0 (hS1 _).1 hnc
    have m1 : w3.cell? ⟨w.heap.size, 1, none⟩ = some (.int .i64 (r.at' : Int)) := World.grownBy.cell hgrow0 (hS1 _).2.1 hnc
    have m2 : w3.cell? ⟨w.heap.size, 2, none⟩ = some (.string r.rest) := World.grownBy.cell hgrow0 (hS1 _).2.2 hnc
    clear RM hown3 hgrow0 hHeld g12 hS1 hba
    refine hK.out _ _ ⟨m0, m1, m2⟩ (fun hHeld => ?_)
    clear hK K
    refine wpAnyH_take (i := 8) (v := ?bq8) rfl (by kernel_rfl) (by kernel_rfl) (by kernel_rfl) (fun _ _ _ h => h) (Or.inl ⟨by rfl, ?hybq8⟩) (by assumption) ?restbq8
    case hybq8 => intro w hSw; (try dsimp only at hSw); go_simp; (try with_reducible rfl)
    simp only [Act.put]
    refine wpAnyH_take (i := 9) (v := ?bq9) rfl (by kernel_rfl) (by kernel_rfl) (by kernel_rfl) (fun _ _ _ h => h) (Or.inl ⟨by rfl, ?hybq9⟩) (by assumption) ?restbq9
    case hybq9 => intro w hSw; (try dsimp only at hSw); go_simp; (try with_reducible rfl)
    simp only [Act.put]
    refine wpAnyH_ready (rs := [10]) (by kernel_rfl) (by simp) ?_
    refine AllReadyH.cons rfl (fun K hK => ?_) AllReadyH.nil
    go_simp
    have q0 : (w3.setCell ⟨x, 14, none⟩ (.slice (some ⟨g', 0, none⟩) (l.runs.length + 1) cap')).cell? ⟨w.heap.size, 0, none⟩ = some (.int .i64 (r.id : Int)) := by rw [World.cell?_setCell_other _ _ _ _ (by simp)]; exact m0
    have q1 : (w3.setCell ⟨x, 14, none⟩ (.slice (some ⟨g', 0, none⟩) (l.runs.length + 1) cap')).cell? ⟨w.heap.size, 1, none⟩ = some (.int .i64 (r.at' : Int)) := by rw [World.cell?_setCell_other _ _ _ _ (by simp)]; exact m1
    have q2 : (w3.setCell ⟨x, 14, none⟩ (.slice (some ⟨g', 0, none⟩) (l.runs.length + 1) cap')).cell? ⟨w.heap.size, 2, none⟩ = some (.string r.rest) := by rw [World.cell?_setCell_other _ _ _ _ (by simp)]; exact m2
    refine hK.out _ _ ⟨q0, q1, q2⟩ (fun hHeld => ?_)
    clear hK K m0 m1 m2 c33 f33 hHeld
    refine wpAnyH_done (by kernel_rfl) ?_ _
    have g4 := HR.out.box.g13
    simp only [HE.out] at g4
    generalize w3.setCell ⟨x, 14, none⟩ (.slice (some ⟨g', 0, none⟩) (l.runs.length + 1) cap') = w4 at *
    have f4 := HR.out.box.free 13
    have hwt4 : OwnW w4 (.slice (some ⟨g, k * 3, none⟩) (ws.length + 1) cap) (r :: ws) := by
      have := HR.out.wait
      simp only [HE.out, HW.out] at this
      exact this
    obtain ⟨g2, k2, cap2, cur2, ee, hg4, v1, v2, v3, v4, _⟩ := hwt4.head
    simp only [Value.slice.injEq, Option.some.injEq, Addr.mk.injEq, true_and, and_true] at ee
    obtain ⟨⟨rfl, ek⟩, rfl⟩ := ee
    obtain rfl : k = k2 := by omega
    clear ek
    have hgl : g < w4.heap.size := lt_of_block hg4
    have HN : Hid (Lx.take l = if ws = [] then Lx.pair { l with runs := l.runs ++ [r], waiting := ws, width := 1 } 0 else { l with runs := l.runs ++ [r], waiting := ws }) := by
      show Lx.take l = _
      unfold Lx.take
      rw [HW.out]
      simp only
      rw [if_neg hr]
    have HOW : Hid (Only (lfoot x b) w w4) := (Only.of_below HB0.out).trans (HO.out)
    have HQW : Hid (∀ q, lfoot x { b with c1 := .slice (some ⟨g', 0, none⟩) (l.runs.length + 1) cap' } q → lfoot x b q ∨ w.heap.size ≤ q) := fun q hq => (HQ.out q hq).imp (fun h => h) (fun h => by omega)
    clear HO HQ HB0 HL HL1 HC HG
    have HE4 : Hid (Value.ownBlock { b with c1 := .slice (some ⟨g', 0, none⟩) (l.runs.length + 1) cap' }.c0 = some g) := by show Value.ownBlock b.c0 = some g; rw [HE.out]; rfl
    by_cases hws : ws = []
    · subst hws
      simp only [List.length_nil, Nat.zero_add] at *
      have hd1 : ((0 : Int) == 0) = true := rfl
      by_cases hcap : cap = 1
      · subst hcap
        have D := HR.out.drop_head (.slice (some ⟨g, k * 3, none⟩) 0 0) HE4.out rfl (.inl ⟨rfl, _, _, rfl, fun a ha => by cases ha; exact hgl⟩)
        have HD1 : Hid (LexIn _ _ _ _) := D.1
        have HD2 : Hid (Only _ _ _) := D.2.1
        have HD3 : Hid (∀ k, _ → _) := D.2.2
        have R0 := HD1.out.box
        have k2 := R0.g15
        have f2 := R0.free 15
        have R1 := R0.s15 (.int .i64 1)
        have HP : Hid (Calls Try.prog 103 #[.pointer (some ⟨x, 13, none⟩), .int .i64 ((0 : Nat) : Int)] _ _) := pair_any x _ (some ⟨g', 0, none⟩) (l.runs.length + 1) cap' 1 0 _ R1 rfl rfl (by omega) (by omega)
        clear D R0 R1
        go_wp2_with fail
        refine HP.out.mono ?_
        rintro e w5 ⟨rfl, hb5, ho5⟩
        go_wp2
        go_end0
        refine ⟨rfl, { b with c0 := .slice (some ⟨g, k * 3, none⟩) 0 0, c1 := .slice (some ⟨g', 0, none⟩) (l.runs.length + 1) cap', c2 := .int .i64 1, c4 := .int .i64 ((0 : Nat) : Int), c5 := .int .i64 ((0 : Nat) : Int), c6 := .int .i64 ((min (0 + 1) (l.runs.length + 1) : Nat) : Int) }, ?_, rfl, ?_, ?_⟩
        rotate_left
        · refine HOW.out.step ((HD2.out.trans (Only.setCell _ _ rfl)).trans ho5) (fun q hq => .inl (.inl hq))
        rotate_left
        · rw [HN.out, if_pos trivial]
          refine LexIn.rebox HD1.out (Only.trans (Only.setCell _ _ rfl) ho5) hb5 rfl rfl rfl rfl rfl rfl rfl rfl rfl ?_
          simp [Lx.pair]
        · intro q hq
          exact HQW.out q (HD3.out q hq)
      · skip
        have D := HR.out.drop_head (.slice (some ⟨g, k * 3 + 3, none⟩) 0 (cap - 1)) HE4.out rfl (.inl ⟨rfl, _, _, rfl, fun a ha => by cases ha; exact hgl⟩)
        have HD1 : Hid (LexIn _ _ _ _) := D.1
        have HD2 : Hid (Only _ _ _) := D.2.1
        have HD3 : Hid (∀ k, _ → _) := D.2.2
        have R0 := HD1.out.box
        have k2 := R0.g15
        have f2 := R0.free 15
        have R1 := R0.s15 (.int .i64 1)
        have HP : Hid (Calls Try.prog 103 #[.pointer (some ⟨x, 13, none⟩), .int .i64 ((0 : Nat) : Int)] _ _) := pair_any x _ (some ⟨g', 0, none⟩) (l.runs.length + 1) cap' 1 0 _ R1 rfl rfl (by omega) (by omega)
        clear D R0 R1
        go_wp2_with fail
        refine HP.out.mono ?_
        rintro e w5 ⟨rfl, hb5, ho5⟩
        go_wp2
        go_end0
        refine ⟨rfl, { b with c0 := .slice (some ⟨g, k * 3 + 3, none⟩) 0 (cap - 1), c1 := .slice (some ⟨g', 0, none⟩) (l.runs.length + 1) cap', c2 := .int .i64 1, c4 := .int .i64 ((0 : Nat) : Int), c5 := .int .i64 ((0 : Nat) : Int), c6 := .int .i64 ((min (0 + 1) (l.runs.length + 1) : Nat) : Int) }, ?_, rfl, ?_, ?_⟩
        rotate_left
        · refine HOW.out.step ((HD2.out.trans (Only.setCell _ _ rfl)).trans ho5) (fun q hq => .inl (.inl hq))
        rotate_left
        · rw [HN.out, if_pos trivial]
          refine LexIn.rebox HD1.out (Only.trans (Only.setCell _ _ rfl) ho5) hb5 rfl rfl rfl rfl rfl rfl rfl rfl rfl ?_
          simp [Lx.pair]
        · intro q hq
          exact HQW.out q (HD3.out q hq)
    · have hwl : 1 ≤ ws.length := by cases ws with | nil => exact absurd rfl hws | cons a q => simp
      have hd1 : ((ws.length : Int) == 0) = false := by rw [beq_eq_false_iff_ne]; omega
      have hcap : ¬ cap = 1 := by omega
      have D := HR.out.drop_head (.slice (some ⟨g, k * 3 + 3, none⟩) ws.length (cap - 1)) HE4.out rfl (OwnW.tail hg4 v1 v2 v3 v4)
      have HD1 : Hid (LexIn _ _ _ _) := D.1
      have HD2 : Hid (Only _ _ _) := D.2.1
      have HD3 : Hid (∀ k, _ → _) := D.2.2
      clear D
      go_wp2_with fail
      go_end0
      refine ⟨rfl, { b with c0 := .slice (some ⟨g, k * 3 + 3, none⟩) ws.length (cap - 1), c1 := .slice (some ⟨g', 0, none⟩) (l.runs.length + 1) cap' }, ?_, rfl, ?_, ?_⟩
      · rw [HN.out, if_neg hws]
        exact HD1.out
      · exact HOW.out.step HD2.out (fun q hq => .inl (.inl hq))
      · intro q hq
        exact HQW.out q (HD3.out q hq)
  · skip
    refine wpAnyH_ready (rs := [7]) (by kernel_rfl) (by simp) ?_
    refine AllReadyH.cons rfl (fun K hK => ?_) AllReadyH.nil
    refine step_lies_at 16 rfl (w1.heap.size + 1) rfl (.tmp 13) (.tmp 15) 60 rfl 0 159 i0 (.agg #[.int .i64 0, .int .i64 0, .string ⟨#[]⟩]) 3 32 Try.underlying60 hi hz0 hz1 hz2 rfl (by decide) b.c1 l.runs.length (RW l.runs) (by simp [Act.eval]) (World.ownsRow.alloc hru1 _) ⟨w1.heap.size, 0, none⟩ 1 1 (RW1 r) (by simp [Act.eval]) rfl (World.news_of_block (cs := #[.int .i64 (r.id : Int), .int .i64 (r.at' : Int), .string r.rest]) (heap_alloc_new w1 _)) (by intro u hu2; simp [RW1] at hu2; rcases hu2 with rfl | rfl | rfl <;> rfl) (by decide) (by unfold maxLen; omega) (by omega) (Nat.zero_le _) (by simp) ?_
    intro g' cap' w3 hown3 hgrow0 hat3 hlt3
    have RM := HL1.out.runs_more hown3 hgrow0 hat3
    have HR : Hid (LexIn _ _ _ _) := RM.2.1
    have HO : Hid (Only _ _ _) := RM.2.2.1
    have HQ : Hid (∀ k, _ → _) := RM.2.2.2
    have c33 := RM.1.g14
    have f33 := RM.1.free 14
    have hnc : some w.heap.size ≠ b.c1.ownBlock := fun e => by have := HL.out.runs.lt _ e.symm; omega
    have m0 : w3.cell? ⟨w.heap.size, 0, none⟩ = some (.int .i64 (r.id : Int)) := World.grownBy.cell hgrow0 (hS1 _).1 hnc
    have m1 : w3.cell? ⟨w.heap.size, 1, none⟩ = some (.int .i64 (r.at' : Int)) := World.grownBy.cell hgrow0 (hS1 _).2.1 hnc
    have m2 : w3.cell? ⟨w.heap.size, 2, none⟩ = some (.string r.rest) := World.grownBy.cell hgrow0 (hS1 _).2.2 hnc
    clear RM hown3 hgrow0 hHeld g12 hS1 hba
    refine hK.out _ _ ⟨m0, m1, m2⟩ (fun hHeld => ?_)
    clear hK K
    refine wpAnyH_take (i := 8) (v := ?bqq8) rfl (by kernel_rfl) (by kernel_rfl) (by kernel_rfl) (fun _ _ _ h => h) (Or.inl ⟨by rfl, ?hybqq8⟩) (by assumption) ?restbqq8
    case hybqq8 => intro w hSw; (try dsimp only at hSw); go_simp; (try with_reducible rfl)
    simp only [Act.put]
    refine wpAnyH_take (i := 9) (v := ?bqq9) rfl (by kernel_rfl) (by kernel_rfl) (by kernel_rfl) (fun _ _ _ h => h) (Or.inl ⟨by rfl, ?hybqq9⟩) (by assumption) ?restbqq9
    case hybqq9 => intro w hSw; (try dsimp only at hSw); go_simp; (try with_reducible rfl)
    simp only [Act.put]
    refine wpAnyH_ready (rs := [10]) (by kernel_rfl) (by simp) ?_
    refine AllReadyH.cons rfl (fun K hK => ?_) AllReadyH.nil
    go_simp
    have q0 : (w3.setCell ⟨x, 14, none⟩ (.slice (some ⟨g', 0, none⟩) (l.runs.length + 1) cap')).cell? ⟨w.heap.size, 0, none⟩ = some (.int .i64 (r.id : Int)) := by rw [World.cell?_setCell_other _ _ _ _ (by simp)]; exact m0
    have q1 : (w3.setCell ⟨x, 14, none⟩ (.slice (some ⟨g', 0, none⟩) (l.runs.length + 1) cap')).cell? ⟨w.heap.size, 1, none⟩ = some (.int .i64 (r.at' : Int)) := by rw [World.cell?_setCell_other _ _ _ _ (by simp)]; exact m1
    have q2 : (w3.setCell ⟨x, 14, none⟩ (.slice (some ⟨g', 0, none⟩) (l.runs.length + 1) cap')).cell? ⟨w.heap.size, 2, none⟩ = some (.string r.rest) := by rw [World.cell?_setCell_other _ _ _ _ (by simp)]; exact m2
    refine hK.out _ _ ⟨q0, q1, q2⟩ (fun hHeld => ?_)
    clear hK K m0 m1 m2 c33 f33 hHeld
    refine wpAnyH_done (by kernel_rfl) ?_ _
    have g4 := HR.out.box.g13
    simp only [HE.out] at g4
    generalize w3.setCell ⟨x, 14, none⟩ (.slice (some ⟨g', 0, none⟩) (l.runs.length + 1) cap') = w4 at *
    have f4 := HR.out.box.free 13
    have hwt4 : OwnW w4 (.slice (some ⟨g, k * 3, none⟩) (ws.length + 1) cap) (r :: ws) := by
      have := HR.out.wait
      simp only [HE.out, HW.out] at this
      exact this
    obtain ⟨g2, k2, cap2, cur2, ee, hg4, v1, v2, v3, v4, _⟩ := hwt4.head
    simp only [Value.slice.injEq, Option.some.injEq, Addr.mk.injEq, true_and, and_true] at ee
    obtain ⟨⟨rfl, ek⟩, rfl⟩ := ee
    obtain rfl : k = k2 := by omega
    clear ek
    have hgl : g < w4.heap.size := lt_of_block hg4
    have HN : Hid (Lx.take l = if ws = [] then Lx.pair { l with runs := l.runs ++ [r], waiting := ws, width := 1 } 0 else { l with runs := l.runs ++ [r], waiting := ws }) := by
      show Lx.take l = _
      unfold Lx.take
      rw [HW.out]
      simp only
      rw [if_neg hr]
    have HOW : Hid (Only (lfoot x b) w w4) := (Only.of_below HB0.out).trans (HO.out)
    have HQW : Hid (∀ q, lfoot x { b with c1 := .slice (some ⟨g', 0, none⟩) (l.runs.length + 1) cap' } q → lfoot x b q ∨ w.heap.size ≤ q) := fun q hq => (HQ.out q hq).imp (fun h => h) (fun h => by omega)
    clear HO HQ HB0 HL HL1 HC HG
    have HE4 : Hid (Value.ownBlock { b with c1 := .slice (some ⟨g', 0, none⟩) (l.runs.length + 1) cap' }.c0 = some g) := by show Value.ownBlock b.c0 = some g; rw [HE.out]; rfl
    by_cases hws : ws = []
    · subst hws
      simp only [List.length_nil, Nat.zero_add] at *
      have hd1 : ((0 : Int) == 0) = true := rfl
      by_cases hcap : cap = 1
      · subst hcap
        have D := HR.out.drop_head (.slice (some ⟨g, k * 3, none⟩) 0 0) HE4.out rfl (.inl ⟨rfl, _, _, rfl, fun a ha => by cases ha; exact hgl⟩)
        have HD1 : Hid (LexIn _ _ _ _) := D.1
        have HD2 : Hid (Only _ _ _) := D.2.1
        have HD3 : Hid (∀ k, _ → _) := D.2.2
        have R0 := HD1.out.box
        have k2 := R0.g15
        have f2 := R0.free 15
        have R1 := R0.s15 (.int .i64 1)
        have HP : Hid (Calls Try.prog 103 #[.pointer (some ⟨x, 13, none⟩), .int .i64 ((0 : Nat) : Int)] _ _) := pair_any x _ (some ⟨g', 0, none⟩) (l.runs.length + 1) cap' 1 0 _ R1 rfl rfl (by omega) (by omega)
        clear D R0 R1
        go_wp2_with fail
        refine HP.out.mono ?_
        rintro e w5 ⟨rfl, hb5, ho5⟩
        go_wp2
        go_end0
        refine ⟨rfl, { b with c0 := .slice (some ⟨g, k * 3, none⟩) 0 0, c1 := .slice (some ⟨g', 0, none⟩) (l.runs.length + 1) cap', c2 := .int .i64 1, c4 := .int .i64 ((0 : Nat) : Int), c5 := .int .i64 ((0 : Nat) : Int), c6 := .int .i64 ((min (0 + 1) (l.runs.length + 1) : Nat) : Int) }, ?_, rfl, ?_, ?_⟩
        rotate_left
        · refine HOW.out.step ((HD2.out.trans (Only.setCell _ _ rfl)).trans ho5) (fun q hq => .inl (.inl hq))
        rotate_left
        · rw [HN.out, if_pos trivial]
          refine LexIn.rebox HD1.out (Only.trans (Only.setCell _ _ rfl) ho5) hb5 rfl rfl rfl rfl rfl rfl rfl rfl rfl ?_
          simp [Lx.pair]
        · intro q hq
          exact HQW.out q (HD3.out q hq)
      · skip
        have D := HR.out.drop_head (.slice (some ⟨g, k * 3 + 3, none⟩) 0 (cap - 1)) HE4.out rfl (.inl ⟨rfl, _, _, rfl, fun a ha => by cases ha; exact hgl⟩)
        have HD1 : Hid (LexIn _ _ _ _) := D.1
        have HD2 : Hid (Only _ _ _) := D.2.1
        have HD3 : Hid (∀ k, _ → _) := D.2.2
        have R0 := HD1.out.box
        have k2 := R0.g15
        have f2 := R0.free 15
        have R1 := R0.s15 (.int .i64 1)
        have HP : Hid (Calls Try.prog 103 #[.pointer (some ⟨x, 13, none⟩), .int .i64 ((0 : Nat) : Int)] _ _) := pair_any x _ (some ⟨g', 0, none⟩) (l.runs.length + 1) cap' 1 0 _ R1 rfl rfl (by omega) (by omega)
        clear D R0 R1
        go_wp2_with fail
        refine HP.out.mono ?_
        rintro e w5 ⟨rfl, hb5, ho5⟩
        go_wp2
        go_end0
        refine ⟨rfl, { b with c0 := .slice (some ⟨g, k * 3 + 3, none⟩) 0 (cap - 1), c1 := .slice (some ⟨g', 0, none⟩) (l.runs.length + 1) cap', c2 := .int .i64 1, c4 := .int .i64 ((0 : Nat) : Int), c5 := .int .i64 ((0 : Nat) : Int), c6 := .int .i64 ((min (0 + 1) (l.runs.length + 1) : Nat) : Int) }, ?_, rfl, ?_, ?_⟩
        rotate_left
        · refine HOW.out.step ((HD2.out.trans (Only.setCell _ _ rfl)).trans ho5) (fun q hq => .inl (.inl hq))
        rotate_left
        · rw [HN.out, if_pos trivial]
          refine LexIn.rebox HD1.out (Only.trans (Only.setCell _ _ rfl) ho5) hb5 rfl rfl rfl rfl rfl rfl rfl rfl rfl ?_
          simp [Lx.pair]
        · intro q hq
          exact HQW.out q (HD3.out q hq)
    · have hwl : 1 ≤ ws.length := by cases ws with | nil => exact absurd rfl hws | cons a q => simp
      have hd1 : ((ws.length : Int) == 0) = false := by rw [beq_eq_false_iff_ne]; omega
      have hcap : ¬ cap = 1 := by omega
      have D := HR.out.drop_head (.slice (some ⟨g, k * 3 + 3, none⟩) ws.length (cap - 1)) HE4.out rfl (OwnW.tail hg4 v1 v2 v3 v4)
      have HD1 : Hid (LexIn _ _ _ _) := D.1
      have HD2 : Hid (Only _ _ _) := D.2.1
      have HD3 : Hid (∀ k, _ → _) := D.2.2
      clear D
      go_wp2_with fail
      go_end0
      refine ⟨rfl, { b with c0 := .slice (some ⟨g, k * 3 + 3, none⟩) ws.length (cap - 1), c1 := .slice (some ⟨g', 0, none⟩) (l.runs.length + 1) cap' }, ?_, rfl, ?_, ?_⟩
      · rw [HN.out, if_neg hws]
        exact HD1.out
      · exact HOW.out.step HD2.out (fun q hq => .inl (.inl hq))
      · intro q hq
        exact HQW.out q (HD3.out q hq)

end Go.Proofs.Ythkndfkkgncjfab

namespace Go.Proofs.Ythkndfkkgncjfab
open Go.RowKit
set_option maxRecDepth 100000

/-- the index's main lexicon, its rows -/
structure MainIn (w : World) (x : Nat) (b : Box) (l : List Lx.Rw) : Prop where
  box : BoxAt w x b
  runs : OwnR w 0 b.m1 l

set_option maxHeartbeats 1000000 in
theorem lexAhead_any (x : Nat) (b : Box) (l : List Lx.Rw) (p : ByteArray) (w : World) (h : MainIn w x b l) (hs : Lx.Sorted l) (hl : l.length ≤ 6000) :
    Calls Try.prog 92 #[.pointer (some ⟨x, 6, none⟩), .string p] w fun e w' => (∃ a : Nat, e = .returned (.int .i64 (a : Int)) ∧ Lx.Cut l p.data.toList a) ∧ Below w.heap.size w w' := by
  obtain ⟨ao, cap, e1, hc⟩ := h.runs.any
  have g7 := h.box.g7
  rw [e1] at g7
  have HC : Hid (∀ k r, l[k]? = some r → ∃ g, ao = some (⟨g, 0, none⟩ : Addr) ∧ w.cell? ⟨g, k * 3, none⟩ = some (.int .i64 (r.id : Int)) ∧ w.cell? ⟨g, k * 3 + 1, none⟩ = some (.int .i64 (r.at' : Int)) ∧ w.cell? ⟨g, k * 3 + 2, none⟩ = some (.string r.rest)) := hc
  have HS : Hid (Lx.Sorted l) := hs
  clear h hs hc e1
  go_enter Try.func92, Try.ntmps92
  go_wp2_with fail
  go_quiet (fail)
  go_wp2_with fail
  go_loopw [5, 6] (fun u v wr => ∃ lo hi : Nat, lo ≤ hi ∧ hi ≤ l.length ∧ u = .int .i64 lo ∧ v = .int .i64 hi ∧ Hid (∀ i r, i < lo → l[i]? = some r → Op.bytesLess r.bytes p.data.toList = true) ∧ Hid (∀ i r, hi ≤ i → l[i]? = some r → Op.bytesLess r.bytes p.data.toList = false) ∧ Below w.heap.size w wr) (fun u v _ => (intOf v).toNat - (intOf u).toNat)
  case atStart => exact ⟨0, l.length, Nat.zero_le _, Nat.le_refl _, rfl, rfl, fun i r hi => by omega, fun i r hi hr => by have := (List.getElem?_eq_some_iff.1 hr).1; omega, below_drewN (Below.refl _ _) _⟩
  case round =>
    obtain ⟨lo, hi, h1, h2, rfl, rfl, HA, HN, hb⟩ := hrel
    have g7' := cell_later hb g7
    by_cases hlt : lo < hi
    · have d1 : decide ((lo : Int) < (hi : Int)) = true := by rw [decide_eq_true_eq]; omega
      have d1' : decide (lo < hi) = true := by rw [decide_eq_true_eq]; omega
      obtain ⟨m, hm⟩ : ∃ m, m = lo + (hi - lo) / 2 := ⟨_, rfl⟩
      have hml : lo ≤ m := by omega
      have hmh : m < hi := by omega
      have e2 : (lo : Int) + ((hi : Int) - (lo : Int)).tdiv 2 = (m : Int) := by
        rw [show (hi : Int) - (lo : Int) = ((hi - lo : Nat) : Int) by omega, hm]
        rfl
      obtain ⟨r, hr⟩ : ∃ r, l[m]? = some r := ⟨_, List.getElem?_eq_getElem (by omega)⟩
      obtain ⟨g, rfl, _, _, y2⟩ := HC.out m r hr
      have y2' := cell_later hb y2
      have HR : Hid (l[m]? = some r) := hr
      clear hr hm
      cases hless : Op.bytesLess r.bytes p.data.toList
      · have hlf : Op.bytesLess r.rest.toList p.toList = false := by rw [ByteArray.toList_eq, ByteArray.toList_eq, Lx.rest_bytes]; exact hless
        go_wp2_with fail
        go_roundw
        case rel => exact ⟨lo, m, hml, by omega, rfl, by go_num, HA, fun i r' hi' hr' => by
          cases hx : Op.bytesLess r'.bytes p.data.toList
          · rfl
          · exact absurd (Lx.Sorted.ahead HS.out p.data.toList m i r r' hi' HR.out hr' hx) (by rw [hless]; simp), hb⟩
        case measure => simp [intOf]; omega
      · have hlf : Op.bytesLess r.rest.toList p.toList = true := by rw [ByteArray.toList_eq, ByteArray.toList_eq, Lx.rest_bytes]; exact hless
        go_wp2_with fail
        go_roundw
        case rel => exact ⟨m + 1, hi, by omega, h2, by go_num, rfl, fun i r' hi' hr' => Lx.Sorted.ahead HS.out p.data.toList i m r' r (by omega) hr' HR.out hless, HN, hb⟩
        case measure => simp [intOf]; omega
    · have hle : lo = hi := by omega
      subst hle
      have HX : Hid (Lx.Cut l p.data.toList lo) := ⟨h2, HA.out, HN.out⟩
      go_wp2
      go_ret
      exact ⟨⟨lo, rfl, HX.out⟩, hb⟩

theorem news_two (w : World) (o : Obj) (cs : Array Value) (t : TypeId) : ∀ (j : Nat) (u : Value), cs.toList[j]? = some u → ((w.alloc o).alloc (.cells cs t)).cell? ((⟨w.heap.size + 1, 0, none⟩ : Addr).add j) = some u := by
  have h := World.news_of_block (cs := cs) (heap_alloc_new (w.alloc o) (.cells cs t))
  rw [show (w.alloc o).heap.size = w.heap.size + 1 from by simp] at h
  exact h
/-- one hit more -/
theorem oc_more {w w1 w0 : World} {B : Nat} {v v' : Value} {m : List Do.Oc} {b : Do.Oc} {o : Obj} (hu : OwnO w B v m) (hbl : Below B w0 w) (hB : B ≤ w.heap.size)
    (h1 : w1.ownsRow B 44 2 v' (m.length + 1) (OC m ++ OC1 b)) (h2 : (w.alloc o).grownBy w1 v.ownBlock) : OwnO w1 B v' (m ++ [b]) ∧ Below B w0 w1 := by
  refine ⟨?_, (hbl.alloc hB o).grown h2 (by simp; omega) (fun k hk => (World.ownsRow.lt hu k hk).1)⟩
  unfold OwnO
  rw [OC_append, List.length_append]
  have : OC [b] = OC1 b := by simp [OC]
  rw [this]; exact h1
/-- a hit's cells, from a row's first two -/
theorem hit_cells (r : Lx.Rw) : OC1 (Lx.hit r) = [.int .i64 (r.id : Int), .int .i64 (r.at' : Int)] := rfl

set_option maxHeartbeats 2000000 in
theorem lexFind_any (x : Nat) (b : Box) (l : List Lx.Rw) (p : ByteArray) (w : World) (h : MainIn w x b l) (hs : Lx.Sorted l) (hl : l.length ≤ 6000) (hd : ∀ r ∈ l, r.doc.size ≤ 40) (hp : 1 ≤ p.size ∧ p.size ≤ 16) :
    Calls Try.prog 68 #[.pointer (some ⟨x, 6, none⟩), .string p] w fun e w' => ∃ u, e = .returned u ∧ OwnO w' w.heap.size u (Lx.fnd l p.data.toList) ∧ Below w.heap.size w w' := by
  obtain ⟨i0, hi, hz0, hz1, hz2⟩ := info_parts Try.info44
  obtain ⟨ao, cap, e1, hc⟩ := h.runs.any
  have g7 := h.box.g7
  rw [e1] at g7
  have HC : Hid (∀ k r, l[k]? = some r → ∃ g, ao = some (⟨g, 0, none⟩ : Addr) ∧ w.cell? ⟨g, k * 3, none⟩ = some (.int .i64 (r.id : Int)) ∧ w.cell? ⟨g, k * 3 + 1, none⟩ = some (.int .i64 (r.at' : Int)) ∧ w.cell? ⟨g, k * 3 + 2, none⟩ = some (.string r.rest)) := hc
  have HS : Hid (Lx.Sorted l) := hs
  have HA := lexAhead_any x b l p w h hs hl
  have HDD : Hid (∀ r ∈ l, r.doc.size ≤ 40) := hd
  clear h hs hc e1 hd
  go_enter Try.func68, Try.ntmps68
  go_wp2_with fail
  refine HA.mono ?_
  rintro e w1 ⟨⟨a, rfl, HCut⟩, hb1⟩
  clear HA
  have HCt : Hid (Lx.Cut l p.data.toList a) := HCut
  have hal : a ≤ l.length := HCut.1
  clear HCut
  go_wp2_with fail
  go_loopw [5, 6] (fun u v wr => ∃ k : Nat, a ≤ k ∧ k ≤ l.length ∧ v = .int .i64 k ∧ OwnO wr w1.heap.size u (Lx.fnd (l.take k) p.data.toList) ∧ Below w1.heap.size w1 wr) (fun _ v _ => l.length - (intOf v).toNat)
  case atStart => exact ⟨a, Nat.le_refl _, hal, rfl, by rw [Lx.fnd_before l _ a HCt.out]; exact World.ownsRow_nil _ _ _ _, Below.refl _ _⟩
  case round =>
    obtain ⟨k, hak, hk, rfl, ho, hb⟩ := hrel
    have hbw := hb1.trans (hb.mono hb1.size)
    have hs1 := hb1.size
    have g7' := cell_later hbw g7
    have hfl := Lx.fnd_len l p.data.toList k
    by_cases hlt : k < l.length
    · obtain ⟨r, hr⟩ : ∃ r, l[k]? = some r := ⟨_, List.getElem?_eq_getElem hlt⟩
      obtain ⟨g, rfl, y0, y1, y2⟩ := HC.out k r hr
      have y0' := cell_later hbw y0
      have y1' := cell_later hbw y1
      have y2' := cell_later hbw y2
      obtain ⟨q, hq⟩ : ∃ q, Lx.begins p.data.toList r = q := ⟨_, rfl⟩
      have HR : Hid (l[k]? = some r) := hr
      have hrs : r.rest.size ≤ 40 := by have := HDD.out r (List.mem_of_getElem? hr); rw [Lx.rest_size]; omega
      have HST : Hid (∀ w, Calls Try.prog 69 #[.string r.rest, .string p, .int .i64 (0 : Int)] w fun e w' => e = .returned (.bool q) ∧ w' = w) := fun w => stands_at r.rest p 0 q (by rw [Lx.rest_bytes]; exact hq) w (by omega) (Nat.zero_le _) (by omega)
      cases q
      · have HD : Hid (Lx.fnd l p.data.toList = Lx.fnd (l.take k) p.data.toList) := Lx.fnd_stop l HS.out _ a HCt.out k r hak hr hq
        clear hr hq y0 y1 y2
        go_wp2_with fail
        refine (HST.out _).mono ?_
        rintro e w5 ⟨rfl, hw5⟩; rw [hw5]; clear hw5
        go_wp2_with fail
        go_ret
        exact ⟨_, rfl, by rw [HD.out]; exact OwnO.weaken (World.ownsRow.alloc ho _) hs1, hbw.alloc hbw.size _⟩
      · have HD : Hid (Lx.fnd (l.take (k + 1)) p.data.toList = Lx.fnd (l.take k) p.data.toList ++ [Lx.hit r]) := Lx.fnd_hit l _ k r hr hq
        clear hr hq y0 y1 y2
        generalize Lx.fnd (l.take k) p.data.toList = M at *
        have ho2 : OwnO (wr.alloc (.cells #[.int .i64 (r.id : Int), .int .i64 (r.at' : Int), .string r.rest] 159)) w1.heap.size u5 M := World.ownsRow.alloc ho _
        have hb2 : Below w1.heap.size w1 (wr.alloc (.cells #[.int .i64 (r.id : Int), .int .i64 (r.at' : Int), .string r.rest] 159)) := hb.alloc hb.size _
        go_wp2_with fail
        refine (HST.out _).mono ?_
        rintro e w5 ⟨rfl, hw5⟩; rw [hw5]; clear hw5
        go_wp2_with (at_builtin; refine wpList_append_own _ rfl _ _ 31 rfl w1.heap.size 44 i0 (.agg #[.int .i64 0, .int .i64 0]) 2 16 Try.underlying31 hi hz0 hz1 hz2 rfl (by decide) _ _ _ rfl (World.ownsRow.alloc ho2 _) ⟨wr.heap.size + 1, 0, none⟩ 1 1 (OC1 (Lx.hit r)) rfl rfl (news_two wr _ #[.int .i64 (r.id : Int), .int .i64 (r.at' : Int)] _) (by intro u hu2; simp [OC1] at hu2; rcases hu2 with rfl | rfl <;> rfl) (by unfold maxLen; omega) (by omega) (by have := hb2.size; simp at this ⊢; omega) ?_; intro v' w3 hown3 hgrow3 _)
        have R := oc_more (b := Lx.hit r) ho2 hb2 hb2.size hown3 hgrow3
        clear hown3 hgrow3 ho2 hb2 ho hb
        go_wp2
        go_roundw
        case rel => exact ⟨k + 1, by omega, by omega, by go_num, by rw [HD.out]; exact R.1, R.2⟩
        case measure => simp [intOf]; omega
    · have hke : k = l.length := by omega
      subst hke
      have HD : Hid (Lx.fnd (l.take l.length) p.data.toList = Lx.fnd l p.data.toList) := (Lx.fnd_all l _).symm
      rw [HD.out] at ho
      go_wp2_with fail
      go_ret
      exact ⟨_, rfl, ho.weaken hs1, hbw⟩

end Go.Proofs.Ythkndfkkgncjfab

namespace Go.Proofs.Ythkndfkkgncjfab.Do

def above (L : List Chg) (t : Int) : List Chg := L.filter fun c => decide (t < (c.id : Int))
theorem idsTo_eq (L : List Chg) (t : Int) (m : Nat) : ∀ k, k ≤ L.length → idsTo L t m k = ((above (L.take k) t).map (·.id)).take m
  | 0, _ => by simp [idsTo, above]
  | k + 1, hk => by
    have ih := idsTo_eq L t m k (by omega)
    have hc : L[k]? = some L[k] := List.getElem?_eq_getElem (by omega)
    have e : above (L.take (k + 1)) t = above (L.take k) t ++ above [L[k]] t := by
      unfold above; rw [List.take_succ_eq_append_getElem (by omega), List.filter_append]
    rw [e, List.map_append]
    generalize hF : (above (L.take k) t).map (·.id) = F at *
    by_cases h1 : t < (L[k].id : Int)
    · have e2 : above [L[k]] t = [L[k]] := by simp [above, h1]
      rw [e2]
      by_cases h2 : (idsTo L t m k).length < m
      · rw [idsTo_hit L t m k _ hc h1 h2, ih]
        rw [ih, List.length_take] at h2
        rw [List.take_of_length_le (by omega), List.take_of_length_le (by simp; omega)]
        rfl
      · rw [idsTo_miss L t m k _ hc (fun h => h2 h.2), ih]
        rw [ih, List.length_take] at h2
        rw [List.take_append_of_le_length (by omega)]
    · have e2 : above [L[k]] t = [] := by simp [above, h1]
      rw [e2, idsTo_miss L t m k _ hc (fun h => h1 h.1), ih]
      simp
theorem ids_eq (L : List Chg) (t : Int) (m : Nat) : ids L t m = ((above L t).map (·.id)).take m := by
  unfold ids
  rw [idsTo_eq L t m L.length (Nat.le_refl _), List.take_length]
theorem above_start (L : List Chg) : above L (-1) = L := by
  unfold above
  rw [List.filter_eq_self]
  intro c _
  rw [decide_eq_true_eq]; omega
theorem above_next (L : List Chg) (h : L.Pairwise fun c d => c.id < d.id) (j : Nat) (c : Chg) (hc : L[j]? = some c) : above L (c.id : Int) = L.drop (j + 1) := by
  have hj : j < L.length := by
    rcases Nat.lt_or_ge j L.length with h | h
    · exact h
    · rw [List.getElem?_eq_none h] at hc; cases hc
  have hc' : L[j] = c := by rw [List.getElem?_eq_getElem hj] at hc; simpa using hc
  have hp := List.pairwise_iff_getElem.1 h
  unfold above
  conv => lhs; rw [← List.take_append_drop (j + 1) L]
  rw [List.filter_append]
  have e1 : (L.take (j + 1)).filter (fun d => decide ((c.id : Int) < (d.id : Int))) = [] := by
    rw [List.filter_eq_nil_iff]
    intro q hq
    obtain ⟨i, hi, rfl⟩ := List.mem_iff_getElem.1 hq
    rw [List.length_take] at hi
    rw [List.getElem_take, decide_eq_true_eq]
    rcases Nat.lt_or_ge i j with h1 | h1
    · have := hp i j (by omega) hj h1
      rw [hc'] at this; omega
    · have : i = j := by omega
      subst this
      rw [hc']; omega
  have e2 : (L.drop (j + 1)).filter (fun d => decide ((c.id : Int) < (d.id : Int))) = L.drop (j + 1) := by
    rw [List.filter_eq_self]
    intro q hq
    obtain ⟨i, hi, rfl⟩ := List.mem_iff_getElem.1 hq
    rw [List.length_drop] at hi
    rw [List.getElem_drop, decide_eq_true_eq]
    have := hp j (j + 1 + i) hj (by omega) (by omega)
    rw [hc'] at this; omega
  rw [e1, e2]; rfl
theorem at_rise (L : List Chg) (h : L.Pairwise fun c d => c.id < d.id) (i : Nat) (c : Chg) (hc : L[i]? = some c) : at? L (c.id : Int) = some i :=
  at_some L _ i c hc (by simp) fun j d hj hd => by
    have := rise_get L h j i d c hd hc hj
    rw [beq_eq_false_iff_ne]; omega
theorem at_next (L : List Chg) (N : Nat) (h : ∀ c ∈ L, c.id < N) : at? L (N : Int) = none :=
  at_none L _ fun j c hc => by
    have := h c (List.mem_of_getElem? hc)
    rw [beq_eq_false_iff_ne]; omega

end Go.Proofs.Ythkndfkkgncjfab.Do
