/- Walks of the desk: pick, config, opened, seated, step. -/
import Derived.Test.YtpikkedeoebiaaaDeskC
import Derived.Deep.RegionHeld3
namespace Go.Proofs.Ytpikkedeoebiaaa
open Go.RowKit
set_option maxRecDepth 100000

/-- which of n things a raw number speaks of -/
def pickN (c : Int) (n : Nat) : Nat := (if c < 0 then -(c + 1) else c).toNat % n
theorem pickN_lt (c : Int) (n : Nat) (h : 0 < n) : pickN c n < n := Nat.mod_lt _ h
theorem pickN_eq (c : Int) (n : Nat) : ((if c < 0 then -(c + 1) else c).tmod n) = (pickN c n : Int) := by
  have h0 : 0 ≤ (if c < 0 then -(c + 1) else c) := by split <;> omega
  unfold pickN
  generalize (if c < 0 then -(c + 1) else c) = d at *
  obtain ⟨m, rfl⟩ := Int.eq_ofNat_of_zero_le h0
  rw [Int.tmod_eq_emod_of_nonneg (by omega)]; rfl
theorem kpick_any (c : Int) (n : Nat) (hc : inR c) (hn : 0 < n) (hn2 : n ≤ 2000000000000) (w : World) :
    Calls Try.prog 29 #[.int .i64 c, .int .i64 (n : Int)] w fun e w' => e = .returned (.int .i64 (pickN c n : Int)) ∧ w' = w := by
  obtain ⟨hc1, hc2⟩ := hc
  have he := pickN_eq c n
  by_cases h : c < 0
  · rw [if_pos h] at he
    go_enter Try.func29, Try.ntmps29
    go_wp2
    go_ret
    exact ⟨rfl, rfl⟩
  · rw [if_neg h] at he
    go_enter Try.func29, Try.ntmps29
    go_wp2
    go_ret
    exact ⟨rfl, rfl⟩

set_option maxHeartbeats 1000000 in
theorem kconf_any (a b p : Int) (ha : inR a) (hb : inR b) (hp : inR p) (w : World) :
    Calls Try.prog 51 #[.agg #[.int .i64 a, .int .i64 b, .int .i64 p]] w fun e w' => e = .returned (.agg #[.int .i64 (1 + (pickN a 400 : Int)), .int .i64 (1 + (pickN b 80 : Int)), .int .i64 (1 + (pickN p 8 : Int))]) ∧ Below w.heap.size w w' := by
  have P1 := kpick_any a 400 ha (by omega) (by omega)
  have P2 := kpick_any b 80 hb (by omega) (by omega)
  have P3 := kpick_any p 8 hp (by omega) (by omega)
  have q1 := pickN_lt a 400 (by omega)
  have q2 := pickN_lt b 80 (by omega)
  have q3 := pickN_lt p 8 (by omega)
  generalize pickN a 400 = k1 at *
  generalize pickN b 80 = k2 at *
  generalize pickN p 8 = k3 at *
  have w1 : IntKind.i64.wrap (1 + (k1 : Int)) = 1 + (k1 : Int) := by rw [IntKind.wrap_i64]; omega
  have w2 : IntKind.i64.wrap (1 + (k2 : Int)) = 1 + (k2 : Int) := by rw [IntKind.wrap_i64]; omega
  have w3 : IntKind.i64.wrap (1 + (k3 : Int)) = 1 + (k3 : Int) := by rw [IntKind.wrap_i64]; omega
  go_enter Try.func51, Try.ntmps51
  go_wp2_with fail
  have y := World.news_of_block (Below.heap_alloc (w.alloc (.cells #[.int .i64 a, .int .i64 b, .int .i64 p] 51)) (.cells #[.int .i64 0, .int .i64 0, .int .i64 0] 51) w.heap.size (by simp) |>.trans (heap_alloc_new w (.cells #[.int .i64 a, .int .i64 b, .int .i64 p] 51)))
  have y0 : ((w.alloc (.cells #[.int .i64 a, .int .i64 b, .int .i64 p] 51)).alloc (.cells #[.int .i64 0, .int .i64 0, .int .i64 0] 51)).cell? ⟨w.heap.size, 0, none⟩ = some (.int .i64 a) := y 0 _ rfl
  have y1 : ((w.alloc (.cells #[.int .i64 a, .int .i64 b, .int .i64 p] 51)).alloc (.cells #[.int .i64 0, .int .i64 0, .int .i64 0] 51)).cell? ⟨w.heap.size, 1, none⟩ = some (.int .i64 b) := y 1 _ rfl
  have y2 : ((w.alloc (.cells #[.int .i64 a, .int .i64 b, .int .i64 p] 51)).alloc (.cells #[.int .i64 0, .int .i64 0, .int .i64 0] 51)).cell? ⟨w.heap.size, 2, none⟩ = some (.int .i64 p) := y 2 _ rfl
  clear y
  have hblk : ((w.alloc (.cells #[.int .i64 a, .int .i64 b, .int .i64 p] 51)).alloc (.cells #[.int .i64 0, .int .i64 0, .int .i64 0] 51)).heap[w.heap.size + 1]? = some (.cells #[.int .i64 0, .int .i64 0, .int .i64 0] 51 (0, 0)) := by
    have := heap_alloc_new (w.alloc (.cells #[.int .i64 a, .int .i64 b, .int .i64 p] 51)) (.cells #[.int .i64 0, .int .i64 0, .int .i64 0] 51)
    simpa using this
  have hb0 : Below w.heap.size w ((w.alloc (.cells #[.int .i64 a, .int .i64 b, .int .i64 p] 51)).alloc (.cells #[.int .i64 0, .int .i64 0, .int .i64 0] 51)) := ((Below.refl _ _).alloc (Nat.le_refl _) _).alloc (by simp) _
  generalize (w.alloc (.cells #[.int .i64 a, .int .i64 b, .int .i64 p] 51)).alloc (.cells #[.int .i64 0, .int .i64 0, .int .i64 0] 51) = wa at *
  refine wp_region_held_drew (S := fun w' => w'.cell? ⟨w.heap.size, 0, none⟩ = some (.int .i64 a) ∧ w'.cell? ⟨w.heap.size, 1, none⟩ = some (.int .i64 b) ∧ w'.cell? ⟨w.heap.size, 2, none⟩ = some (.int .i64 p)) (by kernel_rfl) ⟨y0, y1, y2⟩ (fun hHeld => ?_)
  refine wpAnyH_take (i := 0) (v := ?a0) rfl (by kernel_rfl) (by kernel_rfl) (by kernel_rfl) (fun _ _ _ h => h) (Or.inl ⟨by rfl, ?hya0⟩) (by assumption) ?resta0
  case hya0 => intro w hSw; (try dsimp only at hSw); go_simp; (try with_reducible rfl)
  simp only [Act.put]
  refine wpAnyH_take (i := 1) (v := ?a1) rfl (by kernel_rfl) (by kernel_rfl) (by kernel_rfl) (fun _ _ _ h => h) (Or.inl ⟨by rfl, ?hya1⟩) (by assumption) ?resta1
  case hya1 => intro w hSw; (try dsimp only at hSw); go_simp; (try with_reducible rfl)
  simp only [Act.put]
  refine wpAnyH_take (i := 4) (v := ?a4) rfl (by kernel_rfl) (by kernel_rfl) (by kernel_rfl) (fun _ _ _ h => h) (Or.inl ⟨by rfl, ?hya4⟩) (by assumption) ?resta4
  case hya4 => intro w hSw; (try dsimp only at hSw); go_simp; (try with_reducible rfl)
  simp only [Act.put]
  refine wpAnyH_take (i := 5) (v := ?a5) rfl (by kernel_rfl) (by kernel_rfl) (by kernel_rfl) (fun _ _ _ h => h) (Or.inl ⟨by rfl, ?hya5⟩) (by assumption) ?resta5
  case hya5 => intro w hSw; (try dsimp only at hSw); go_simp; (try with_reducible rfl)
  simp only [Act.put]
  refine wpAnyH_take (i := 8) (v := ?a8) rfl (by kernel_rfl) (by kernel_rfl) (by kernel_rfl) (fun _ _ _ h => h) (Or.inl ⟨by rfl, ?hya8⟩) (by assumption) ?resta8
  case hya8 => intro w hSw; (try dsimp only at hSw); go_simp; (try with_reducible rfl)
  simp only [Act.put]
  refine wpAnyH_take (i := 9) (v := ?a9) rfl (by kernel_rfl) (by kernel_rfl) (by kernel_rfl) (fun _ _ _ h => h) (Or.inl ⟨by rfl, ?hya9⟩) (by assumption) ?resta9
  case hya9 => intro w hSw; (try dsimp only at hSw); go_simp; (try with_reducible rfl)
  simp only [Act.put]
  refine wpAnyH_ready (rs := [2]) (by kernel_rfl) (by simp) ?_
  refine AllReadyH.cons rfl (fun K hK => ?_) AllReadyH.nil
  go_simp
  refine (P1 _).mono ?_
  rintro e up ⟨rfl, hup⟩
  rw [hup]
  clear hup
  refine hK.out _ _ (by exact hHeld) (fun hHeld => ?_)
  clear hK K
  refine wpAnyH_take (i := 3) (v := ?cp3) rfl (by kernel_rfl) (by kernel_rfl) (by kernel_rfl) (fun _ _ _ h => h) (Or.inl ⟨by rfl, ?hycp3⟩) (by assumption) ?restcp3
  case hycp3 => intro w hSw; (try dsimp only at hSw); go_simp; (try with_reducible rfl)
  simp only [Act.put]
  refine wpAnyH_ready (rs := [6]) (by kernel_rfl) (by simp) ?_
  refine AllReadyH.cons rfl (fun K hK => ?_) AllReadyH.nil
  go_simp
  refine (P2 _).mono ?_
  rintro e uq ⟨rfl, huq⟩
  rw [huq]
  clear huq
  refine hK.out _ _ (by exact hHeld) (fun hHeld => ?_)
  clear hK K
  refine wpAnyH_take (i := 7) (v := ?cq7) rfl (by kernel_rfl) (by kernel_rfl) (by kernel_rfl) (fun _ _ _ h => h) (Or.inl ⟨by rfl, ?hycq7⟩) (by assumption) ?restcq7
  case hycq7 => intro w hSw; (try dsimp only at hSw); go_simp; (try with_reducible rfl)
  simp only [Act.put]
  refine wpAnyH_ready (rs := [10]) (by kernel_rfl) (by simp) ?_
  refine AllReadyH.cons rfl (fun K hK => ?_) AllReadyH.nil
  go_simp
  refine (P3 _).mono ?_
  rintro e ur ⟨rfl, hur⟩
  rw [hur]
  clear hur
  refine hK.out _ _ (by exact hHeld) (fun hHeld => ?_)
  clear hK K
  refine wpAnyH_take (i := 11) (v := ?cr11) rfl (by kernel_rfl) (by kernel_rfl) (by kernel_rfl) (fun _ _ _ h => h) (Or.inl ⟨by rfl, ?hycr11⟩) (by assumption) ?restcr11
  case hycr11 => intro w hSw; (try dsimp only at hSw); go_simp; (try with_reducible rfl)
  simp only [Act.put]
  refine wpAnyH_take (i := 12) (v := ?cr12) rfl (by kernel_rfl) (by kernel_rfl) (by kernel_rfl) (fun _ _ _ h => h) (Or.inl ⟨by rfl, ?hycr12⟩) (by assumption) ?restcr12
  case hycr12 => intro w hSw; (try dsimp only at hSw); go_simp; (try with_reducible rfl)
  simp only [Act.put]
  refine wpAnyH_ready (rs := [13]) (by kernel_rfl) (by simp) ?_
  refine AllReadyH.cons rfl (fun K hK => ?_) AllReadyH.nil
  have r0 : wa.cell? ⟨w.heap.size + 1, 0, none⟩ = some (.int .i64 0) := by rw [cell_of_row wa _ 0 _ 51 (0, 0) hblk]; rfl
  have r1 : wa.cell? ⟨w.heap.size + 1, 1, none⟩ = some (.int .i64 0) := by rw [cell_of_row wa _ 1 _ 51 (0, 0) hblk]; rfl
  have r2 : wa.cell? ⟨w.heap.size + 1, 2, none⟩ = some (.int .i64 0) := by rw [cell_of_row wa _ 2 _ 51 (0, 0) hblk]; rfl
  have g0 : ∀ j, wa.frozen? ⟨w.heap.size + 1, j, none⟩ = false := fun j => frozen_of_row wa _ j _ 51 hblk
  have g00 := g0 0
  have g01 := g0 1
  have g02 := g0 2
  go_simp
  have hset : (((wa.setCell ⟨w.heap.size + 1, 0, none⟩ (.int .i64 (1 + (k1 : Int)))).setCell ⟨w.heap.size + 1, 1, none⟩ (.int .i64 (1 + (k2 : Int)))).setCell ⟨w.heap.size + 1, 2, none⟩ (.int .i64 (1 + (k3 : Int)))).heap[w.heap.size + 1]? = some (.cells #[.int .i64 (1 + (k1 : Int)), .int .i64 (1 + (k2 : Int)), .int .i64 (1 + (k3 : Int))] 51 (0, 0)) := by
    have s1 := (heap_setCell_same wa (w.heap.size + 1) 0 _ 51 (.int .i64 (1 + (k1 : Int))) hblk)
    have s2 := (heap_setCell_same _ (w.heap.size + 1) 1 _ 51 (.int .i64 (1 + (k2 : Int))) s1)
    have s3 := (heap_setCell_same _ (w.heap.size + 1) 2 _ 51 (.int .i64 (1 + (k3 : Int))) s2)
    exact s3
  have hkeep : ∀ k, k ≠ w.heap.size + 1 → (((wa.setCell ⟨w.heap.size + 1, 0, none⟩ (.int .i64 (1 + (k1 : Int)))).setCell ⟨w.heap.size + 1, 1, none⟩ (.int .i64 (1 + (k2 : Int)))).setCell ⟨w.heap.size + 1, 2, none⟩ (.int .i64 (1 + (k3 : Int)))).heap[k]? = wa.heap[k]? := fun k hk => by
    rw [Below.heap_setCell _ ⟨w.heap.size + 1, 2, none⟩ _ k hk, Below.heap_setCell _ ⟨w.heap.size + 1, 1, none⟩ _ k hk, Below.heap_setCell _ ⟨w.heap.size + 1, 0, none⟩ _ k hk]
  have hb9 : Below w.heap.size w (((wa.setCell ⟨w.heap.size + 1, 0, none⟩ (.int .i64 (1 + (k1 : Int)))).setCell ⟨w.heap.size + 1, 1, none⟩ (.int .i64 (1 + (k2 : Int)))).setCell ⟨w.heap.size + 1, 2, none⟩ (.int .i64 (1 + (k3 : Int)))) := ((hb0.setCell (p := ⟨w.heap.size + 1, 0, none⟩) (by show w.heap.size ≤ w.heap.size + 1; omega) _).setCell (p := ⟨w.heap.size + 1, 1, none⟩) (by show w.heap.size ≤ w.heap.size + 1; omega) _).setCell (p := ⟨w.heap.size + 1, 2, none⟩) (by show w.heap.size ≤ w.heap.size + 1; omega) _
  generalize ((wa.setCell ⟨w.heap.size + 1, 0, none⟩ (.int .i64 (1 + (k1 : Int)))).setCell ⟨w.heap.size + 1, 1, none⟩ (.int .i64 (1 + (k2 : Int)))).setCell ⟨w.heap.size + 1, 2, none⟩ (.int .i64 (1 + (k3 : Int))) = wz at *
  have S9 : wz.drew.cell? ⟨w.heap.size, 0, none⟩ = some (.int .i64 a) ∧ wz.drew.cell? ⟨w.heap.size, 1, none⟩ = some (.int .i64 b) ∧ wz.drew.cell? ⟨w.heap.size, 2, none⟩ = some (.int .i64 p) := by
    have hk := hkeep w.heap.size (by omega)
    exact ⟨(World.cell?_of_block (a := ⟨w.heap.size, 0, none⟩) hk).trans y0, (World.cell?_of_block (a := ⟨w.heap.size, 1, none⟩) hk).trans y1, (World.cell?_of_block (a := ⟨w.heap.size, 2, none⟩) hk).trans y2⟩
  refine hK.out _ _ S9 (fun _ => ?_)
  clear hK K
  refine wpAnyH_done (by kernel_rfl) ?_ _
  have z0 : wz.drew.cell? ⟨w.heap.size + 1, 0, none⟩ = some (.int .i64 (1 + (k1 : Int))) := by rw [cell_of_row wz.drew _ 0 _ 51 (0, 0) hset]; rfl
  have z1 : wz.drew.cell? ⟨w.heap.size + 1, 1, none⟩ = some (.int .i64 (1 + (k2 : Int))) := by rw [cell_of_row wz.drew _ 1 _ 51 (0, 0) hset]; rfl
  have z2 : wz.drew.cell? ⟨w.heap.size + 1, 2, none⟩ = some (.int .i64 (1 + (k3 : Int))) := by rw [cell_of_row wz.drew _ 2 _ 51 (0, 0) hset]; rfl
  go_wp2
  refine bodyPost_ret (by simp [results, Try.results51, go_sem, z0, z1, z2]; try rfl) rfl ?_
  exact ⟨rfl, hb9.drew⟩

set_option maxHeartbeats 400000 in
theorem kopened_any {M : Nat} {At : World → Nat → Int → Int → Int → List Do.Chg → (Nat → Prop) → Prop} (hC : Keeps M At 67 73 74 28 34 36 56 35) (a b p : Int) (w : World) (hc : okc a b p) :
    Calls Try.prog 52 #[.agg #[.int .i64 a, .int .i64 b, .int .i64 p]] w fun e w' => ∃ x F, e = .returned (.pointer (some ⟨x, 0, none⟩)) ∧ At w' x a b p [] F ∧ (∀ k, F k → w.heap.size ≤ k) ∧ Below w.heap.size w w' := by
  go_enter Try.func52, Try.ntmps52
  go_wp2_with fail
  have hb0 : Below w.heap.size w (w.alloc (.cells #[.int .i64 a, .int .i64 b, .int .i64 p] 51)) := (Below.refl _ _).alloc (Nat.le_refl _) _
  refine (hC.new_ok a b p _ hc).mono ?_
  rintro e w1 ⟨x, F, rfl, hx, hF, hb1⟩
  have hs : (w.alloc (.cells #[.int .i64 a, .int .i64 b, .int .i64 p] 51)).heap.size = w.heap.size + 1 := by simp
  go_wp2_with fail
  go_ret
  exact ⟨x, F, rfl, hx, fun k hk => by have := hF k hk; omega, hb0.trans (hb1.mono (by omega))⟩

/-- the configuration that comes of a raw one -/
def cA (a : Int) : Int := 1 + (pickN a 400 : Int)
def cB (a : Int) : Int := 1 + (pickN a 80 : Int)
def cP (a : Int) : Int := 1 + (pickN a 8 : Int)
theorem conf_ok (a b p : Int) : okc (cA a) (cB b) (cP p) := by
  have q1 := pickN_lt a 400 (by omega)
  have q2 := pickN_lt b 80 (by omega)
  have q3 := pickN_lt p 8 (by omega)
  unfold okc cA cB cP
  omega

set_option maxHeartbeats 1000000 in
theorem kseated_any {M : Nat} {At : World → Nat → Int → Int → Int → List Do.Chg → (Nat → Prop) → Prop} (hC : Keeps M At 67 73 74 28 34 36 56 35) (a b p : Int) (ha : inR a) (hb : inR b) (hp : inR p) (w : World) :
    Calls Try.prog 26 #[.agg #[.int .i64 a, .int .i64 b, .int .i64 p]] w fun e w' => ∃ dk G, e = .returned (.pointer (some ⟨dk, 0, none⟩)) ∧ Desk At w' dk (cA a) (cB b) (cP p) [] 0 G ∧ (∀ k, G k → w.heap.size ≤ k) ∧ Below w.heap.size w w' := by
  have hc := conf_ok a b p
  have HK := kconf_any a b p ha hb hp
  have HK' : ∀ (w : World), Calls Try.prog 51 #[.agg #[.int .i64 a, .int .i64 b, .int .i64 p]] w fun e w' => e = .returned (.agg #[.int .i64 (cA a), .int .i64 (cB b), .int .i64 (cP p)]) ∧ Below w.heap.size w w' := HK
  clear HK
  generalize cA a = a1 at *
  generalize cB b = b1 at *
  generalize cP p = p1 at *
  go_enter Try.func26, Try.ntmps26
  go_wp2_with fail
  have hb0 : Below w.heap.size w (w.alloc (.cells #[.int .i64 a, .int .i64 b, .int .i64 p] 51)) := (Below.refl _ _).alloc (Nat.le_refl _) _
  have hs0 : (w.alloc (.cells #[.int .i64 a, .int .i64 b, .int .i64 p] 51)).heap.size = w.heap.size + 1 := by simp
  generalize w.alloc (.cells #[.int .i64 a, .int .i64 b, .int .i64 p] 51) = w0 at *
  refine (HK' _).mono ?_
  rintro e w1 ⟨rfl, hb1⟩
  have s1 := hb1.size
  clear HK'
  have y := World.news_of_block (heap_alloc_new w1 (.cells #[.int .i64 a1, .int .i64 b1, .int .i64 p1] 51))
  have y0 : (w1.alloc (.cells #[.int .i64 a1, .int .i64 b1, .int .i64 p1] 51)).cell? ⟨w1.heap.size, 0, none⟩ = some (.int .i64 a1) := y 0 _ rfl
  have y1 : (w1.alloc (.cells #[.int .i64 a1, .int .i64 b1, .int .i64 p1] 51)).cell? ⟨w1.heap.size, 1, none⟩ = some (.int .i64 b1) := y 1 _ rfl
  have y2 : (w1.alloc (.cells #[.int .i64 a1, .int .i64 b1, .int .i64 p1] 51)).cell? ⟨w1.heap.size, 2, none⟩ = some (.int .i64 p1) := y 2 _ rfl
  have hs2 : (w1.alloc (.cells #[.int .i64 a1, .int .i64 b1, .int .i64 p1] 51)).heap.size = w1.heap.size + 1 := by simp
  have hb2 : Below w.heap.size w (w1.alloc (.cells #[.int .i64 a1, .int .i64 b1, .int .i64 p1] 51)) := (hb0.trans (hb1.mono (by omega))).alloc (by omega) _
  clear y
  go_wp2_with fail
  generalize w1.alloc (.cells #[.int .i64 a1, .int .i64 b1, .int .i64 p1] 51) = w2 at *
  refine (kopened_any hC a1 b1 p1 _ hc).mono ?_
  rintro e w3 ⟨x, F, rfl, hx, hF, hb3⟩
  have s3 := hb3.size
  have z0 := (hb3.cell (p := ⟨w1.heap.size, 0, none⟩) (by show w1.heap.size < w2.heap.size; omega)).trans y0
  have z1 := (hb3.cell (p := ⟨w1.heap.size, 1, none⟩) (by show w1.heap.size < w2.heap.size; omega)).trans y1
  have z2 := (hb3.cell (p := ⟨w1.heap.size, 2, none⟩) (by show w1.heap.size < w2.heap.size; omega)).trans y2
  clear y0 y1 y2
  go_wp2_with fail
  go_ret
  have hblk := heap_alloc_new w3 (.cells #[.pointer (some ⟨x, 0, none⟩), .int .i64 a1, .int .i64 b1, .int .i64 p1, .slice none 0 0, .slice none 0 0, .int .i64 0, .int .i64 0, .int .i64 0] 61)
  have hba : Below w3.heap.size w3 (w3.alloc (.cells #[.pointer (some ⟨x, 0, none⟩), .int .i64 a1, .int .i64 b1, .int .i64 p1, .slice none 0 0, .slice none 0 0, .int .i64 0, .int .i64 0, .int .i64 0] 61)) := (Below.refl _ _).alloc (Nat.le_refl _) _
  have hFl := hC.lt hx
  refine ⟨w3.heap.size, fun k => F k ∨ k = w3.heap.size, rfl, ⟨x, .slice none 0 0, .slice none 0 0, F, ?_⟩, fun k hk => ?_, (hb2.trans (hb3.mono (by omega))).trans (hba.mono (by omega))⟩
  · exact {
      blk := hblk
      ri := World.ownsRow_nil _ _ _ _
      rd := World.ownsRow_nil _ _ _ _
      idx := hC.frame hx hba.size fun k hk => hba.block k (hFl k hk)
      fair := Fair.nil
      conf := hc
      nd := fun hf => by have := hFl _ hf; omega
      ni := fun g hg => by simp [Value.ownBlock] at hg
      nv := fun g hg => by simp [Value.ownBlock] at hg
      gd := .inr rfl
      gf := fun k hk => .inl hk
      gi := fun g hg => by simp [Value.ownBlock] at hg
      gv := fun g hg => by simp [Value.ownBlock] at hg
      lt := fun k hk => by
        rcases hk with hk | rfl
        · have := hFl k hk; simp; omega
        · simp }
  · rcases hk with hk | rfl
    · have := hF k hk; omega
    · omega

/-- a step of a desk's script -/
structure StV where
  k : Int
  a : Int
  s : ByteArray
def stV (o : StV) : Value := .agg #[.int .i64 o.k, .int .i64 o.a, .string o.s]
def StV.ok (o : StV) : Prop := inR o.k ∧ inR o.a ∧ o.s.size ≤ maxLen
/-- the changes behind a step -/
def stRes (a : Int) (cs : List Do.Chg) (o : StV) : List Do.Chg :=
  if o.k = 1 then (insRes cs a o.s).2.2 else if o.k = 2 then (if (Do.there cs).length = 0 then cs else (delRes cs ((((Do.there cs).map (·.id)).getD (pickN o.a (Do.there cs).length) 0 : Nat) : Int)).2) else if o.k = 3 then (delRes cs o.a).2 else cs
theorem stRes_len (a : Int) (cs : List Do.Chg) (o : StV) : (stRes a cs o).length ≤ cs.length + 1 := by
  unfold stRes
  split
  · exact insRes_len' _ _ _
  · split
    · split
      · omega
      · exact delRes_len' _ _
    · split
      · exact delRes_len' _ _
      · omega

section
variable {M : Nat} {At : World → Nat → Int → Int → Int → List Do.Chg → (Nat → Prop) → Prop} {w w' : World} {dk x : Nat} {a b p : Int} {cs : List Do.Chg} {mv : Int} {vi vd : Value} {F G : Nat → Prop}

theorem DeskIn.still (h : DeskIn At w dk x a b p cs mv vi vd F G) (hC : Keeps M At 67 73 74 28 34 36 56 35) (n : Int) : DeskIn At (w.setCell ⟨dk, 8, none⟩ (.int .i64 n)) dk x a b p cs n vi vd F G where
  blk := h.blk.set8 n
  ri := ownsRow_setCell_other (a := ⟨dk, 8, none⟩) h.ri (h.blk.apart h.ri (by decide)) _
  rd := ownsRow_setCell_other (a := ⟨dk, 8, none⟩) h.rd (h.blk.apart h.rd (by decide)) _
  idx := hC.frame h.idx (by simp) fun k hk => Below.heap_setCell w ⟨dk, 8, none⟩ _ k (fun e => h.nd (by have e' : k = dk := e; rw [← e']; exact hk))
  fair := h.fair
  conf := h.conf
  nd := h.nd
  ni := h.ni
  nv := h.nv
  gd := h.gd
  gf := h.gf
  gi := h.gi
  gv := h.gv
  lt k hk := by simpa using h.lt k hk

theorem Moved.after {w1 : World} {cs' : List Do.Chg} {mv' : Int} (ho : Only G w w1) (hm : Moved At dk a b p cs' mv' G w1 w') : Moved At dk a b p cs' mv' G w w' := by
  obtain ⟨h1, G', h2, h3⟩ := hm
  exact ⟨ho.trans h1, G', h2, fun k hk => (h3 k hk).imp (fun h => h) (fun h => by have := ho.size; omega)⟩
theorem DeskIn.moved (h : DeskIn At w dk x a b p cs mv vi vd F G) : Moved At dk a b p cs mv G w w := ⟨Only.refl _ _, G, ⟨x, vi, vd, F, h⟩, fun _ h => .inl h⟩

set_option maxHeartbeats 1000000 in
theorem dStep_any (hC : Keeps M At 67 73 74 28 34 36 56 35) (o : StV) (ho : o.ok) (hm : cs.length ≤ M) (hM : M ≤ 9000000000000000) (h : Desk At w dk a b p cs mv G) :
    Calls Try.prog 27 #[.pointer (some ⟨dk, 0, none⟩), stV o] w fun e w' => e = .returned (.bool true) ∧ ∃ mv', Moved At dk a b p (stRes a cs o) mv' G w w' := by
  obtain ⟨x, vi, vd, F, h⟩ := h
  obtain ⟨ok, oa, os⟩ := o
  obtain ⟨hk, ha, hs⟩ := ho
  dsimp only at hk ha hs
  have hs' : os.size ≤ 9223372036854775807 := by unfold maxLen at hs; omega
  unfold stV
  dsimp only
  have hst := h.still hC 0
  have hba : Below w.heap.size (w.setCell ⟨dk, 8, none⟩ (.int .i64 0)) ((w.setCell ⟨dk, 8, none⟩ (.int .i64 0)).alloc (.cells #[.int .i64 ok, .int .i64 oa, .string os] 57)) := (Below.refl _ _).alloc (by simp) _
  have hWO : Only G w ((w.setCell ⟨dk, 8, none⟩ (.int .i64 0)).alloc (.cells #[.int .i64 ok, .int .i64 oa, .string os] 57)) := (Only.setCell ⟨dk, 8, none⟩ _ h.gd).trans (Only.of_below (by simpa using hba))
  have hsz0 : (w.setCell ⟨dk, 8, none⟩ (.int .i64 0)).heap.size = w.heap.size := by simp
  have h1 : DeskIn At ((w.setCell ⟨dk, 8, none⟩ (.int .i64 0)).alloc (.cells #[.int .i64 ok, .int .i64 oa, .string os] 57)) dk x a b p cs 0 vi vd F G := hst.quiet hC (by rw [hsz0]; exact hba)
  have y := World.news_of_block (heap_alloc_new (w.setCell ⟨dk, 8, none⟩ (.int .i64 0)) (.cells #[.int .i64 ok, .int .i64 oa, .string os] 57))
  rw [hsz0] at y
  have y0 : ((w.setCell ⟨dk, 8, none⟩ (.int .i64 0)).alloc (.cells #[.int .i64 ok, .int .i64 oa, .string os] 57)).cell? ⟨w.heap.size, 0, none⟩ = some (.int .i64 ok) := y 0 _ rfl
  have y1 : ((w.setCell ⟨dk, 8, none⟩ (.int .i64 0)).alloc (.cells #[.int .i64 ok, .int .i64 oa, .string os] 57)).cell? ⟨w.heap.size, 1, none⟩ = some (.int .i64 oa) := y 1 _ rfl
  have y2 : ((w.setCell ⟨dk, 8, none⟩ (.int .i64 0)).alloc (.cells #[.int .i64 ok, .int .i64 oa, .string os] 57)).cell? ⟨w.heap.size, 2, none⟩ = some (.string os) := y 2 _ rfl
  have c8 := h.blk.c8
  have f8 := h.blk.free 8
  have hdk := h.lt dk h.gd
  have hne : w.heap.size ≠ dk := by omega
  clear y hst hba
  have HW : Hid (∀ cs' mv' w', Moved At dk a b p cs' mv' G ((w.setCell ⟨dk, 8, none⟩ (.int .i64 0)).alloc (.cells #[.int .i64 ok, .int .i64 oa, .string os] 57)) w' → Moved At dk a b p cs' mv' G w w') := fun _ _ _ hm => hm.after hWO
  clear hWO
  by_cases k1 : ok = 1
  · subst k1
    have e : stRes a cs ⟨1, oa, os⟩ = (insRes cs a os).2.2 := by unfold stRes; rw [if_pos rfl]
    rw [e]
    have HI : Hid (Calls Try.prog 53 #[.pointer (some ⟨dk, 0, none⟩), .string os] ((w.setCell ⟨dk, 8, none⟩ (.int .i64 0)).alloc (.cells #[.int .i64 1, .int .i64 oa, .string os] 57)) fun e w' => e = .returned (.bool true) ∧ Moved At dk a b p (insRes cs a os).2.2 (insMv cs a os 0) G ((w.setCell ⟨dk, 8, none⟩ (.int .i64 0)).alloc (.cells #[.int .i64 1, .int .i64 oa, .string os] 57)) w') := dInserts_any hC os hm hM hs' ⟨x, vi, vd, F, h1⟩
    clear h h1 e
    go_enter Try.func27, Try.ntmps27
    go_wp2_with fail
    refine HI.out.mono ?_
    rintro e w1 ⟨rfl, hmo⟩
    go_wp2_with fail
    go_ret
    exact ⟨rfl, _, HW.out _ _ _ hmo⟩
  · have b1 : (ok == 1) = false := by simpa using k1
    by_cases k3 : ok = 3
    · subst k3
      have e : stRes a cs ⟨3, oa, os⟩ = (delRes cs oa).2 := by unfold stRes; rw [if_neg (by simp), if_neg (by simp), if_pos rfl]
      rw [e]
      have HI : Hid (Calls Try.prog 54 #[.pointer (some ⟨dk, 0, none⟩), .int .i64 oa] ((w.setCell ⟨dk, 8, none⟩ (.int .i64 0)).alloc (.cells #[.int .i64 3, .int .i64 oa, .string os] 57)) fun e w' => e = .returned (.bool true) ∧ Moved At dk a b p (delRes cs oa).2 (Do.movTo (Do.there cs) oa 0 (Do.there cs).length) G ((w.setCell ⟨dk, 8, none⟩ (.int .i64 0)).alloc (.cells #[.int .i64 3, .int .i64 oa, .string os] 57)) w') := dDeletes_any hC oa hm ha ⟨x, vi, vd, F, h1⟩
      clear h h1 e
      go_enter Try.func27, Try.ntmps27
      go_wp2_with fail
      refine HI.out.mono ?_
      rintro e w1 ⟨rfl, hmo⟩
      go_wp2_with fail
      go_ret
      exact ⟨rfl, _, HW.out _ _ _ hmo⟩
    · have b3 : (ok == 3) = false := by simpa using k3
      by_cases k2 : ok = 2
      · subst k2
        have c4 := h1.blk.c4
        obtain ⟨ai, ci, hvi, hri⟩ := row_any h1.ri
        rw [hvi] at c4
        have hfew := h.fair.few
        by_cases hz : (Do.there cs).length = 0
        · have e : stRes a cs ⟨2, oa, os⟩ = cs := by unfold stRes; rw [if_neg (by simp), if_pos rfl, if_pos hz]
          rw [e]
          have HM : Hid (Moved At dk a b p cs 0 G w ((w.setCell ⟨dk, 8, none⟩ (.int .i64 0)).alloc (.cells #[.int .i64 2, .int .i64 oa, .string os] 57))) := HW.out _ _ _ h1.moved
          rw [hz] at c4
          clear h h1 e hri hvi
          go_enter Try.func27, Try.ntmps27
          go_wp2_with fail
          go_ret
          exact ⟨rfl, _, HM.out⟩
        · have hpos : 0 < (Do.there cs).length := by omega
          obtain ⟨c, hc⟩ : ∃ c, (Do.there cs)[pickN oa (Do.there cs).length]? = some c := ⟨(Do.there cs)[pickN oa (Do.there cs).length]'(pickN_lt _ _ hpos), List.getElem?_eq_getElem _⟩
          have e : stRes a cs ⟨2, oa, os⟩ = (delRes cs (c.id : Int)).2 := by
            unfold stRes
            rw [if_neg (by simp), if_pos rfl, if_neg hz]
            simp [hc]
          rw [e]
          obtain ⟨gi, rfl, e4⟩ := hri (pickN oa (Do.there cs).length) (.int .i64 (c.id : Int)) (by simp [ID, hc])
          have hpk := kpick_any oa (Do.there cs).length ha hpos (by omega)
          have hplt := pickN_lt oa (Do.there cs).length hpos
          have hcid := h.fair.next c (List.mem_of_getElem? hc)
          have hit := insTo_le cs cs.length
          have HI : Hid (Calls Try.prog 54 #[.pointer (some ⟨dk, 0, none⟩), .int .i64 (c.id : Int)] ((w.setCell ⟨dk, 8, none⟩ (.int .i64 0)).alloc (.cells #[.int .i64 2, .int .i64 oa, .string os] 57)).drew fun e w' => e = .returned (.bool true) ∧ Moved At dk a b p (delRes cs (c.id : Int)).2 (Do.movTo (Do.there cs) c.id 0 (Do.there cs).length) G ((w.setCell ⟨dk, 8, none⟩ (.int .i64 0)).alloc (.cells #[.int .i64 2, .int .i64 oa, .string os] 57)).drew w') := dDeletes_any hC (c.id : Int) hm (by unfold inR; omega) ⟨x, vi, vd, F, h1.quiet hC ((Below.refl _ _).drew)⟩
          have hGw : ¬ G w.heap.size := fun hg => by have := h.lt _ hg; omega
          have HS : Hid (∀ w', Only G ((w.setCell ⟨dk, 8, none⟩ (.int .i64 0)).alloc (.cells #[.int .i64 2, .int .i64 oa, .string os] 57)).drew w' → w'.cell? ⟨w.heap.size, 1, none⟩ = some (.int .i64 oa)) := fun w' hon =>
            (World.cell?_of_block (a := ⟨w.heap.size, 1, none⟩) (hon.block w.heap.size (by simp) hGw)).trans y1
          have HDR : Hid (Only G ((w.setCell ⟨dk, 8, none⟩ (.int .i64 0)).alloc (.cells #[.int .i64 2, .int .i64 oa, .string os] 57)) ((w.setCell ⟨dk, 8, none⟩ (.int .i64 0)).alloc (.cells #[.int .i64 2, .int .i64 oa, .string os] 57)).drew) := Only.of_below ((Below.refl _ _).drew)
          have hn0 : decide ((0 : Int) < ((Do.there cs).length : Int)) = true := by rw [decide_eq_true_eq]; omega
          clear h h1 e hri hvi hc
          generalize pickN oa (Do.there cs).length = kk at *
          generalize hlen : (Do.there cs).length = len at *
          have hkl : (kk : Int) < (len : Int) := by omega
          go_enter Try.func27, Try.ntmps27
          go_wp2_with fail
          refine wp_region_held_drew (S := fun w' => w'.cell? ⟨w.heap.size, 1, none⟩ = some (.int .i64 oa)) (by kernel_rfl) y1 (fun hHeld => ?_)
          refine wpAnyH_take (i := 0) (v := ?t1_0) rfl (by kernel_rfl) (by kernel_rfl) (by kernel_rfl) (fun _ _ _ h => h) (Or.inl ⟨by rfl, ?hyt1_0⟩) (by assumption) ?restt1_0
          case hyt1_0 => intro w hSw; (try dsimp only at hSw); go_simp; (try with_reducible rfl)
          simp only [Act.put]
          refine wpAnyH_take (i := 1) (v := ?t1_1) rfl (by kernel_rfl) (by kernel_rfl) (by kernel_rfl) (fun _ _ _ h => h) (Or.inl ⟨by rfl, ?hyt1_1⟩) (by assumption) ?restt1_1
          case hyt1_1 => intro w hSw; (try dsimp only at hSw); go_simp; (try with_reducible rfl)
          simp only [Act.put]
          refine wpAnyH_take (i := 2) (v := ?t1_2) rfl (by kernel_rfl) (by kernel_rfl) (by kernel_rfl) (fun _ _ _ h => h) (Or.inl ⟨by rfl, ?hyt1_2⟩) (by assumption) ?restt1_2
          case hyt1_2 => intro w hSw; (try dsimp only at hSw); go_simp; (try with_reducible rfl)
          simp only [Act.put]
          refine wpAnyH_take (i := 3) (v := ?t1_3) rfl (by kernel_rfl) (by kernel_rfl) (by kernel_rfl) (fun _ _ _ h => h) (Or.inl ⟨by rfl, ?hyt1_3⟩) (by assumption) ?restt1_3
          case hyt1_3 => intro w hSw; (try dsimp only at hSw); go_simp; (try with_reducible rfl)
          simp only [Act.put]
          refine wpAnyH_take (i := 5) (v := ?t1_5) rfl (by kernel_rfl) (by kernel_rfl) (by kernel_rfl) (fun _ _ _ h => h) (Or.inl ⟨by rfl, ?hyt1_5⟩) (by assumption) ?restt1_5
          case hyt1_5 => intro w hSw; (try dsimp only at hSw); go_simp; (try with_reducible rfl)
          simp only [Act.put]
          refine wpAnyH_take (i := 6) (v := ?t1_6) rfl (by kernel_rfl) (by kernel_rfl) (by kernel_rfl) (fun _ _ _ h => h) (Or.inl ⟨by rfl, ?hyt1_6⟩) (by assumption) ?restt1_6
          case hyt1_6 => intro w hSw; (try dsimp only at hSw); go_simp; (try with_reducible rfl)
          simp only [Act.put]
          refine wpAnyH_take (i := 7) (v := ?t1_7) rfl (by kernel_rfl) (by kernel_rfl) (by kernel_rfl) (fun _ _ _ h => h) (Or.inl ⟨by rfl, ?hyt1_7⟩) (by assumption) ?restt1_7
          case hyt1_7 => intro w hSw; (try dsimp only at hSw); go_simp; (try with_reducible rfl)
          simp only [Act.put]
          refine wpAnyH_take (i := 8) (v := ?t1_8) rfl (by kernel_rfl) (by kernel_rfl) (by kernel_rfl) (fun _ _ _ h => h) (Or.inl ⟨by rfl, ?hyt1_8⟩) (by assumption) ?restt1_8
          case hyt1_8 => intro w hSw; (try dsimp only at hSw); go_simp; (try with_reducible rfl)
          simp only [Act.put]
          refine wpAnyH_take (i := 9) (v := ?t1_9) rfl (by kernel_rfl) (by kernel_rfl) (by kernel_rfl) (fun _ _ _ h => h) (Or.inl ⟨by rfl, ?hyt1_9⟩) (by assumption) ?restt1_9
          case hyt1_9 => intro w hSw; (try dsimp only at hSw); go_simp; (try with_reducible rfl)
          simp only [Act.put]
          refine wpAnyH_ready (rs := [4, 10]) (by kernel_rfl) (by simp) ?_
          refine AllReadyH.cons rfl (fun K hK => ?_) (AllReadyH.cons rfl (fun K hK => ?_) AllReadyH.nil)
          · go_simp
            refine hK.out _ _ (by exact hHeld) (fun hHeld => ?_)
            clear hK K
            refine wpAnyH_ready (rs := [10]) (by kernel_rfl) (by simp) ?_
            refine AllReadyH.cons rfl (fun K hK => ?_) AllReadyH.nil
            go_simp
            refine hK.out _ _ (by exact hHeld) (fun hHeld => ?_)
            clear hK K
            refine wpAnyH_take (i := 11) (v := ?t2_11) rfl (by kernel_rfl) (by kernel_rfl) (by kernel_rfl) (fun _ _ _ h => h) (Or.inl ⟨by rfl, ?hyt2_11⟩) (by assumption) ?restt2_11
            case hyt2_11 => intro w hSw; (try dsimp only at hSw); go_simp; (try with_reducible rfl)
            simp only [Act.put]
            refine wpAnyH_ready (rs := [12]) (by kernel_rfl) (by simp) ?_
            refine AllReadyH.cons rfl (fun K hK => ?_) AllReadyH.nil
            go_simp
            refine (hpk _).mono ?_
            rintro e up ⟨rfl, hup⟩
            rw [hup]
            clear hup
            refine hK.out _ _ (by exact hHeld) (fun hHeld => ?_)
            clear hK K
            refine wpAnyH_take (i := 13) (v := ?t3_13) rfl (by kernel_rfl) (by kernel_rfl) (by kernel_rfl) (fun _ _ _ h => h) (Or.inl ⟨by rfl, ?hyt3_13⟩) (by assumption) ?restt3_13
            case hyt3_13 => intro w hSw; (try dsimp only at hSw); go_simp; (try with_reducible rfl)
            simp only [Act.put]
            refine wpAnyH_ready (rs := [14]) (by kernel_rfl) (by simp) ?_
            refine AllReadyH.cons rfl (fun K hK => ?_) AllReadyH.nil
            go_simp
            refine hK.out _ _ (by exact hHeld) (fun hHeld => ?_)
            clear hK K
            refine wpAnyH_ready (rs := [15]) (by kernel_rfl) (by simp) ?_
            refine AllReadyH.cons rfl (fun K hK => ?_) AllReadyH.nil
            go_simp
            refine HI.out.mono ?_
            rintro e w1 ⟨rfl, hmo⟩
            refine hK.out _ _ (HS.out _ hmo.1) (fun hHeld => ?_)
            clear hK K
            refine wpAnyH_ready (rs := [16]) (by kernel_rfl) (by simp) ?_
            refine AllReadyH.cons rfl (fun K hK => ?_) AllReadyH.nil
            go_simp
            refine hK.out _ _ hHeld (fun hHeld => ?_)
            clear hK K
            refine wpAnyH_done (by kernel_rfl) ?_ _
            go_wp2
            go_ret
            exact ⟨rfl, _, HW.out _ _ _ (hmo.after HDR.out)⟩
          · go_simp
            refine hK.out _ _ (by exact hHeld) (fun hHeld => ?_)
            clear hK K
            refine wpAnyH_take (i := 11) (v := ?t5_11) rfl (by kernel_rfl) (by kernel_rfl) (by kernel_rfl) (fun _ _ _ h => h) (Or.inl ⟨by rfl, ?hyt5_11⟩) (by assumption) ?restt5_11
            case hyt5_11 => intro w hSw; (try dsimp only at hSw); go_simp; (try with_reducible rfl)
            simp only [Act.put]
            refine wpAnyH_ready (rs := [4, 12]) (by kernel_rfl) (by simp) ?_
            refine AllReadyH.cons rfl (fun K hK => ?_) (AllReadyH.cons rfl (fun K hK => ?_) AllReadyH.nil)
            · go_simp
              refine hK.out _ _ (by exact hHeld) (fun hHeld => ?_)
              clear hK K
              refine wpAnyH_ready (rs := [12]) (by kernel_rfl) (by simp) ?_
              refine AllReadyH.cons rfl (fun K hK => ?_) AllReadyH.nil
              go_simp
              refine (hpk _).mono ?_
              rintro e up ⟨rfl, hup⟩
              rw [hup]
              clear hup
              refine hK.out _ _ (by exact hHeld) (fun hHeld => ?_)
              clear hK K
              refine wpAnyH_take (i := 13) (v := ?t6_13) rfl (by kernel_rfl) (by kernel_rfl) (by kernel_rfl) (fun _ _ _ h => h) (Or.inl ⟨by rfl, ?hyt6_13⟩) (by assumption) ?restt6_13
              case hyt6_13 => intro w hSw; (try dsimp only at hSw); go_simp; (try with_reducible rfl)
              simp only [Act.put]
              refine wpAnyH_ready (rs := [14]) (by kernel_rfl) (by simp) ?_
              refine AllReadyH.cons rfl (fun K hK => ?_) AllReadyH.nil
              go_simp
              refine hK.out _ _ (by exact hHeld) (fun hHeld => ?_)
              clear hK K
              refine wpAnyH_ready (rs := [15]) (by kernel_rfl) (by simp) ?_
              refine AllReadyH.cons rfl (fun K hK => ?_) AllReadyH.nil
              go_simp
              refine HI.out.mono ?_
              rintro e w1 ⟨rfl, hmo⟩
              refine hK.out _ _ (HS.out _ hmo.1) (fun hHeld => ?_)
              clear hK K
              refine wpAnyH_ready (rs := [16]) (by kernel_rfl) (by simp) ?_
              refine AllReadyH.cons rfl (fun K hK => ?_) AllReadyH.nil
              go_simp
              refine hK.out _ _ hHeld (fun hHeld => ?_)
              clear hK K
              refine wpAnyH_done (by kernel_rfl) ?_ _
              go_wp2
              go_ret
              exact ⟨rfl, _, HW.out _ _ _ (hmo.after HDR.out)⟩
            · go_simp
              refine (hpk _).mono ?_
              rintro e up ⟨rfl, hup⟩
              rw [hup]
              clear hup
              refine hK.out _ _ (by exact hHeld) (fun hHeld => ?_)
              clear hK K
              refine wpAnyH_ready (rs := [4]) (by kernel_rfl) (by simp) ?_
              refine AllReadyH.cons rfl (fun K hK => ?_) AllReadyH.nil
              go_simp
              refine hK.out _ _ (by exact hHeld) (fun hHeld => ?_)
              clear hK K
              refine wpAnyH_take (i := 13) (v := ?t8_13) rfl (by kernel_rfl) (by kernel_rfl) (by kernel_rfl) (fun _ _ _ h => h) (Or.inl ⟨by rfl, ?hyt8_13⟩) (by assumption) ?restt8_13
              case hyt8_13 => intro w hSw; (try dsimp only at hSw); go_simp; (try with_reducible rfl)
              simp only [Act.put]
              refine wpAnyH_ready (rs := [14]) (by kernel_rfl) (by simp) ?_
              refine AllReadyH.cons rfl (fun K hK => ?_) AllReadyH.nil
              go_simp
              refine hK.out _ _ (by exact hHeld) (fun hHeld => ?_)
              clear hK K
              refine wpAnyH_ready (rs := [15]) (by kernel_rfl) (by simp) ?_
              refine AllReadyH.cons rfl (fun K hK => ?_) AllReadyH.nil
              go_simp
              refine HI.out.mono ?_
              rintro e w1 ⟨rfl, hmo⟩
              refine hK.out _ _ (HS.out _ hmo.1) (fun hHeld => ?_)
              clear hK K
              refine wpAnyH_ready (rs := [16]) (by kernel_rfl) (by simp) ?_
              refine AllReadyH.cons rfl (fun K hK => ?_) AllReadyH.nil
              go_simp
              refine hK.out _ _ hHeld (fun hHeld => ?_)
              clear hK K
              refine wpAnyH_done (by kernel_rfl) ?_ _
              go_wp2
              go_ret
              exact ⟨rfl, _, HW.out _ _ _ (hmo.after HDR.out)⟩
      · have b2 : (ok == 2) = false := by simpa using k2
        have e : stRes a cs ⟨ok, oa, os⟩ = cs := by unfold stRes; rw [if_neg k1, if_neg k2, if_neg k3]
        rw [e]
        have HM : Hid (Moved At dk a b p cs 0 G w ((w.setCell ⟨dk, 8, none⟩ (.int .i64 0)).alloc (.cells #[.int .i64 ok, .int .i64 oa, .string os] 57))) := HW.out _ _ _ h1.moved
        clear h h1 e k1 k2 k3
        go_enter Try.func27, Try.ntmps27
        go_wp2_with fail
        go_ret
        exact ⟨rfl, _, HM.out⟩
end

end Go.Proofs.Ytpikkedeoebiaaa
