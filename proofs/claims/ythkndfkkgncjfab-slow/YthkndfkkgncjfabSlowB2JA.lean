/- SlowB2. -/
import Derived.Test.YthkndfkkgncjfabSlowHJA
namespace Go.Proofs.Ythkndfkkgncjfab
open Go.RowKit
set_option maxRecDepth 100000

section
variable {M : Nat} {At : World → Nat → Int → Int → Int → List Do.Chg → (Nat → Prop) → Prop}

set_option maxHeartbeats 40000000 in
theorem slow_two (hC : Keeps M At 28 21 23 60 62 20 58 11) (hT : Tells M At 16) (hM : M ≤ 9000000000000000) (a b p : Int) (ha : inR a) (hb : inR b) (hp : inR p) (sv : Value) (len : Nat) (os : Nat → StV) (w : World) (hsc : Steps3 w sv len os) (hlen : len < M) (hhb : 2 ≤ cB b) :
    Calls Try.prog 5 #[.agg #[.int .i64 a, .int .i64 b, .int .i64 p], sv] w fun e w' => e = .returned (.bool true) ∧ Below w.heap.size w w' := by
  obtain ⟨a0, cap, rfl, hst⟩ := hsc
  have HST : Hid (∀ k, k < len → ∃ gb off, a0 = some ⟨gb, off, none⟩ ∧ (os k).ok ∧ ∀ j u, (stCells (os k))[j]? = some u → w.cell? ⟨gb, off + k * 3 + j, none⟩ = some u) := hst
  clear hst
  go_enter Try.func5, Try.ntmps5
  go_wp2_with fail
  have hb0 : Below w.heap.size w (w.alloc (.cells #[.int .i64 a, .int .i64 b, .int .i64 p] 23)) := (Below.refl _ _).alloc (Nat.le_refl _) _
  have hs0 : (w.alloc (.cells #[.int .i64 a, .int .i64 b, .int .i64 p] 23)).heap.size = w.heap.size + 1 := by simp
  generalize w.alloc (.cells #[.int .i64 a, .int .i64 b, .int .i64 p] 23) = w0 at *
  refine (kseated_any hC a b p ha hb hp _).mono ?_
  rintro e w1 ⟨dk, G, rfl, hd, hG, hb1⟩
  have s1 := hb1.size
  have hG' : ∀ k, G k → w.heap.size ≤ k := fun k hk => by have := hG k hk; omega
  have HB1 : Below w.heap.size w w1 := hb0.trans (hb1.mono (by omega))
  have hbp := (conf_ok a b p).2.2.1
  clear hG hb0 hb1
  generalize cA a = A at *
  generalize cP p = p1 at *
  obtain ⟨bf, hbf⟩ := Int.eq_ofNat_of_zero_le (show 0 ≤ cB b by omega)
  rw [hbf] at hd hhb
  clear hbp hbf
  obtain ⟨x, ai, ci, hcell, hcall, hI, hH, hN, hf1, hf2, _⟩ := hd.tells hC hT (Nat.zero_le _)
  obtain ⟨c0, c2, c4, c7, c8⟩ := hcell w1 (Below.refl _ _)
  have HCL : Hid (Calls Try.prog 16 #[.pointer (some ⟨x, 0, none⟩)] w1 (fun e w' => e = .returned (told9 (Do.there []) (Pa.parts bf [])) ∧ Below w1.heap.size w1 w')) := hcall
  have HD0 : Hid (∃ mv G, Desk At w1 dk A (bf : Int) p1 (csAt A os 0) mv G ∧ ∀ k, G k → w.heap.size ≤ k) := ⟨0, G, hd, hG'⟩
  have HB1' : Hid (Below w.heap.size w w1) := HB1
  clear hd hG' HB1 hcall hcell hI hH hN c4 c7 c8
  have HHF : Hid (Pa.half bf ≤ 40 ∧ 1 ≤ Pa.half bf) := by
    show _ ∧ _
    unfold Pa.half; omega
  have HGE : Hid (∀ n : Nat, n < Pa.half bf → (n : Int) < (bf : Int) / 2) := by
    intro n hn
    unfold Pa.half at hn
    omega
  have hlt : decide ((bf : Int) / 2 < 1) = false := by rw [decide_eq_false_iff_not]; omega
  go_wp2_with fail
  refine HCL.out.mono ?_
  rintro e w2 ⟨rfl, hb2⟩
  have s2 := hb2.size
  unfold told9
  go_wp2_with fail
  have hst0 : StT (w2.alloc (.cells #[.int .i64 ((Do.there []).length : Int), .int .i64 (Do.size (Do.there []) : Nat), .int .i64 (Pa.wt (Pa.parts bf []).main : Nat), .int .i64 (Pa.wt (Pa.parts bf []).frozen : Nat), .int .i64 (Pa.wt (Pa.parts bf []).live : Nat), .int .i64 (Pa.wt (Pa.dead (Pa.parts bf []).main) : Nat), .int .i64 ((Pa.parts bf []).left : Int), .int .i64 (onI (Pa.parts bf []).left), .int .i64 ((Pa.parts bf []).hand : Int)] 50)) w2.heap.size (Do.there (csAt A os 0)) (Pa.parts bf (csAt A os 0)) := heap_alloc_new w2 _
  have hba : Below w2.heap.size w2 (w2.alloc (.cells #[.int .i64 ((Do.there []).length : Int), .int .i64 (Do.size (Do.there []) : Nat), .int .i64 (Pa.wt (Pa.parts bf []).main : Nat), .int .i64 (Pa.wt (Pa.parts bf []).frozen : Nat), .int .i64 (Pa.wt (Pa.parts bf []).live : Nat), .int .i64 (Pa.wt (Pa.dead (Pa.parts bf []).main) : Nat), .int .i64 ((Pa.parts bf []).left : Int), .int .i64 (onI (Pa.parts bf []).left), .int .i64 ((Pa.parts bf []).hand : Int)] 50)) := (Below.refl _ _).alloc (Nat.le_refl _) _
  have HST0 : Hid (StT (w2.alloc (.cells #[.int .i64 ((Do.there []).length : Int), .int .i64 (Do.size (Do.there []) : Nat), .int .i64 (Pa.wt (Pa.parts bf []).main : Nat), .int .i64 (Pa.wt (Pa.parts bf []).frozen : Nat), .int .i64 (Pa.wt (Pa.parts bf []).live : Nat), .int .i64 (Pa.wt (Pa.dead (Pa.parts bf []).main) : Nat), .int .i64 ((Pa.parts bf []).left : Int), .int .i64 (onI (Pa.parts bf []).left), .int .i64 ((Pa.parts bf []).hand : Int)] 50)) w2.heap.size (Do.there (csAt A os 0)) (Pa.parts bf (csAt A os 0))) := hst0
  clear hst0
  generalize w2.alloc (.cells #[.int .i64 ((Do.there []).length : Int), .int .i64 (Do.size (Do.there []) : Nat), .int .i64 (Pa.wt (Pa.parts bf []).main : Nat), .int .i64 (Pa.wt (Pa.parts bf []).frozen : Nat), .int .i64 (Pa.wt (Pa.parts bf []).live : Nat), .int .i64 (Pa.wt (Pa.dead (Pa.parts bf []).main) : Nat), .int .i64 ((Pa.parts bf []).left : Int), .int .i64 (onI (Pa.parts bf []).left), .int .i64 ((Pa.parts bf []).hand : Int)] 50) = w3 at *
  have s3 := hba.size
  have hb13 : Below w1.heap.size w1 w3 := hb2.trans (hba.mono s2)
  have HD3 : Hid (∃ mv G, Desk At w3 dk A (bf : Int) p1 (csAt A os 0) mv G ∧ (∀ k, G k → w.heap.size ≤ k) ∧ ¬ G w2.heap.size) := by
    obtain ⟨mv, G, q1, q2⟩ := HD0.out
    exact ⟨mv, G, q1.quiet hC hb13, q2, fun hg => by have := q1.lt _ hg; omega⟩
  have HB3 : Hid (Below w.heap.size w w3) := HB1'.out.trans (hb13.mono HB1'.out.size)
  have hg3 : w2.heap.size < w3.heap.size := HST0.out.lt
  have hgB : w.heap.size ≤ w2.heap.size := by have := HB1'.out.size; omega
  clear hba hb2 hb13 HD0 HB1' HCL hlt c0 c2 s1 s2 s3 hs0
  generalize w2.heap.size = gw at *
  go_loopw [8, 9] (fun si i wr => ∃ k : Nat, k ≤ len ∧ i = .int .i64 k ∧ si = .int .i64 ((Pa.parts bf (csAt A os k)).since : Nat) ∧ StT wr gw (Do.there (csAt A os k)) (Pa.parts bf (csAt A os k)) ∧ (∃ mv G, Desk At wr dk A (bf : Int) p1 (csAt A os k) mv G ∧ (∀ k, G k → w.heap.size ≤ k) ∧ ¬ G gw) ∧ Below w.heap.size w wr) (fun _ i _ => len - (intOf i).toNat)
  case atStart => exact ⟨0, Nat.zero_le _, rfl, rfl, HST0.out, HD3.out, HB3.out⟩
  case round =>
    obtain ⟨k, hk, rfl, rfl, hsw, ⟨mv, G1, hd, hG, hng⟩, hbw⟩ := hrel
    clear HD3 HB3 HST0
    have hcl := csAt_len A os k
    have sw := hbw.size
    have hgw := hsw.lt
    obtain ⟨x0, ai0, ci0, hcell0, _, hI0, hH0, hN0, _, _, hF0⟩ := hd.tells hC hT (by omega)
    by_cases hlt : k < len
    · obtain ⟨gb, off, rfl, hok, hcs⟩ := HST.out k hlt
      have hal : gb < w.heap.size := World.block_lt_of_cell? w ⟨gb, off + k * 3 + 0, none⟩ (hcs 0 _ rfl)
      have y0 : wr.cell? ⟨gb, off + k * 3, none⟩ = some (.int .i64 (os k).k) := (hbw.cell (p := ⟨gb, off + k * 3 + 0, none⟩) hal).trans (hcs 0 _ rfl)
      have y1 : wr.cell? ⟨gb, off + k * 3 + 1, none⟩ = some (.int .i64 (os k).a) := (hbw.cell (p := ⟨gb, off + k * 3 + 1, none⟩) hal).trans (hcs 1 _ rfl)
      have y2 : wr.cell? ⟨gb, off + k * 3 + 2, none⟩ = some (.string (os k).s) := (hbw.cell (p := ⟨gb, off + k * 3 + 2, none⟩) hal).trans (hcs 2 _ rfl)
      have HS1 : Hid (Calls Try.prog 8 #[.pointer (some ⟨dk, 0, none⟩), .agg #[.int .i64 (os k).k, .int .i64 (os k).a, .string (os k).s]] wr fun e w' => e = .returned (.bool true) ∧ Moved At dk A (bf : Int) p1 (csAt A os (k + 1)) (stMv A (csAt A os k) (os k)) G1 wr w') := dStep_told hC (os k) hok (by omega) hM hd
      have hmove : Step1 (csAt A os k) (csAt A os (k + 1)) (stMv A (csAt A os k) (os k)) := st_move A (csAt A os k) hF0.rise (os k)
      have hcl1 := csAt_len A os (k + 1)
      clear hcs hd hcell0 hF0
      go_wp2_with fail
      refine HS1.out.mono ?_
      rintro e wa ⟨rfl, hmo⟩
      obtain ⟨ho, G2, hd2, hk2⟩ := hmo
      have sa := ho.size
      have hb2 : Below w.heap.size wr wa := ⟨ho.os, ho.tape, ho.output, ho.size, fun k hk' => ho.block k (by omega) (fun h => by have := hG k h; omega)⟩
      have hG2 : ∀ k, G2 k → w.heap.size ≤ k := fun k h => (hk2 k h).elim (hG k) (fun h => by omega)
      have hsa : StT wa gw (Do.there (csAt A os k)) (Pa.parts bf (csAt A os k)) := (ho.block gw hgw hng).trans hsw
      have hng2 : ¬ G2 gw := fun h => (hk2 gw h).elim hng (fun h => by omega)
      obtain ⟨x, ai, ci, hcell, hcall, hI, hH, hN, _, _, _⟩ := hd2.tells hC hT (by omega)
      have HCL : Hid (Calls Try.prog 16 #[.pointer (some ⟨x, 0, none⟩)] wa (fun e w' => e = .returned (told9 (Do.there (csAt A os (k + 1))) (Pa.parts bf (csAt A os (k + 1)))) ∧ Below wa.heap.size wa w')) := hcall
      have HN : Hid (∀ W, Below wa.heap.size wa W → ∃ mv G, Desk At W dk A (bf : Int) p1 (csAt A os (k + 1)) mv G ∧ (∀ k, G k → w.heap.size ≤ k) ∧ ¬ G gw) := fun W hW => ⟨_, G2, hd2.quiet hC hW, hG2, hng2⟩
      have HB2 : Hid (Below w.heap.size w wa) := hbw.trans hb2
      have HCE : Hid (∀ W, Below wa.heap.size wa W → W.cell? ⟨dk, 0, none⟩ = some (.pointer (some ⟨x, 0, none⟩)) ∧ W.cell? ⟨dk, 2, none⟩ = some (.int .i64 (bf : Int)) ∧ W.cell? ⟨dk, 4, none⟩ = some (.slice ai (Do.there (csAt A os (k + 1))).length ci) ∧ W.cell? ⟨dk, 7, none⟩ = some (.int .i64 (Do.size (Do.there (csAt A os (k + 1))) : Nat)) ∧ W.cell? ⟨dk, 8, none⟩ = some (.int .i64 (stMv A (csAt A os k) (os k)))) := hcell
      have hstep := slow_step hI0 hI hmove
      clear HS1 hk2 hd2 hb2 y0 y1 y2 hbw hcall hcell hI0 hI hmove hG2 hng2 ho hsw hG hng
      obtain ⟨z0, _, _, _, _⟩ := HCE.out wa (Below.refl _ _)
      go_wp2_with fail
      refine HCL.out.mono ?_
      rintro e wb ⟨rfl, hbb⟩
      clear z0 HCL
      have sb := hbb.size
      unfold told9
      have hsb : StT wb gw (Do.there (csAt A os k)) (Pa.parts bf (csAt A os k)) := hsa.below hbb
      go_wp2_with fail
      have hs1 : StT (wb.alloc (.cells #[.int .i64 ((Do.there (csAt A os (k + 1))).length : Int), .int .i64 (Do.size (Do.there (csAt A os (k + 1))) : Nat), .int .i64 (Pa.wt (Pa.parts bf (csAt A os (k + 1))).main : Nat), .int .i64 (Pa.wt (Pa.parts bf (csAt A os (k + 1))).frozen : Nat), .int .i64 (Pa.wt (Pa.parts bf (csAt A os (k + 1))).live : Nat), .int .i64 (Pa.wt (Pa.dead (Pa.parts bf (csAt A os (k + 1))).main) : Nat), .int .i64 ((Pa.parts bf (csAt A os (k + 1))).left : Int), .int .i64 (onI (Pa.parts bf (csAt A os (k + 1))).left), .int .i64 ((Pa.parts bf (csAt A os (k + 1))).hand : Int)] 50)) wb.heap.size (Do.there (csAt A os (k + 1))) (Pa.parts bf (csAt A os (k + 1))) := heap_alloc_new wb _
      have hbc : Below wb.heap.size wb (wb.alloc (.cells #[.int .i64 ((Do.there (csAt A os (k + 1))).length : Int), .int .i64 (Do.size (Do.there (csAt A os (k + 1))) : Nat), .int .i64 (Pa.wt (Pa.parts bf (csAt A os (k + 1))).main : Nat), .int .i64 (Pa.wt (Pa.parts bf (csAt A os (k + 1))).frozen : Nat), .int .i64 (Pa.wt (Pa.parts bf (csAt A os (k + 1))).live : Nat), .int .i64 (Pa.wt (Pa.dead (Pa.parts bf (csAt A os (k + 1))).main) : Nat), .int .i64 ((Pa.parts bf (csAt A os (k + 1))).left : Int), .int .i64 (onI (Pa.parts bf (csAt A os (k + 1))).left), .int .i64 ((Pa.parts bf (csAt A os (k + 1))).hand : Int)] 50)) := (Below.refl _ _).alloc (Nat.le_refl _) _
      generalize wb.alloc (.cells #[.int .i64 ((Do.there (csAt A os (k + 1))).length : Int), .int .i64 (Do.size (Do.there (csAt A os (k + 1))) : Nat), .int .i64 (Pa.wt (Pa.parts bf (csAt A os (k + 1))).main : Nat), .int .i64 (Pa.wt (Pa.parts bf (csAt A os (k + 1))).frozen : Nat), .int .i64 (Pa.wt (Pa.parts bf (csAt A os (k + 1))).live : Nat), .int .i64 (Pa.wt (Pa.dead (Pa.parts bf (csAt A os (k + 1))).main) : Nat), .int .i64 ((Pa.parts bf (csAt A os (k + 1))).left : Int), .int .i64 (onI (Pa.parts bf (csAt A os (k + 1))).left), .int .i64 ((Pa.parts bf (csAt A os (k + 1))).hand : Int)] 50) = wc at *
      have sc := hbc.size
      have hac : Below wa.heap.size wa wc := hbb.trans (hbc.mono sb)
      have hs0 : StT wc gw (Do.there (csAt A os k)) (Pa.parts bf (csAt A os k)) := hsb.below hbc
      have HAC : Hid (Below wa.heap.size wa wc) := hac
      have hne : gw ≠ wb.heap.size := by omega
      obtain ⟨_, z2, z4, z7, z8⟩ := HCE.out wc hac
      have a0 := hs1.c0
      have a1 := hs1.c1
      have a2 := hs1.c2
      have a3 := hs1.c3
      have a4 := hs1.c4
      have a5 := hs1.c5
      have a6 := hs1.c6
      have a7 := hs1.c7
      have a8 := hs1.c8
      have b7 := hs0.c7
      have b8 := hs0.c8
      have HS0 : Hid (StT wc gw (Do.there (csAt A os k)) (Pa.parts bf (csAt A os k))) := hs0
      have HS1' : Hid (StT wc wb.heap.size (Do.there (csAt A os (k + 1))) (Pa.parts bf (csAt A os (k + 1)))) := hs1
      have HNN : Hid (Nums bf (Do.there (csAt A os (k + 1))) (Pa.parts bf (csAt A os (k + 1)))) := hN
      have HSP : Hid (_) := hstep
      have HN0 : Hid (Nums bf (Do.there (csAt A os k)) (Pa.parts bf (csAt A os k))) := hN0
      have HLE : Hid (k + 1 ≤ len ∧ (Pa.parts bf (csAt A os k)).hand ≤ 9000000000000000) := ⟨by omega, by omega⟩
      have e1 : ((((Do.there (csAt A os (k + 1))).length : Nat) : Int) != (((Do.there (csAt A os (k + 1))).length : Nat) : Int)) = false := by simp
      have e2 : (((Do.size (Do.there (csAt A os (k + 1))) : Nat) : Int) != ((Do.size (Do.there (csAt A os (k + 1))) : Nat) : Int)) = false := by simp
      have e3 : Pa.wt (Pa.parts bf (csAt A os (k + 1))).live < bf := hN.live
      have e4 : 0 ≤ onI (Pa.parts bf (csAt A os (k + 1))).left := by unfold onI; split <;> decide
      have e5 : onI (Pa.parts bf (csAt A os (k + 1))).left ≤ 1 := by unfold onI; split <;> decide
      have hkM : k ≤ 9000000000000000 := by omega
      clear hsa hsb hbc hbb hac hs0 hs1 HCE hN hN0 hstep hH hH0 hcl hcl1 hM hlen hok hal hlt hgw sw sa sb sc hf1 hf2 hne hk
      go_quiet (fail)
      go_wp2_with fail
      clear e1 e2 e4 e5
      by_cases t5 : (Pa.parts bf (csAt A os (k + 1))).left = 0
      · rw [onI_off t5] at a7
        obtain ⟨n1, n2, n3, n4, n5, n6, n7, n8⟩ := HNN.out
        obtain ⟨o1, o2, o3⟩ := n5 t5
        clear n5 n6
        have w1 : IntKind.i64.wrap (((Pa.wt (Pa.parts bf (csAt A os (k + 1))).main : Nat) : Int) + ((Pa.wt (Pa.parts bf (csAt A os (k + 1))).frozen : Nat) : Int)) = ((Pa.wt (Pa.parts bf (csAt A os (k + 1))).main : Nat) : Int) + ((Pa.wt (Pa.parts bf (csAt A os (k + 1))).frozen : Nat) : Int) := by rw [IntKind.wrap_i64]; omega
        have w2 : IntKind.i64.wrap (((Pa.wt (Pa.parts bf (csAt A os (k + 1))).main : Nat) : Int) + ((Pa.wt (Pa.parts bf (csAt A os (k + 1))).frozen : Nat) : Int) + ((Pa.wt (Pa.parts bf (csAt A os (k + 1))).live : Nat) : Int)) = ((Pa.wt (Pa.parts bf (csAt A os (k + 1))).main : Nat) : Int) + ((Pa.wt (Pa.parts bf (csAt A os (k + 1))).frozen : Nat) : Int) + ((Pa.wt (Pa.parts bf (csAt A os (k + 1))).live : Nat) : Int) := by rw [IntKind.wrap_i64]; omega
        have w3 : IntKind.i64.wrap (((Pa.wt (Pa.parts bf (csAt A os (k + 1))).main : Nat) : Int) + ((Pa.wt (Pa.parts bf (csAt A os (k + 1))).frozen : Nat) : Int) + ((Pa.wt (Pa.parts bf (csAt A os (k + 1))).live : Nat) : Int) - ((Pa.wt (Pa.dead (Pa.parts bf (csAt A os (k + 1))).main) : Nat) : Int)) = ((Pa.wt (Pa.parts bf (csAt A os (k + 1))).main : Nat) : Int) + ((Pa.wt (Pa.parts bf (csAt A os (k + 1))).frozen : Nat) : Int) + ((Pa.wt (Pa.parts bf (csAt A os (k + 1))).live : Nat) : Int) - ((Pa.wt (Pa.dead (Pa.parts bf (csAt A os (k + 1))).main) : Nat) : Int) := by rw [IntKind.wrap_i64]; omega
        have w4 : IntKind.i64.wrap (((Do.size (Do.there (csAt A os (k + 1))) : Nat) : Int) + (((Do.there (csAt A os (k + 1))).length : Nat) : Int)) = ((Do.size (Do.there (csAt A os (k + 1))) : Nat) : Int) + (((Do.there (csAt A os (k + 1))).length : Nat) : Int) := by rw [IntKind.wrap_i64]; omega
        have g1 : decide (((Pa.wt (Pa.parts bf (csAt A os (k + 1))).main : Nat) : Int) + ((Pa.wt (Pa.parts bf (csAt A os (k + 1))).frozen : Nat) : Int) + ((Pa.wt (Pa.parts bf (csAt A os (k + 1))).live : Nat) : Int) - ((Pa.wt (Pa.dead (Pa.parts bf (csAt A os (k + 1))).main) : Nat) : Int) < ((Do.size (Do.there (csAt A os (k + 1))) : Nat) : Int) + (((Do.there (csAt A os (k + 1))).length : Nat) : Int)) = false := by rw [decide_eq_false_iff_not]; omega
        have w6 : IntKind.i64.wrap (((Pa.parts bf (csAt A os (k + 1))).left : Int) + ((Pa.wt (Pa.parts bf (csAt A os (k + 1))).frozen : Nat) : Int)) = 0 := by rw [t5, o1]; decide
        have w5 : IntKind.i64.wrap (2 * ((Pa.wt (Pa.dead (Pa.parts bf (csAt A os (k + 1))).main) : Nat) : Int)) = 2 * ((Pa.wt (Pa.dead (Pa.parts bf (csAt A os (k + 1))).main) : Nat) : Int) := by rw [IntKind.wrap_i64]; omega
        have HT5 : Hid ((Pa.parts bf (csAt A os (k + 1))).left = 0) := t5
        have HON : Hid (onI (Pa.parts bf (csAt A os (k + 1))).left = 0) := onI_off t5
        have g2 : 2 * Pa.wt (Pa.dead (Pa.parts bf (csAt A os (k + 1))).main) ≤ Pa.wt (Pa.parts bf (csAt A os (k + 1))).main := o2
        clear t5 o1 o2 o3 n1 n2 n7 n8
        go_quiet (fail)
        rcases HSP.out with ⟨t1, t2, t3⟩ | ⟨t1, t2, t3, t4⟩ | ⟨t1, t2, t3⟩
        · rw [onI_off t1] at b7
          rw [t2] at a8
          have HSN : Hid (((Pa.parts bf (csAt A os (k + 1))).since : Int) = (Pa.parts bf (csAt A os k)).since) := by show _ = _; rw [t3]
          have HHD : Hid (((Pa.parts bf (csAt A os (k + 1))).hand : Int) = (Pa.parts bf (csAt A os k)).hand) := by show _ = _; rw [t2]
          clear t1 t2 t3
          go_wp2_with fail
          go_quiet (fail)
          go_wp2_with (with_reducible refine wpList_store_row rfl 50 _ _ rfl gw #[.int .i64 ((Do.there (csAt A os (k + 1))).length : Int), .int .i64 (Do.size (Do.there (csAt A os (k + 1))) : Nat), .int .i64 (Pa.wt (Pa.parts bf (csAt A os (k + 1))).main : Nat), .int .i64 (Pa.wt (Pa.parts bf (csAt A os (k + 1))).frozen : Nat), .int .i64 (Pa.wt (Pa.parts bf (csAt A os (k + 1))).live : Nat), .int .i64 (Pa.wt (Pa.dead (Pa.parts bf (csAt A os (k + 1))).main) : Nat), .int .i64 ((Pa.parts bf (csAt A os (k + 1))).left : Int), .int .i64 0, .int .i64 ((Pa.parts bf (csAt A os k)).hand : Int)] ?_ ?_ 50 #[.int .i64 ((Do.there (csAt A os k)).length : Int), .int .i64 (Do.size (Do.there (csAt A os k)) : Nat), .int .i64 (Pa.wt (Pa.parts bf (csAt A os k)).main : Nat), .int .i64 (Pa.wt (Pa.parts bf (csAt A os k)).frozen : Nat), .int .i64 (Pa.wt (Pa.parts bf (csAt A os k)).live : Nat), .int .i64 (Pa.wt (Pa.dead (Pa.parts bf (csAt A os k)).main) : Nat), .int .i64 ((Pa.parts bf (csAt A os k)).left : Int), .int .i64 (onI (Pa.parts bf (csAt A os k)).left), .int .i64 ((Pa.parts bf (csAt A os k)).hand : Int)] ?_ ?_ ?_ ?_ ?_)
          case refine_1 => rfl
          case refine_2 => rfl
          case refine_3 => exact HS0.out
          case refine_4 => exact Try.sizeT50
          case refine_5 => rfl
          case refine_6 => simp [Value.oneCell']
          have hE := HLE.out.1
          obtain ⟨d1, d2⟩ := slow_end hC #[.int .i64 ((Do.there (csAt A os (k + 1))).length : Int), .int .i64 (Do.size (Do.there (csAt A os (k + 1))) : Nat), .int .i64 (Pa.wt (Pa.parts bf (csAt A os (k + 1))).main : Nat), .int .i64 (Pa.wt (Pa.parts bf (csAt A os (k + 1))).frozen : Nat), .int .i64 (Pa.wt (Pa.parts bf (csAt A os (k + 1))).live : Nat), .int .i64 (Pa.wt (Pa.dead (Pa.parts bf (csAt A os (k + 1))).main) : Nat), .int .i64 ((Pa.parts bf (csAt A os (k + 1))).left : Int), .int .i64 0, .int .i64 ((Pa.parts bf (csAt A os k)).hand : Int)] (HN.out _ (below_drewN HAC.out _)) (HB2.out.trans ((below_drewN HAC.out _).mono HB2.out.size)) hgB
          exact ⟨⟨k + 1, by omega, by go_num, by first | rfl | rw [HSN.out], (setRow_heap _ gw _ _ 50 (0, 0) HS0.out).trans (by rw [HON.out, HHD.out]), d1, d2⟩, by simp [intOf]; omega⟩
        · exact absurd t3 (by rw [HT5.out]; omega)
        · rw [onI_on t1] at b7
          have a8' : wc.cell? ⟨wb.heap.size, 8, none⟩ = some (.int .i64 (((Pa.parts bf (csAt A os k)).hand : Int) + 1)) := by rw [a8, t2]; rfl
          have hhl := HLE.out.2
          have hw : IntKind.i64.wrap (((Pa.parts bf (csAt A os k)).hand : Int) + 1) = ((Pa.parts bf (csAt A os k)).hand : Int) + 1 := by rw [IntKind.wrap_i64]; omega
          have hq : ((((Pa.parts bf (csAt A os k)).hand : Int) + 1) != ((Pa.parts bf (csAt A os k)).hand : Int)) = true := by simp; omega
          have HSN : Hid (((Pa.parts bf (csAt A os (k + 1))).since : Int) = 0) := by show _ = _; rw [t3]; rfl
          have HHD : Hid (((Pa.parts bf (csAt A os (k + 1))).hand : Int) = ((Pa.parts bf (csAt A os k)).hand : Int) + 1) := by show _ = _; rw [t2]; rfl
          clear t1 t2 t3 a8
          go_wp2_with fail
          go_quiet (fail)
          go_wp2_with (with_reducible refine wpList_store_row rfl 50 _ _ rfl gw #[.int .i64 ((Do.there (csAt A os (k + 1))).length : Int), .int .i64 (Do.size (Do.there (csAt A os (k + 1))) : Nat), .int .i64 (Pa.wt (Pa.parts bf (csAt A os (k + 1))).main : Nat), .int .i64 (Pa.wt (Pa.parts bf (csAt A os (k + 1))).frozen : Nat), .int .i64 (Pa.wt (Pa.parts bf (csAt A os (k + 1))).live : Nat), .int .i64 (Pa.wt (Pa.dead (Pa.parts bf (csAt A os (k + 1))).main) : Nat), .int .i64 ((Pa.parts bf (csAt A os (k + 1))).left : Int), .int .i64 0, .int .i64 (((Pa.parts bf (csAt A os k)).hand : Int) + 1)] ?_ ?_ 50 #[.int .i64 ((Do.there (csAt A os k)).length : Int), .int .i64 (Do.size (Do.there (csAt A os k)) : Nat), .int .i64 (Pa.wt (Pa.parts bf (csAt A os k)).main : Nat), .int .i64 (Pa.wt (Pa.parts bf (csAt A os k)).frozen : Nat), .int .i64 (Pa.wt (Pa.parts bf (csAt A os k)).live : Nat), .int .i64 (Pa.wt (Pa.dead (Pa.parts bf (csAt A os k)).main) : Nat), .int .i64 ((Pa.parts bf (csAt A os k)).left : Int), .int .i64 (onI (Pa.parts bf (csAt A os k)).left), .int .i64 ((Pa.parts bf (csAt A os k)).hand : Int)] ?_ ?_ ?_ ?_ ?_)
          case refine_1 => rfl
          case refine_2 => rfl
          case refine_3 => exact HS0.out
          case refine_4 => exact Try.sizeT50
          case refine_5 => rfl
          case refine_6 => simp [Value.oneCell']
          have hE := HLE.out.1
          obtain ⟨d1, d2⟩ := slow_end hC #[.int .i64 ((Do.there (csAt A os (k + 1))).length : Int), .int .i64 (Do.size (Do.there (csAt A os (k + 1))) : Nat), .int .i64 (Pa.wt (Pa.parts bf (csAt A os (k + 1))).main : Nat), .int .i64 (Pa.wt (Pa.parts bf (csAt A os (k + 1))).frozen : Nat), .int .i64 (Pa.wt (Pa.parts bf (csAt A os (k + 1))).live : Nat), .int .i64 (Pa.wt (Pa.dead (Pa.parts bf (csAt A os (k + 1))).main) : Nat), .int .i64 ((Pa.parts bf (csAt A os (k + 1))).left : Int), .int .i64 0, .int .i64 (((Pa.parts bf (csAt A os k)).hand : Int) + 1)] (HN.out _ (below_drewN HAC.out _)) (HB2.out.trans ((below_drewN HAC.out _).mono HB2.out.size)) hgB
          exact ⟨⟨k + 1, by omega, by go_num, by first | rfl | rw [HSN.out], (setRow_heap _ gw _ _ 50 (0, 0) HS0.out).trans (by rw [HON.out, HHD.out]), d1, d2⟩, by simp [intOf]; omega⟩
      · have t6 : 0 < (Pa.parts bf (csAt A os (k + 1))).left := by omega
        rw [onI_on t6] at a7
        obtain ⟨n1, n2, n3, n4, n5, n6, n7, n8⟩ := HNN.out
        clear n5 n6
        have w1 : IntKind.i64.wrap (((Pa.wt (Pa.parts bf (csAt A os (k + 1))).main : Nat) : Int) + ((Pa.wt (Pa.parts bf (csAt A os (k + 1))).frozen : Nat) : Int)) = ((Pa.wt (Pa.parts bf (csAt A os (k + 1))).main : Nat) : Int) + ((Pa.wt (Pa.parts bf (csAt A os (k + 1))).frozen : Nat) : Int) := by rw [IntKind.wrap_i64]; omega
        have w2 : IntKind.i64.wrap (((Pa.wt (Pa.parts bf (csAt A os (k + 1))).main : Nat) : Int) + ((Pa.wt (Pa.parts bf (csAt A os (k + 1))).frozen : Nat) : Int) + ((Pa.wt (Pa.parts bf (csAt A os (k + 1))).live : Nat) : Int)) = ((Pa.wt (Pa.parts bf (csAt A os (k + 1))).main : Nat) : Int) + ((Pa.wt (Pa.parts bf (csAt A os (k + 1))).frozen : Nat) : Int) + ((Pa.wt (Pa.parts bf (csAt A os (k + 1))).live : Nat) : Int) := by rw [IntKind.wrap_i64]; omega
        have w3 : IntKind.i64.wrap (((Pa.wt (Pa.parts bf (csAt A os (k + 1))).main : Nat) : Int) + ((Pa.wt (Pa.parts bf (csAt A os (k + 1))).frozen : Nat) : Int) + ((Pa.wt (Pa.parts bf (csAt A os (k + 1))).live : Nat) : Int) - ((Pa.wt (Pa.dead (Pa.parts bf (csAt A os (k + 1))).main) : Nat) : Int)) = ((Pa.wt (Pa.parts bf (csAt A os (k + 1))).main : Nat) : Int) + ((Pa.wt (Pa.parts bf (csAt A os (k + 1))).frozen : Nat) : Int) + ((Pa.wt (Pa.parts bf (csAt A os (k + 1))).live : Nat) : Int) - ((Pa.wt (Pa.dead (Pa.parts bf (csAt A os (k + 1))).main) : Nat) : Int) := by rw [IntKind.wrap_i64]; omega
        have w4 : IntKind.i64.wrap (((Do.size (Do.there (csAt A os (k + 1))) : Nat) : Int) + (((Do.there (csAt A os (k + 1))).length : Nat) : Int)) = ((Do.size (Do.there (csAt A os (k + 1))) : Nat) : Int) + (((Do.there (csAt A os (k + 1))).length : Nat) : Int) := by rw [IntKind.wrap_i64]; omega
        have g1 : decide (((Pa.wt (Pa.parts bf (csAt A os (k + 1))).main : Nat) : Int) + ((Pa.wt (Pa.parts bf (csAt A os (k + 1))).frozen : Nat) : Int) + ((Pa.wt (Pa.parts bf (csAt A os (k + 1))).live : Nat) : Int) - ((Pa.wt (Pa.dead (Pa.parts bf (csAt A os (k + 1))).main) : Nat) : Int) < ((Do.size (Do.there (csAt A os (k + 1))) : Nat) : Int) + (((Do.there (csAt A os (k + 1))).length : Nat) : Int)) = false := by rw [decide_eq_false_iff_not]; omega
        have HON : Hid (onI (Pa.parts bf (csAt A os (k + 1))).left = 1) := onI_on t6
        have t7 : decide (((Pa.parts bf (csAt A os (k + 1))).left : Int) < 1) = false := by rw [decide_eq_false_iff_not]; omega
        clear n1 n2 n7 n8
        go_quiet (fail)
        rcases HSP.out with ⟨t1, t2, t3⟩ | ⟨t1, t2, t3, t4⟩ | ⟨t1, t2, t3⟩
        · rw [onI_off t1] at b7
          rw [t2] at a8
          have HSN : Hid (((Pa.parts bf (csAt A os (k + 1))).since : Int) = (Pa.parts bf (csAt A os k)).since) := by show _ = _; rw [t3]
          have HHD : Hid (((Pa.parts bf (csAt A os (k + 1))).hand : Int) = (Pa.parts bf (csAt A os k)).hand) := by show _ = _; rw [t2]
          clear t1 t2 t3
          go_wp2_with fail
          go_quiet (fail)
          go_wp2_with (with_reducible refine wpList_store_row rfl 50 _ _ rfl gw #[.int .i64 ((Do.there (csAt A os (k + 1))).length : Int), .int .i64 (Do.size (Do.there (csAt A os (k + 1))) : Nat), .int .i64 (Pa.wt (Pa.parts bf (csAt A os (k + 1))).main : Nat), .int .i64 (Pa.wt (Pa.parts bf (csAt A os (k + 1))).frozen : Nat), .int .i64 (Pa.wt (Pa.parts bf (csAt A os (k + 1))).live : Nat), .int .i64 (Pa.wt (Pa.dead (Pa.parts bf (csAt A os (k + 1))).main) : Nat), .int .i64 ((Pa.parts bf (csAt A os (k + 1))).left : Int), .int .i64 1, .int .i64 ((Pa.parts bf (csAt A os k)).hand : Int)] ?_ ?_ 50 #[.int .i64 ((Do.there (csAt A os k)).length : Int), .int .i64 (Do.size (Do.there (csAt A os k)) : Nat), .int .i64 (Pa.wt (Pa.parts bf (csAt A os k)).main : Nat), .int .i64 (Pa.wt (Pa.parts bf (csAt A os k)).frozen : Nat), .int .i64 (Pa.wt (Pa.parts bf (csAt A os k)).live : Nat), .int .i64 (Pa.wt (Pa.dead (Pa.parts bf (csAt A os k)).main) : Nat), .int .i64 ((Pa.parts bf (csAt A os k)).left : Int), .int .i64 (onI (Pa.parts bf (csAt A os k)).left), .int .i64 ((Pa.parts bf (csAt A os k)).hand : Int)] ?_ ?_ ?_ ?_ ?_)
          case refine_1 => rfl
          case refine_2 => rfl
          case refine_3 => exact HS0.out
          case refine_4 => exact Try.sizeT50
          case refine_5 => rfl
          case refine_6 => simp [Value.oneCell']
          have hE := HLE.out.1
          obtain ⟨d1, d2⟩ := slow_end hC #[.int .i64 ((Do.there (csAt A os (k + 1))).length : Int), .int .i64 (Do.size (Do.there (csAt A os (k + 1))) : Nat), .int .i64 (Pa.wt (Pa.parts bf (csAt A os (k + 1))).main : Nat), .int .i64 (Pa.wt (Pa.parts bf (csAt A os (k + 1))).frozen : Nat), .int .i64 (Pa.wt (Pa.parts bf (csAt A os (k + 1))).live : Nat), .int .i64 (Pa.wt (Pa.dead (Pa.parts bf (csAt A os (k + 1))).main) : Nat), .int .i64 ((Pa.parts bf (csAt A os (k + 1))).left : Int), .int .i64 1, .int .i64 ((Pa.parts bf (csAt A os k)).hand : Int)] (HN.out _ (below_drewN HAC.out _)) (HB2.out.trans ((below_drewN HAC.out _).mono HB2.out.size)) hgB
          exact ⟨⟨k + 1, by omega, by go_num, by first | rfl | rw [HSN.out], (setRow_heap _ gw _ _ 50 (0, 0) HS0.out).trans (by rw [HON.out, HHD.out]), d1, d2⟩, by simp [intOf]; omega⟩
        · rw [onI_on t1] at b7
          rw [t2] at a8
          have hsn := HGE.out _ (HNN.out.on t3)
          have hw : IntKind.i64.wrap (((Pa.parts bf (csAt A os k)).since : Int) + stMv A (csAt A os k) (os k)) = ((Pa.parts bf (csAt A os (k + 1))).since : Int) := by rw [← t4, IntKind.wrap_i64]; omega
          have HSN : Hid (((Pa.parts bf (csAt A os (k + 1))).since : Int) = ((Pa.parts bf (csAt A os (k + 1))).since : Int)) := by show _ = _; rfl
          have HHD : Hid (((Pa.parts bf (csAt A os (k + 1))).hand : Int) = (Pa.parts bf (csAt A os k)).hand) := by show _ = _; rw [t2]
          clear t1 t2 t3 t4
          go_wp2_with fail
          go_quiet (fail)
          go_wp2_with (with_reducible refine wpList_store_row rfl 50 _ _ rfl gw #[.int .i64 ((Do.there (csAt A os (k + 1))).length : Int), .int .i64 (Do.size (Do.there (csAt A os (k + 1))) : Nat), .int .i64 (Pa.wt (Pa.parts bf (csAt A os (k + 1))).main : Nat), .int .i64 (Pa.wt (Pa.parts bf (csAt A os (k + 1))).frozen : Nat), .int .i64 (Pa.wt (Pa.parts bf (csAt A os (k + 1))).live : Nat), .int .i64 (Pa.wt (Pa.dead (Pa.parts bf (csAt A os (k + 1))).main) : Nat), .int .i64 ((Pa.parts bf (csAt A os (k + 1))).left : Int), .int .i64 1, .int .i64 ((Pa.parts bf (csAt A os k)).hand : Int)] ?_ ?_ 50 #[.int .i64 ((Do.there (csAt A os k)).length : Int), .int .i64 (Do.size (Do.there (csAt A os k)) : Nat), .int .i64 (Pa.wt (Pa.parts bf (csAt A os k)).main : Nat), .int .i64 (Pa.wt (Pa.parts bf (csAt A os k)).frozen : Nat), .int .i64 (Pa.wt (Pa.parts bf (csAt A os k)).live : Nat), .int .i64 (Pa.wt (Pa.dead (Pa.parts bf (csAt A os k)).main) : Nat), .int .i64 ((Pa.parts bf (csAt A os k)).left : Int), .int .i64 (onI (Pa.parts bf (csAt A os k)).left), .int .i64 ((Pa.parts bf (csAt A os k)).hand : Int)] ?_ ?_ ?_ ?_ ?_)
          case refine_1 => rfl
          case refine_2 => rfl
          case refine_3 => exact HS0.out
          case refine_4 => exact Try.sizeT50
          case refine_5 => rfl
          case refine_6 => simp [Value.oneCell']
          have hE := HLE.out.1
          obtain ⟨d1, d2⟩ := slow_end hC #[.int .i64 ((Do.there (csAt A os (k + 1))).length : Int), .int .i64 (Do.size (Do.there (csAt A os (k + 1))) : Nat), .int .i64 (Pa.wt (Pa.parts bf (csAt A os (k + 1))).main : Nat), .int .i64 (Pa.wt (Pa.parts bf (csAt A os (k + 1))).frozen : Nat), .int .i64 (Pa.wt (Pa.parts bf (csAt A os (k + 1))).live : Nat), .int .i64 (Pa.wt (Pa.dead (Pa.parts bf (csAt A os (k + 1))).main) : Nat), .int .i64 ((Pa.parts bf (csAt A os (k + 1))).left : Int), .int .i64 1, .int .i64 ((Pa.parts bf (csAt A os k)).hand : Int)] (HN.out _ (below_drewN HAC.out _)) (HB2.out.trans ((below_drewN HAC.out _).mono HB2.out.size)) hgB
          exact ⟨⟨k + 1, by omega, by go_num, by first | rfl | rw [HSN.out], (setRow_heap _ gw _ _ 50 (0, 0) HS0.out).trans (by rw [HON.out, HHD.out]), d1, d2⟩, by simp [intOf]; omega⟩
        · rw [onI_on t1] at b7
          have a8' : wc.cell? ⟨wb.heap.size, 8, none⟩ = some (.int .i64 (((Pa.parts bf (csAt A os k)).hand : Int) + 1)) := by rw [a8, t2]; rfl
          have hhl := HLE.out.2
          have hw : IntKind.i64.wrap (((Pa.parts bf (csAt A os k)).hand : Int) + 1) = ((Pa.parts bf (csAt A os k)).hand : Int) + 1 := by rw [IntKind.wrap_i64]; omega
          have hq : ((((Pa.parts bf (csAt A os k)).hand : Int) + 1) != ((Pa.parts bf (csAt A os k)).hand : Int)) = true := by simp; omega
          have HSN : Hid (((Pa.parts bf (csAt A os (k + 1))).since : Int) = 0) := by show _ = _; rw [t3]; rfl
          have HHD : Hid (((Pa.parts bf (csAt A os (k + 1))).hand : Int) = ((Pa.parts bf (csAt A os k)).hand : Int) + 1) := by show _ = _; rw [t2]; rfl
          clear t1 t2 t3 a8
          go_wp2_with fail
          go_quiet (fail)
          go_wp2_with (with_reducible refine wpList_store_row rfl 50 _ _ rfl gw #[.int .i64 ((Do.there (csAt A os (k + 1))).length : Int), .int .i64 (Do.size (Do.there (csAt A os (k + 1))) : Nat), .int .i64 (Pa.wt (Pa.parts bf (csAt A os (k + 1))).main : Nat), .int .i64 (Pa.wt (Pa.parts bf (csAt A os (k + 1))).frozen : Nat), .int .i64 (Pa.wt (Pa.parts bf (csAt A os (k + 1))).live : Nat), .int .i64 (Pa.wt (Pa.dead (Pa.parts bf (csAt A os (k + 1))).main) : Nat), .int .i64 ((Pa.parts bf (csAt A os (k + 1))).left : Int), .int .i64 1, .int .i64 (((Pa.parts bf (csAt A os k)).hand : Int) + 1)] ?_ ?_ 50 #[.int .i64 ((Do.there (csAt A os k)).length : Int), .int .i64 (Do.size (Do.there (csAt A os k)) : Nat), .int .i64 (Pa.wt (Pa.parts bf (csAt A os k)).main : Nat), .int .i64 (Pa.wt (Pa.parts bf (csAt A os k)).frozen : Nat), .int .i64 (Pa.wt (Pa.parts bf (csAt A os k)).live : Nat), .int .i64 (Pa.wt (Pa.dead (Pa.parts bf (csAt A os k)).main) : Nat), .int .i64 ((Pa.parts bf (csAt A os k)).left : Int), .int .i64 (onI (Pa.parts bf (csAt A os k)).left), .int .i64 ((Pa.parts bf (csAt A os k)).hand : Int)] ?_ ?_ ?_ ?_ ?_)
          case refine_1 => rfl
          case refine_2 => rfl
          case refine_3 => exact HS0.out
          case refine_4 => exact Try.sizeT50
          case refine_5 => rfl
          case refine_6 => simp [Value.oneCell']
          have hE := HLE.out.1
          obtain ⟨d1, d2⟩ := slow_end hC #[.int .i64 ((Do.there (csAt A os (k + 1))).length : Int), .int .i64 (Do.size (Do.there (csAt A os (k + 1))) : Nat), .int .i64 (Pa.wt (Pa.parts bf (csAt A os (k + 1))).main : Nat), .int .i64 (Pa.wt (Pa.parts bf (csAt A os (k + 1))).frozen : Nat), .int .i64 (Pa.wt (Pa.parts bf (csAt A os (k + 1))).live : Nat), .int .i64 (Pa.wt (Pa.dead (Pa.parts bf (csAt A os (k + 1))).main) : Nat), .int .i64 ((Pa.parts bf (csAt A os (k + 1))).left : Int), .int .i64 1, .int .i64 (((Pa.parts bf (csAt A os k)).hand : Int) + 1)] (HN.out _ (below_drewN HAC.out _)) (HB2.out.trans ((below_drewN HAC.out _).mono HB2.out.size)) hgB
          exact ⟨⟨k + 1, by omega, by go_num, by first | rfl | rw [HSN.out], (setRow_heap _ gw _ _ 50 (0, 0) HS0.out).trans (by rw [HON.out, HHD.out]), d1, d2⟩, by simp [intOf]; omega⟩
    · have hke : k = len := by omega
      subst hke
      obtain ⟨_, _, z4, _, _⟩ := hcell0 wr (Below.refl _ _)
      have b0 := hsw.c0
      have HBW : Hid (Below w.heap.size w wr) := hbw
      have e1 : ((((Do.there (csAt A os k)).length : Nat) : Int) == (((Do.there (csAt A os k)).length : Nat) : Int)) = true := by simp
      clear hcell0 hI0 hH0 hN0 hF0 hd hG hng hsw hbw hlt
      go_wp2_with fail
      go_quiet (fail)
      go_wp2_with fail
      go_ret
      exact ⟨rfl, below_drewN HBW.out _⟩
end

end Go.Proofs.Ythkndfkkgncjfab
