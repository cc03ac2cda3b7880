/- KeepB. -/
import Derived.Test.YthkndfkkgncjfaaKeepAJA
namespace Go.Proofs.Ythkndfkkgncjfaa
open Go.RowKit
set_option maxRecDepth 100000

/-- a pattern: the first bytes of the text, or the byte 97 -/
def pat (s : ByteArray) : ByteArray := if (cut s 16).size = 0 then ⟨#[97]⟩ else cut s 16
theorem pat_size (s : ByteArray) : 1 ≤ (pat s).size ∧ (pat s).size ≤ 16 := by
  have h := cut_size s 16
  unfold pat
  split
  · exact ⟨Nat.le_refl _, by decide⟩
  · omega

theorem list_empty (x : ByteArray) : x.toList.isEmpty = decide (x.size = 0) := by
  rw [ByteArray.toList_eq]
  have h := size_len x
  cases hx : x.data.toList with
  | nil => rw [hx] at h; simp at h; rw [← h]; rfl
  | cons a r => rw [hx] at h; simp at h; rw [← h]; rfl

/-- two desks beside each other -/
structure Two (At : World → Nat → Int → Int → Int → List Do.Chg → (Nat → Prop) → Prop) (B : Nat) (w : World) (d1 d2 : Nat) (a b1 p1 b2 p2 : Int) (cs : List Do.Chg) : Prop where
  both : ∃ m1 m2 g1 g2, Desk At w d1 a b1 p1 cs m1 g1 ∧ Desk At w d2 a b2 p2 cs m2 g2 ∧ (∀ k, g1 k → ¬ g2 k) ∧ (∀ k, g1 k → B ≤ k) ∧ (∀ k, g2 k → B ≤ k)

section
variable {M : Nat} {At : World → Nat → Int → Int → Int → List Do.Chg → (Nat → Prop) → Prop}

theorem Two.quiet (hC : Keeps M At 67 73 74 28 34 36 56 35) {B d1 d2 : Nat} {w w' : World} {a b1 p1 b2 p2 : Int} {cs : List Do.Chg} (h : Two At B w d1 d2 a b1 p1 b2 p2 cs) (hb : Below w.heap.size w w') : Two At B w' d1 d2 a b1 p1 b2 p2 cs := by
  obtain ⟨m1, m2, g1, g2, q1, q2, q3, q4, q5⟩ := h
  exact ⟨m1, m2, g1, g2, q1.quiet hC hb, q2.quiet hC hb, q3, q4, q5⟩

/-- both have done a step -/
theorem Two.step1 (hC : Keeps M At 67 73 74 28 34 36 56 35) {B d1 d2 : Nat} {w w1 : World} {a b1 p1 b2 p2 : Int} {cs cs' : List Do.Chg} {m2 mv' : Int} {g1 g2 : Nat → Prop} (hB : B ≤ w.heap.size) (q2 : Desk At w d2 a b2 p2 cs m2 g2) (q3 : ∀ k, g1 k → ¬ g2 k) (q4 : ∀ k, g1 k → B ≤ k)
    (hm : Moved At d1 a b1 p1 cs' mv' g1 w w1) : ∃ n1, Desk At w1 d1 a b1 p1 cs' mv' n1 ∧ Desk At w1 d2 a b2 p2 cs m2 g2 ∧ (∀ k, n1 k → ¬ g2 k) ∧ (∀ k, n1 k → B ≤ k) ∧ Below B w w1 := by
  obtain ⟨ho, n1, hn, hk⟩ := hm
  refine ⟨n1, hn, q2.frame hC ho.size (fun k hg => ho.block k (q2.lt k hg) (fun h1 => q3 k h1 hg)), fun k h1 h2 => ?_, fun k h1 => ?_, ⟨ho.os, ho.tape, ho.output, ho.size, fun k hk' => ho.block k (by omega) (fun h1 => by have := q4 k h1; omega)⟩⟩
  · rcases hk k h1 with h | h
    · exact q3 k h h2
    · have := q2.lt k h2; omega
  · rcases hk k h1 with h | h
    · exact q4 k h
    · omega
theorem Two.step2 (hC : Keeps M At 67 73 74 28 34 36 56 35) {B d1 d2 : Nat} {w w1 : World} {a b1 p1 b2 p2 : Int} {cs' : List Do.Chg} {m1 mv' : Int} {g1 g2 : Nat → Prop} (hB : B ≤ w.heap.size) (q1 : Desk At w d1 a b1 p1 cs' m1 g1) (q3 : ∀ k, g1 k → ¬ g2 k) (q4 : ∀ k, g1 k → B ≤ k) (q5 : ∀ k, g2 k → B ≤ k)
    (hm : Moved At d2 a b2 p2 cs' mv' g2 w w1) : Two At B w1 d1 d2 a b1 p1 b2 p2 cs' ∧ Below B w w1 := by
  obtain ⟨n2, r1, r2, r3, r4, r5⟩ := Two.step1 hC (d2 := d1) (g1 := g2) (g2 := g1) hB q1 (fun k h2 h1 => q3 k h1 h2) q5 hm
  exact ⟨⟨m1, mv', g1, n2, r2, r1, fun k h1 h2 => r3 k h2 h1, q4, r4⟩, r5⟩

set_option maxHeartbeats 4000000 in
theorem alike_law (hC : Keeps M At 67 73 74 28 34 36 56 35) (hM : M ≤ 9000000000000000) (a b p bu pg : Int) (ha : inR a) (hb : inR b) (hp : inR p) (hbu : inR bu) (hpg : inR pg) (sv : Value) (len : Nat) (os : Nat → StV) (s : ByteArray) (hs : s.size ≤ 9223372036854775807) (w : World) (hsc : Steps3 w sv len os) (hlen : len < M) :
    Calls Try.prog 14 #[.agg #[.int .i64 a, .int .i64 b, .int .i64 p], .int .i64 bu, .int .i64 pg, sv, .string s] w fun e w' => e = .returned (.bool true) ∧ Below w.heap.size w w' := by
  have hb0 : Below w.heap.size w (w.alloc (.cells #[.int .i64 a, .int .i64 b, .int .i64 p] 51)) := (Below.refl _ _).alloc (Nat.le_refl _) _
  have hs0 : (w.alloc (.cells #[.int .i64 a, .int .i64 b, .int .i64 p] 51)).heap.size = w.heap.size + 1 := by simp
  have hblk := heap_alloc_new w (.cells #[.int .i64 a, .int .i64 b, .int .i64 p] 51)
  go_enter Try.func14, Try.ntmps14
  go_wp2_with fail
  generalize w.alloc (.cells #[.int .i64 a, .int .i64 b, .int .i64 p] 51) = w0 at *
  refine (kseated_any hC a b p ha hb hp _).mono ?_
  rintro e w1 ⟨d1, g1, rfl, hd1, hg1, hb1⟩
  have s1 := hb1.size
  have hblk1 := (hb1.block w.heap.size (by omega)).trans hblk
  have z1 : w1.cell? ⟨w.heap.size, 1, none⟩ = some (.int .i64 b) := by rw [cell_of_row w1 _ 1 _ 51 (0, 0) hblk1]; rfl
  have z2 : w1.cell? ⟨w.heap.size, 2, none⟩ = some (.int .i64 p) := by rw [cell_of_row w1 _ 2 _ 51 (0, 0) hblk1]; rfl
  have y1 := frozen_of_row w1 w.heap.size 1 _ 51 hblk1
  have y2 := frozen_of_row w1 w.heap.size 2 _ 51 hblk1
  have hblk2 := heap_setCell_same _ w.heap.size 2 _ 51 (.int .i64 pg) (heap_setCell_same w1 w.heap.size 1 _ 51 (.int .i64 bu) hblk1)
  have x0 : ((w1.setCell ⟨w.heap.size, 1, none⟩ (.int .i64 bu)).setCell ⟨w.heap.size, 2, none⟩ (.int .i64 pg)).cell? ⟨w.heap.size, 0, none⟩ = some (.int .i64 a) := by rw [cell_of_row _ _ 0 _ 51 (0, 0) hblk2]; rfl
  have x1 : ((w1.setCell ⟨w.heap.size, 1, none⟩ (.int .i64 bu)).setCell ⟨w.heap.size, 2, none⟩ (.int .i64 pg)).cell? ⟨w.heap.size, 1, none⟩ = some (.int .i64 bu) := by rw [cell_of_row _ _ 1 _ 51 (0, 0) hblk2]; rfl
  have x2 : ((w1.setCell ⟨w.heap.size, 1, none⟩ (.int .i64 bu)).setCell ⟨w.heap.size, 2, none⟩ (.int .i64 pg)).cell? ⟨w.heap.size, 2, none⟩ = some (.int .i64 pg) := by rw [cell_of_row _ _ 2 _ 51 (0, 0) hblk2]; rfl
  have hsz2 : ((w1.setCell ⟨w.heap.size, 1, none⟩ (.int .i64 bu)).setCell ⟨w.heap.size, 2, none⟩ (.int .i64 pg)).heap.size = w1.heap.size := by simp
  have hd2 : Desk At ((w1.setCell ⟨w.heap.size, 1, none⟩ (.int .i64 bu)).setCell ⟨w.heap.size, 2, none⟩ (.int .i64 pg)) d1 (cA a) (cB b) (cP p) [] 0 g1 := hd1.frame hC (by omega) fun k hk => by
    have hne : k ≠ w.heap.size := by have := hg1 k hk; omega
    rw [Below.heap_setCell _ ⟨w.heap.size, 2, none⟩ _ k hne, Below.heap_setCell _ ⟨w.heap.size, 1, none⟩ _ k hne]
  have hbb : Below w.heap.size w ((w1.setCell ⟨w.heap.size, 1, none⟩ (.int .i64 bu)).setCell ⟨w.heap.size, 2, none⟩ (.int .i64 pg)) := ((hb0.trans (hb1.mono (by omega))).setCell (p := ⟨w.heap.size, 1, none⟩) (Nat.le_refl _) _).setCell (p := ⟨w.heap.size, 2, none⟩) (Nat.le_refl _) _
  go_wp2_with fail
  generalize (w1.setCell ⟨w.heap.size, 1, none⟩ (.int .i64 bu)).setCell ⟨w.heap.size, 2, none⟩ (.int .i64 pg) = w2 at *
  refine (kseated_any hC a bu pg ha hbu hpg _).mono ?_
  rintro e w3 ⟨d2, g2, rfl, hd3, hg2, hb3⟩
  have s3 := hb3.size
  have HTz : Hid (Two At w.heap.size w3 d1 d2 (cA a) (cB b) (cP p) (cB bu) (cP pg) []) := (⟨⟨0, 0, g1, g2, hd2.quiet hC hb3, hd3, fun k h1 h2 => by have := hd2.lt k h1; have := hg2 k h2; omega, fun k h1 => by have := hg1 k h1; omega, fun k h2 => by have := hg2 k h2; omega⟩⟩ : Two At w.heap.size w3 d1 d2 (cA a) (cB b) (cP p) (cB bu) (cP pg) [])
  have HB3 : Hid (Below w.heap.size w w3) := hbb.trans (hb3.mono (by omega))
  obtain ⟨a0, cap, rfl, hst⟩ := hsc
  have HST : Hid (∀ k, k < len → ∃ gb off, a0 = some ⟨gb, off, none⟩ ∧ (os k).ok ∧ ∀ j u, (stCells (os k))[j]? = some u → w.cell? ⟨gb, off + k * 3 + j, none⟩ = some u) := hst
  have HPS : Hid (1 ≤ (pat s).size ∧ (pat s).size ≤ 16) := pat_size s
  clear hd1 hd2 hd3 hg1 hg2 hb1 hbb hb3 hst hblk hblk1 hblk2 z1 z2 y1 y2 x0 x1 x2
  generalize cA a = A at *
  generalize cB b = b1 at *
  generalize cP p = p1 at *
  generalize cB bu = b2 at *
  generalize cP pg = p2 at *
  go_wp2_with fail
  refine (kshort_any s 16 _ hs (by omega)).mono ?_
  rintro e w4 ⟨rfl, hw4⟩; rw [hw4]; clear hw4
  have hcase : ((cut s 16).toList.isEmpty = true ∧ Hid ((⟨#[97]⟩ : ByteArray) = pat s)) ∨ ((cut s 16).toList.isEmpty = false ∧ Hid (cut s 16 = pat s)) := by
    by_cases hpz : (cut s 16).size = 0
    · left
      exact ⟨by rw [list_empty, hpz]; rfl, by show _ = _; unfold pat; rw [if_pos hpz]⟩
    · right
      exact ⟨by rw [list_empty]; simpa using hpz, by show _ = _; unfold pat; rw [if_neg hpz]⟩
  rcases hcase with ⟨hp0, HPE⟩ | ⟨hp0, HPE⟩
  all_goals
    go_wp2_with fail
    rw [HPE.out]
    clear HPE hp0
    generalize pat s = pt at *
    go_loopw [14] (fun i wr => ∃ k : Nat, k ≤ len ∧ i = .int .i64 k ∧ Two At w.heap.size wr d1 d2 A b1 p1 b2 p2 (csAt A os k) ∧ Below w.heap.size w wr) (fun i _ => len - (intOf i).toNat)
    case atStart => exact ⟨0, Nat.zero_le _, rfl, HTz.out, HB3.out⟩
    case round =>
      obtain ⟨k, hk, rfl, hTw, hbw⟩ := hrel
      clear HTz HB3
      have hcl := csAt_len A os k
      have sw := hbw.size
      by_cases hlt : k < len
      · obtain ⟨gb, off, rfl, hok, hcs⟩ := HST.out k hlt
        have hal : gb < w.heap.size := World.block_lt_of_cell? w ⟨gb, off + k * 3 + 0, none⟩ (hcs 0 _ rfl)
        have cs1 : ∀ (W : World), Below w.heap.size w W → W.cell? ⟨gb, off + k * 3, none⟩ = some (.int .i64 (os k).k) ∧ W.cell? ⟨gb, off + k * 3 + 1, none⟩ = some (.int .i64 (os k).a) ∧ W.cell? ⟨gb, off + k * 3 + 2, none⟩ = some (.string (os k).s) := fun W hW =>
          ⟨(hW.cell (p := ⟨gb, off + k * 3 + 0, none⟩) hal).trans (hcs 0 _ rfl), (hW.cell (p := ⟨gb, off + k * 3 + 1, none⟩) hal).trans (hcs 1 _ rfl), (hW.cell (p := ⟨gb, off + k * 3 + 2, none⟩) hal).trans (hcs 2 _ rfl)⟩
        have HCS : Hid (∀ (W : World), Below w.heap.size w W → W.cell? ⟨gb, off + k * 3, none⟩ = some (.int .i64 (os k).k) ∧ W.cell? ⟨gb, off + k * 3 + 1, none⟩ = some (.int .i64 (os k).a) ∧ W.cell? ⟨gb, off + k * 3 + 2, none⟩ = some (.string (os k).s)) := cs1
        clear cs1 hcs
        obtain ⟨y0, y1, y2⟩ := HCS.out wr hbw
        obtain ⟨m1, m2, h1, h2, q1, q2, q3, q4, q5⟩ := hTw.both
        have HS1 : Hid (Calls Try.prog 27 #[.pointer (some ⟨d1, 0, none⟩), .agg #[.int .i64 (os k).k, .int .i64 (os k).a, .string (os k).s]] wr fun e w' => e = .returned (.bool true) ∧ ∃ mv', Moved At d1 A b1 p1 (csAt A os (k + 1)) mv' h1 wr w') := dStep_any hC (os k) hok (by omega) hM q1
        have hkl : decide ((k : Int) < (len : Int)) = true := by rw [decide_eq_true_eq]; omega
        go_wp2_with fail
        refine HS1.out.mono ?_
        rintro e wa ⟨rfl, mv1, hmo⟩
        obtain ⟨n1, r1, r2, r3, r4, r5⟩ := Two.step1 hC sw q2 q3 q4 hmo
        have sa := r5.size
        have hba := hbw.trans r5
        clear HS1 y0 y1 y2 hmo q1 q2
        obtain ⟨y0, y1, y2⟩ := HCS.out wa hba
        have HS2 : Hid (Calls Try.prog 27 #[.pointer (some ⟨d2, 0, none⟩), .agg #[.int .i64 (os k).k, .int .i64 (os k).a, .string (os k).s]] wa fun e w' => e = .returned (.bool true) ∧ ∃ mv', Moved At d2 A b2 p2 (csAt A os (k + 1)) mv' h2 wa w') := dStep_any hC (os k) hok (by omega) hM r2
        go_wp2_with fail
        refine HS2.out.mono ?_
        rintro e wb ⟨rfl, mv2, hmo⟩
        obtain ⟨hT2, hbb2⟩ := Two.step2 hC (by omega) r1 r3 r4 q5 hmo
        have sb := hbb2.size
        have hbb := hba.trans hbb2
        have hcl1 := csAt_len A os (k + 1)
        clear HS2 y0 y1 y2 hmo r1 r2 r3 r4 q3 q4 q5 hTw
        have hTn : Hid (Two At w.heap.size wb d1 d2 A b1 p1 b2 p2 (csAt A os (k + 1))) := hT2
        obtain ⟨m1', m2', h1', h2', t1, t2, _, _, _⟩ := hT2.both
        have t1k := t1
        have t2k := t2
        obtain ⟨x1, vi1, vd1, f1x, t1⟩ := t1
        obtain ⟨x2, vi2, vd2, f2x, t2⟩ := t2
        have hps := HPS.out
        have HSZ : Hid ((Do.hits (Do.there (csAt A os (k + 1))) pt.data.toList).length ≤ Do.size (Do.there (csAt A os (k + 1)))) := Do.hits_size _ _
        have hsz : Do.size (Do.there (csAt A os (k + 1))) ≤ 2400 := by
          have h1 : Do.size (Do.there (csAt A os (k + 1))) ≤ 40 * (Do.there (csAt A os (k + 1))).length := Do.sizeTo_le _ t1.fair.docs _
          have h2 := t1.fair.few
          omega
        have HC1 : Hid (∀ W, Below wb.heap.size wb W → Calls Try.prog 34 #[.pointer (some ⟨x1, 0, none⟩), .string pt] W fun e w' => e = .returned (.tuple #[.int .i64 ((Do.hits (Do.there (csAt A os (k + 1))) pt.data.toList).length : Int), .int .i64 0]) ∧ Below W.heap.size W w') := fun W hW => by
          have := hC.count pt (by omega) (by omega) (t1.quiet hC hW).idx
          rw [show cntRes (csAt A os (k + 1)) pt = (((Do.hits (Do.there (csAt A os (k + 1))) pt.data.toList).length : Int), 0) from by unfold cntRes; rw [if_neg (by omega)]] at this
          exact this
        have HC2 : Hid (∀ W, Below wb.heap.size wb W → Calls Try.prog 34 #[.pointer (some ⟨x2, 0, none⟩), .string pt] W fun e w' => e = .returned (.tuple #[.int .i64 ((Do.hits (Do.there (csAt A os (k + 1))) pt.data.toList).length : Int), .int .i64 0]) ∧ Below W.heap.size W w') := fun W hW => by
          have := hC.count pt (by omega) (by omega) (t2.quiet hC hW).idx
          rw [show cntRes (csAt A os (k + 1)) pt = (((Do.hits (Do.there (csAt A os (k + 1))) pt.data.toList).length : Int), 0) from by unfold cntRes; rw [if_neg (by omega)]] at this
          exact this
        have HP1 : Hid (∀ W, Below wb.heap.size wb W → Calls Try.prog 32 #[.pointer (some ⟨d1, 0, none⟩), .string pt, .int .i64 ((Do.size (Do.there (csAt A os (k + 1))) : Nat) : Int)] W fun e w' => ∃ u, e = .returned (.tuple #[u, .bool true]) ∧ OwnO w' W.heap.size u (Do.hits (Do.there (csAt A os (k + 1))) pt.data.toList) ∧ Below W.heap.size W w') := fun W hW => dPages_any hC pt _ p1 (by omega) hM hps HSZ.out (by omega) (t1k.quiet hC hW)
        have HP2 : Hid (∀ W, Below wb.heap.size wb W → Calls Try.prog 32 #[.pointer (some ⟨d2, 0, none⟩), .string pt, .int .i64 ((Do.size (Do.there (csAt A os (k + 1))) : Nat) : Int)] W fun e w' => ∃ u, e = .returned (.tuple #[u, .bool true]) ∧ OwnO w' W.heap.size u (Do.hits (Do.there (csAt A os (k + 1))) pt.data.toList) ∧ Below W.heap.size W w') := fun W hW => dPages_any hC pt _ p2 (by omega) hM hps HSZ.out (by omega) (t2k.quiet hC hW)
        have HXX : Hid (∀ W, Below wb.heap.size wb W → W.cell? ⟨d1, 0, none⟩ = some (.pointer (some ⟨x1, 0, none⟩)) ∧ W.cell? ⟨d1, 7, none⟩ = some (.int .i64 ((Do.size (Do.there (csAt A os (k + 1))) : Nat) : Int)) ∧ W.cell? ⟨d2, 0, none⟩ = some (.pointer (some ⟨x2, 0, none⟩)) ∧ W.cell? ⟨d2, 7, none⟩ = some (.int .i64 ((Do.size (Do.there (csAt A os (k + 1))) : Nat) : Int))) := fun W hW =>
          ⟨(t1.quiet hC hW).blk.c0, (t1.quiet hC hW).blk.c7, (t2.quiet hC hW).blk.c0, (t2.quiet hC hW).blk.c7⟩
        have HTB : Hid (∀ W, Below wb.heap.size wb W → Two At w.heap.size W d1 d2 A b1 p1 b2 p2 (csAt A os (k + 1))) := fun W hW => hTn.out.quiet hC hW
        clear t1 t2 t1k t2k hT2 hps hTn
        have hHl := HSZ.out
        have hnn : (((Do.hits (Do.there (csAt A os (k + 1))) pt.data.toList).length : Int) != ((Do.hits (Do.there (csAt A os (k + 1))) pt.data.toList).length : Int)) = false := by simp
        generalize Do.hits (Do.there (csAt A os (k + 1))) pt.data.toList = H at *
        generalize Do.size (Do.there (csAt A os (k + 1))) = z at *
        obtain ⟨v1, v7, v3, v4⟩ := HXX.out wb (Below.refl _ _)
        go_wp2_with fail
        refine (HC1.out wb (Below.refl _ _)).mono ?_
        rintro e wc ⟨rfl, bc⟩
        clear v1 v7 v3 v4
        obtain ⟨v1, v7, v3, v4⟩ := HXX.out wc bc
        have sc := bc.size
        go_wp2_with fail
        refine (HC2.out wc bc).mono ?_
        rintro e wd ⟨rfl, bd'⟩
        have sd := bd'.size
        have bd := bc.trans (bd'.mono sc)
        clear v1 v7 v3 v4 bd'
        obtain ⟨v1, v7, v3, v4⟩ := HXX.out wd bd
        go_wp2_with fail
        refine (HP1.out wd bd).mono ?_
        rintro e we ⟨ul, rfl, hul, be'⟩
        have se := be'.size
        have be := bd.trans (be'.mono (by omega))
        clear v1 v7 v3 v4 be'
        obtain ⟨v1, v7, v3, v4⟩ := HXX.out we be
        go_wp2_with fail
        refine (HP2.out we be).mono ?_
        rintro e wf ⟨uk, rfl, huk, bf'⟩
        have sf := bf'.size
        have hul2 := hul.below bf'
        have bf := be.trans (bf'.mono (by omega))
        clear v1 v7 v3 v4 bf' hul HC1 HC2 HP1 HP2 HXX
        obtain ⟨al, cl, rfl, hlc⟩ := hul2.any
        obtain ⟨ak, ck, rfl, hkc⟩ := huk.any
        have HLC : Hid (∀ k o, H[k]? = some o → ∃ g, al = some ⟨g, 0, none⟩ ∧ wf.cell? ⟨g, k * 2, none⟩ = some (.int .i64 (o.id : Int)) ∧ wf.cell? ⟨g, k * 2 + 1, none⟩ = some (.int .i64 (o.at' : Int))) := hlc
        have HKC : Hid (∀ k o, H[k]? = some o → ∃ g, ak = some ⟨g, 0, none⟩ ∧ wf.cell? ⟨g, k * 2, none⟩ = some (.int .i64 (o.id : Int)) ∧ wf.cell? ⟨g, k * 2 + 1, none⟩ = some (.int .i64 (o.at' : Int))) := hkc
        clear hlc hkc hul2 huk
        go_wp2_with fail
        have HBF : Hid (Below wb.heap.size wb wf) := bf
        have HBB : Hid (Below w.heap.size w wb) := hbb
        clear bf be bd bc hbb hbw hba r5 hbb2
        go_loopw [25] (fun i wr => ∃ j : Nat, j ≤ H.length ∧ i = .int .i64 j ∧ ∃ m, wr = wf.drewN m) (fun i _ => H.length - (intOf i).toNat)
        case atStart => exact ⟨0, Nat.zero_le _, rfl, 0, rfl⟩
        case round =>
          obtain ⟨j, hj, rfl, m, rfl⟩ := hrel
          by_cases hjl : j < H.length
          · obtain ⟨o, hoo⟩ : ∃ o, H[j]? = some o := ⟨H[j], List.getElem?_eq_getElem hjl⟩
            obtain ⟨gl, rfl, e1, e2⟩ := HLC.out j o hoo
            obtain ⟨gk, rfl, e3, e4⟩ := HKC.out j o hoo
            have n1' : ((o.id : Int) != (o.id : Int)) = false := by simp
            have n2' : ((o.at' : Int) != (o.at' : Int)) = false := by simp
            clear hoo HLC HKC
            go_wp2
            go_quiet (fail)
            go_wp2
            go_roundw
            case rel => exact ⟨j + 1, by omega, by go_num, _, rfl⟩
            case measure => simp [intOf]; omega
          · have HBW : Hid (Below wb.heap.size wb (wf.drewN m)) := below_drewN HBF.out m
            have sbb := HBB.out.size
            go_wp2
            go_roundw
            case rel => exact ⟨k + 1, by omega, by go_num, HTB.out _ HBW.out, HBB.out.trans (HBW.out.mono sbb)⟩
            case measure => simp [intOf]; omega
      · have hke : k = len := by omega
        subst hke
        obtain ⟨m1, m2, h1, h2, t1, t2, _, _, _⟩ := hTw.both
        obtain ⟨x1, vi1, vd1, f1x, t1⟩ := t1
        obtain ⟨x2, vi2, vd2, f2x, t2⟩ := t2
        have HV1 : Hid (Calls Try.prog 35 #[.pointer (some ⟨x1, 0, none⟩)] wr fun e w' => e = .returned (.int .i64 ((csAt A os k).length : Int)) ∧ Below wr.heap.size wr w') := hC.version (by omega) t1.idx
        have HV2 : Hid (∀ W, Below wr.heap.size wr W → Calls Try.prog 35 #[.pointer (some ⟨x2, 0, none⟩)] W fun e w' => e = .returned (.int .i64 ((csAt A os k).length : Int)) ∧ Below W.heap.size W w') := fun W hW => hC.version (by omega) (t2.quiet hC hW).idx
        have HX2 : Hid (∀ W, Below wr.heap.size wr W → W.cell? ⟨d2, 0, none⟩ = some (.pointer (some ⟨x2, 0, none⟩))) := fun W hW => (t2.quiet hC hW).blk.c0
        have c1 := t1.blk.c0
        have hkl : decide ((k : Int) < (k : Int)) = false := by simp
        clear t1 t2 hTw hcl
        generalize (csAt A os k).length = q at *
        go_wp2_with fail
        refine HV1.out.mono ?_
        rintro e wa ⟨rfl, ba⟩
        have c2 := HX2.out wa ba
        clear c1
        go_wp2_with fail
        refine (HV2.out wa ba).mono ?_
        rintro e wb ⟨rfl, bb⟩
        have sa := ba.size
        go_wp2_with fail
        go_ret
        exact ⟨by simp, (hbw.trans (ba.mono sw)).trans (bb.mono (by omega))⟩
end

end Go.Proofs.Ythkndfkkgncjfaa
