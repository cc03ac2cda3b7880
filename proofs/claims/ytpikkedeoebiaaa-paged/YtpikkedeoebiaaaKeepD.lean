/- Paged. -/
import Derived.Test.YtpikkedeoebiaaaDeskH
namespace Go.Proofs.Ytpikkedeoebiaaa
open Go.RowKit
set_option maxRecDepth 100000

section
variable {M : Nat} {At : World → Nat → Int → Int → Int → List Do.Chg → (Nat → Prop) → Prop}

/-- behind a step of one desk -/
theorem one_step {B dk : Nat} {w w1 : World} {a b p : Int} {cs' : List Do.Chg} {mv' : Int} {G : Nat → Prop} (hB : B ≤ w.heap.size) (hG : ∀ k, G k → B ≤ k) (hm : Moved At dk a b p cs' mv' G w w1) : (∃ G', Desk At w1 dk a b p cs' mv' G' ∧ ∀ k, G' k → B ≤ k) ∧ Below B w w1 := by
  obtain ⟨ho, G', hd, hk⟩ := hm
  exact ⟨⟨G', hd, fun k h => (hk k h).elim (hG k) (fun h => by omega)⟩, ho.os, ho.tape, ho.output, ho.size, fun k hk' => ho.block k (by omega) (fun h => by have := hG k h; omega)⟩

set_option maxHeartbeats 4000000 in
theorem paged_law (hC : Keeps M At 67 73 74 28 34 36 56 35) (hM : M ≤ 9000000000000000) (a b p n : Int) (ha : inR a) (hb : inR b) (hp : inR p) (hn : inR n) (sv : Value) (len : Nat) (os : Nat → StV) (s : ByteArray) (hs : s.size ≤ 9223372036854775807) (w : World) (hsc : Steps3 w sv len os) (hlen : len < M) :
    Calls Try.prog 13 #[.agg #[.int .i64 a, .int .i64 b, .int .i64 p], sv, .string s, .int .i64 n] w fun e w' => e = .returned (.bool true) ∧ Below w.heap.size w w' := by
  obtain ⟨a0, cap, rfl, hst⟩ := hsc
  have HST : Hid (∀ k, k < len → ∃ gb off, a0 = some ⟨gb, off, none⟩ ∧ (os k).ok ∧ ∀ j u, (stCells (os k))[j]? = some u → w.cell? ⟨gb, off + k * 3 + j, none⟩ = some u) := hst
  clear hst
  go_enter Try.func13, Try.ntmps13
  go_wp2_with fail
  have hb0 : Below w.heap.size w (w.alloc (.cells #[.int .i64 a, .int .i64 b, .int .i64 p] 51)) := (Below.refl _ _).alloc (Nat.le_refl _) _
  have hs0 : (w.alloc (.cells #[.int .i64 a, .int .i64 b, .int .i64 p] 51)).heap.size = w.heap.size + 1 := by simp
  generalize w.alloc (.cells #[.int .i64 a, .int .i64 b, .int .i64 p] 51) = w0 at *
  refine (kseated_any hC a b p ha hb hp _).mono ?_
  rintro e w1 ⟨dk, G, rfl, hd, hG, hb1⟩
  have s1 := hb1.size
  have HD0 : Hid (∃ mv G, Desk At w1 dk (cA a) (cB b) (cP p) (csAt (cA a) os 0) mv G ∧ ∀ k, G k → w.heap.size ≤ k) := ⟨0, G, hd, fun k hk => by have := hG k hk; omega⟩
  have HB1 : Hid (Below w.heap.size w w1) := hb0.trans (hb1.mono (by omega))
  clear hd hG hb0 hb1
  generalize cA a = A at *
  generalize cB b = b1 at *
  generalize cP p = p1 at *
  go_wp2_with fail
  go_loopw [10] (fun i wr => ∃ k : Nat, k ≤ len ∧ i = .int .i64 k ∧ (∃ mv G, Desk At wr dk A b1 p1 (csAt A os k) mv G ∧ ∀ k, G k → w.heap.size ≤ k) ∧ Below w.heap.size w wr) (fun i _ => len - (intOf i).toNat)
  case atStart => exact ⟨0, Nat.zero_le _, rfl, HD0.out, HB1.out⟩
  case round =>
    obtain ⟨k, hk, rfl, hdd, hbw⟩ := hrel
    clear HD0 HB1
    have hcl := csAt_len A os k
    have sw := hbw.size
    obtain ⟨mv, G1, hd, hG⟩ := hdd
    by_cases hlt : k < len
    · obtain ⟨gb, off, rfl, hok, hcs⟩ := HST.out k hlt
      have hal : gb < w.heap.size := World.block_lt_of_cell? w ⟨gb, off + k * 3 + 0, none⟩ (hcs 0 _ rfl)
      have y0 : wr.cell? ⟨gb, off + k * 3, none⟩ = some (.int .i64 (os k).k) := (hbw.cell (p := ⟨gb, off + k * 3 + 0, none⟩) hal).trans (hcs 0 _ rfl)
      have y1 : wr.cell? ⟨gb, off + k * 3 + 1, none⟩ = some (.int .i64 (os k).a) := (hbw.cell (p := ⟨gb, off + k * 3 + 1, none⟩) hal).trans (hcs 1 _ rfl)
      have y2 : wr.cell? ⟨gb, off + k * 3 + 2, none⟩ = some (.string (os k).s) := (hbw.cell (p := ⟨gb, off + k * 3 + 2, none⟩) hal).trans (hcs 2 _ rfl)
      have HS1 : Hid (Calls Try.prog 27 #[.pointer (some ⟨dk, 0, none⟩), .agg #[.int .i64 (os k).k, .int .i64 (os k).a, .string (os k).s]] wr fun e w' => e = .returned (.bool true) ∧ ∃ mv', Moved At dk A b1 p1 (csAt A os (k + 1)) mv' G1 wr w') := dStep_any hC (os k) hok (by omega) hM hd
      clear hcs hd
      go_wp2_with fail
      refine HS1.out.mono ?_
      rintro e wa ⟨rfl, mv1, hmo⟩
      obtain ⟨hd2, hb2⟩ := one_step sw hG hmo
      have HN : Hid (∃ mv G, Desk At wa dk A b1 p1 (csAt A os (k + 1)) mv G ∧ ∀ k, G k → w.heap.size ≤ k) := by
        obtain ⟨G2, q1, q2⟩ := hd2
        exact ⟨mv1, G2, q1, q2⟩
      have HB2 : Hid (Below w.heap.size w wa) := hbw.trans hb2
      clear HS1 hmo hd2 hb2 y0 y1 y2 hbw
      go_wp2_with fail
      exact ⟨⟨k + 1, by omega, by go_num, HN.out, HB2.out⟩, by simp [intOf]; omega⟩
    · have hke : k = len := by omega
      subst hke
      have hkl : decide ((k : Int) < (k : Int)) = false := by simp
      obtain ⟨x, vi, vd, F, hI⟩ := hd
      have HDK : Hid (∀ W, Below wr.heap.size wr W → DeskIn At W dk x A b1 p1 (csAt A os k) mv vi vd F G1) := fun W hW => hI.quiet hC hW
      have hsz : Do.size (Do.there (csAt A os k)) ≤ 2400 := by
        have h1 : Do.size (Do.there (csAt A os k)) ≤ 40 * (Do.there (csAt A os k)).length := Do.sizeTo_le _ hI.fair.docs _
        have h2 := hI.fair.few
        omega
      have HCH : Hid (Calls Try.prog 31 #[.pointer (some ⟨dk, 0, none⟩), .string s, .int .i64 n] wr fun e w' => ∃ q : ByteArray, e = .returned (.string q) ∧ 1 ≤ q.size ∧ q.size ≤ 16 ∧ Below wr.heap.size wr w') := dChosen_in s n hn hs hI
      have HBW : Hid (Below w.heap.size w wr) := hbw
      clear hI hG hbw
      generalize csAt A os k = cs at *
      go_wp2_with fail
      refine HCH.out.mono ?_
      rintro e wa ⟨pt, rfl, hp1, hp2, ba⟩
      have sa := ba.size
      have c7 := (HDK.out wa ba).blk.c7
      have HPG : Hid (Calls Try.prog 32 #[.pointer (some ⟨dk, 0, none⟩), .string pt, .int .i64 ((Do.size (Do.there cs) : Nat) : Int)] wa fun e w' => ∃ u, e = .returned (.tuple #[u, .bool true]) ∧ OwnO w' wa.heap.size u (Do.hits (Do.there cs) pt.data.toList) ∧ Below wa.heap.size wa w') := dPages_any hC pt _ p1 (by omega) hM ⟨hp1, hp2⟩ (Do.hits_size _ _) (by omega) ⟨x, vi, vd, F, HDK.out wa ba⟩
      have hHs : (Do.hits (Do.there cs) pt.data.toList).length ≤ Do.size (Do.there cs) := Do.hits_size _ _
      clear HCH
      go_wp2_with fail
      refine HPG.out.mono ?_
      rintro e wb ⟨u, rfl, hu, bb'⟩
      have sb := bb'.size
      have bb := ba.trans (bb'.mono sa)
      have HTO : Hid (Calls Try.prog 33 #[.pointer (some ⟨dk, 0, none⟩), .string pt, u] wb fun e w' => e = .returned (.bool true) ∧ Below wb.heap.size wb w') := dTold_in pt _ u ⟨hp1, hp2⟩ (HDK.out wb bb) hu
      obtain ⟨au, cu, rfl, _⟩ := hu.any
      clear HPG c7 bb' hu
      go_wp2_with fail
      refine HTO.out.mono ?_
      rintro e wc ⟨rfl, bc'⟩
      have sc := bc'.size
      have bc := bb.trans (bc'.mono (by omega))
      have c0 := (HDK.out wc bc).blk.c0
      have HCO : Hid (Calls Try.prog 34 #[.pointer (some ⟨x, 0, none⟩), .string pt] wc fun e w' => e = .returned (.tuple #[.int .i64 ((Do.hits (Do.there cs) pt.data.toList).length : Int), .int .i64 0]) ∧ Below wc.heap.size wc w') := by
        have := hC.count pt (by omega) (by omega) (HDK.out wc bc).idx
        rw [show cntRes cs pt = (((Do.hits (Do.there cs) pt.data.toList).length : Int), 0) from by unfold cntRes; rw [if_neg (by omega)]] at this
        exact this
      clear HTO bc'
      go_wp2_with fail
      refine HCO.out.mono ?_
      rintro e wd ⟨rfl, bd'⟩
      have sd := bd'.size
      have bd := bc.trans (bd'.mono (by omega))
      clear c0 HCO bd'
      have c0 := (HDK.out wd bd).blk.c0
      have HVE : Hid (Calls Try.prog 35 #[.pointer (some ⟨x, 0, none⟩)] wd fun e w' => e = .returned (.int .i64 (cs.length : Int)) ∧ Below wd.heap.size wd w') := hC.version (by omega) (HDK.out wd bd).idx
      go_wp2_with fail
      refine HVE.out.mono ?_
      rintro e we ⟨rfl, be'⟩
      have se := be'.size
      have be := bd.trans (be'.mono (by omega))
      clear c0 HVE be'
      have c0 := (HDK.out we be).blk.c0
      have HLO : Hid (Calls Try.prog 36 #[.pointer (some ⟨x, 0, none⟩), .string pt, .int .i64 ((cs.length : Int) + 1), .int .i64 0, .int .i64 0] we fun e w' => ∃ v, e = .returned (.tuple #[v, .bool false, .int .i64 6]) ∧ OwnO w' we.heap.size v [] ∧ Below we.heap.size we w') := by
        have := hC.locate pt ((cs.length : Int) + 1) 0 0 (by omega) (by omega) (by unfold inR; omega) (by unfold inR; omega) (by unfold inR; omega) (HDK.out we be).idx
        rw [show locRes cs p1 pt ((cs.length : Int) + 1) 0 0 = ([], false, 6) from by unfold locRes; rw [if_neg (by omega), if_pos (by omega)]] at this
        exact this
      generalize (Do.hits (Do.there cs) pt.data.toList).length = hl at *
      go_wp2_with fail
      refine HLO.out.mono ?_
      rintro e wf ⟨v, rfl, hv, bf'⟩
      have sf := bf'.size
      have bf := be.trans (bf'.mono (by omega))
      obtain ⟨av, cv, rfl, _⟩ := hv.any
      have hll : ((hl : Int) == (hl : Int)) = true := by simp
      clear c0 HLO bf' hv
      go_wp2_with fail
      go_ret
      exact ⟨by first | rfl | simp, HBW.out.trans (bf.mono HBW.out.size)⟩
end

end Go.Proofs.Ytpikkedeoebiaaa
