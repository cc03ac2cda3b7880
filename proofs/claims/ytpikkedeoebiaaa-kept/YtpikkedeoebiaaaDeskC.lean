/- Walks of the desk: deletes. -/
import Derived.Test.YtpikkedeoebiaaaDeskB
import Derived.Test.YtpikkedeoebiaaaDocF
namespace Go.Proofs.Ytpikkedeoebiaaa
open Go.RowKit
set_option maxRecDepth 100000

theorem row_any {w : World} {B : Nat} {e : TypeId} {v : Value} {n : Nat} {xs : List Value} (h : w.ownsRow B e 1 v n xs) : ∃ ao cap, v = .slice ao n cap ∧ ∀ k u, xs[k]? = some u → ∃ g, ao = some ⟨g, 0, none⟩ ∧ w.cell? ⟨g, k, none⟩ = some u := by
  rcases h.2 with ⟨rfl, h0⟩ | ⟨g, cap, cur, rfl, _⟩
  · refine ⟨none, 0, by rw [h0], fun k u hk => ?_⟩
    have h1 := h.1
    have : k < xs.length := by
      rcases Nat.lt_or_ge k xs.length with h | h
      · exact h
      · rw [List.getElem?_eq_none h] at hk; cases hk
    omega
  · refine ⟨_, cap, rfl, fun k u hk => ⟨g, rfl, ?_⟩⟩
    have h1 := h.1
    have : k < xs.length := by
      rcases Nat.lt_or_ge k xs.length with h | h
      · exact h
      · rw [List.getElem?_eq_none h] at hk; cases hk
    rw [World.ownsRow.cellAt h k (by omega)]; exact hk

section
variable {M : Nat} {At : World → Nat → Int → Int → Int → List Do.Chg → (Nat → Prop) → Prop} {w w' : World} {dk x : Nat} {a b p : Int} {cs : List Do.Chg} {mv : Int} {vi vd : Value} {F G : Nat → Prop}

/-- in the midst of the loop: the desk's old rows and the two new ones -/
structure Mid (w1 wr : World) (dk x : Nat) (a b p : Int) (vi vd : Value) (N : Nat) (L : List Do.Chg) (id mv : Int) (k : Nat) (u q : Value) : Prop where
  blk : DeskAt wr dk x a b p vi vd N ((Do.size L : Int) - (Do.remTo L id k : Int)) (Do.movTo L id mv k)
  ri : wr.ownsRow 0 3 1 vi L.length (ID L)
  rd : wr.ownsRow 0 9 1 vd L.length (SD L)
  ui : wr.ownsRow w1.heap.size 3 1 u (Do.without L id k).length (ID (Do.without L id k))
  ud : wr.ownsRow w1.heap.size 9 1 q (Do.without L id k).length (SD (Do.without L id k))
  only : Only (fun k => k = dk) w1 wr
  ld : dk < w1.heap.size
  li : ∀ g, vi.ownBlock = some g → g < w1.heap.size
  lv : ∀ g, vd.ownBlock = some g → g < w1.heap.size

theorem Mid.hit {w1 wr : World} {dk x : Nat} {a b p : Int} {vi vd : Value} {N : Nat} {L : List Do.Chg} {id mv : Int} {k : Nat} {u q : Value} {c : Do.Chg} (h : Mid w1 wr dk x a b p vi vd N L id mv k u q) (hc : L[k]? = some c) (he : (c.id : Int) = id) :
    Mid w1 ((wr.drew.setCell ⟨dk, 7, none⟩ (.int .i64 ((Do.size L : Int) - (Do.remTo L id k : Int) - (c.doc.size : Int)))).setCell ⟨dk, 8, none⟩ (.int .i64 ((c.doc.size : Int) + 1))) dk x a b p vi vd N L id mv (k + 1) u q := by
  have hd : DeskAt wr.drew dk x a b p vi vd N ((Do.size L : Int) - (Do.remTo L id k : Int)) (Do.movTo L id mv k) := h.blk
  have B := (hd.set7 ((Do.size L : Int) - (Do.remTo L id k : Int) - (c.doc.size : Int))).set8 ((c.doc.size : Int) + 1)
  have hvi : vi.ownBlock ≠ some dk := h.blk.apart h.ri (by decide)
  have hvd : vd.ownBlock ≠ some dk := h.blk.apart h.rd (by decide)
  have hu : u.ownBlock ≠ some dk := h.blk.apart h.ui (by decide)
  have hq : q.ownBlock ≠ some dk := h.blk.apart h.ud (by decide)
  have keep : ∀ {e : TypeId} {b0 n : Nat} {xs : List Value} {v : Value}, wr.ownsRow b0 e 1 v n xs → v.ownBlock ≠ some dk → ((wr.drew.setCell ⟨dk, 7, none⟩ (.int .i64 ((Do.size L : Int) - (Do.remTo L id k : Int) - (c.doc.size : Int)))).setCell ⟨dk, 8, none⟩ (.int .i64 ((c.doc.size : Int) + 1))).ownsRow b0 e 1 v n xs := fun hr hn => ownsRow_setCell_other (a := ⟨dk, 8, none⟩) (ownsRow_setCell_other (a := ⟨dk, 7, none⟩) (show wr.drew.ownsRow _ _ _ _ _ _ from hr) hn _) hn _
  refine ⟨?_, keep h.ri hvi, keep h.rd hvd, ?_, ?_, ?_, h.ld, h.li, h.lv⟩
  · rw [Do.remTo_hit L id k c hc he, Do.movTo_hit L id mv k c hc he]
    have e : ((Do.size L : Int) - ((Do.remTo L id k + c.doc.size : Nat) : Int)) = (Do.size L : Int) - (Do.remTo L id k : Int) - (c.doc.size : Int) := by omega
    rw [e]; exact B
  · rw [Do.without_miss L id k c hc he]; exact keep h.ui hu
  · rw [Do.without_miss L id k c hc he]; exact keep h.ud hq
  · exact ((h.only.trans (Only.of_below ((Below.refl wr.heap.size wr).drew))).trans (Only.setCell ⟨dk, 7, none⟩ _ rfl)).trans (Only.setCell ⟨dk, 8, none⟩ _ rfl)

theorem Mid.miss {w1 wr w3 w5 : World} {dk x : Nat} {a b p : Int} {vi vd : Value} {N : Nat} {L : List Do.Chg} {id mv : Int} {k : Nat} {u q u' q' : Value} {c : Do.Chg} {o o5 : Obj} (h : Mid w1 wr dk x a b p vi vd N L id mv k u q) (hc : L[k]? = some c) (he : ¬ (c.id : Int) = id)
    (n1 : w3.ownsRow w1.heap.size 3 1 u' ((Do.without L id k).length + 1) (ID (Do.without L id k) ++ [.int .i64 (c.id : Int)])) (n2 : (wr.alloc o).grownBy w3 u.ownBlock)
    (m1 : w5.ownsRow w1.heap.size 9 1 q' ((Do.without L id k).length + 1) (SD (Do.without L id k) ++ [.string c.doc])) (m2 : (w3.alloc o5).grownBy w5 q.ownBlock) (hq : ∀ g, q.ownBlock = some g → g < wr.heap.size) :
    Mid w1 w5 dk x a b p vi vd N L id mv (k + 1) u' q' := by
  have s3 := n2.size
  have s5 := m2.size
  simp at s3 s5
  have so := h.only.size
  have low : ∀ g, g < w1.heap.size → w5.heap[g]? = wr.heap[g]? := fun g hg => by
    rw [m2.block g (by simp; omega) (fun e => by have := (World.ownsRow.lt h.ud g e.symm).1; omega), Below.heap_alloc w3 o5 g (by omega), n2.block g (by simp; omega) (fun e => by have := (World.ownsRow.lt h.ui g e.symm).1; omega), Below.heap_alloc wr o g (by omega)]
  have hq3 : w3.ownsRow w1.heap.size 9 1 q (Do.without L id k).length (SD (Do.without L id k)) := row_kept h.ud fun g hg => by
    rw [n2.block g (by have := hq g hg; simp; omega) (fun e => kinds_apartE h.ui h.ud (by decide) e.symm hg), Below.heap_alloc wr o g (hq g hg)]
  refine ⟨?_, row_kept h.ri fun g hg => low g (h.li g hg), row_kept h.rd fun g hg => low g (h.lv g hg), ?_, ?_, ?_, h.ld, h.li, h.lv⟩
  · rw [Do.remTo_miss L id k c hc he, Do.movTo_miss L id mv k c hc he]
    exact h.blk.same (low dk h.ld)
  · rw [Do.without_hit L id k c hc he, List.length_append]
    have e : ID (Do.without L id k ++ [c]) = ID (Do.without L id k) ++ [.int .i64 (c.id : Int)] := by simp [ID]
    rw [e]
    refine row_kept n1 fun g hg => ?_
    have hgl := (World.ownsRow.lt n1 g hg).2
    rw [m2.block g (by simp; omega) (fun e' => kinds_apartE n1 hq3 (by decide) hg e'.symm), Below.heap_alloc w3 o5 g hgl]
  · rw [Do.without_hit L id k c hc he, List.length_append]
    have e : SD (Do.without L id k ++ [c]) = SD (Do.without L id k) ++ [.string c.doc] := by simp [SD]
    rw [e]; exact m1
  · refine ⟨(m2.os.trans (n2.os)).trans h.only.os, (m2.tape.trans n2.tape).trans h.only.tape, (m2.output.trans n2.output).trans h.only.output, by omega, fun g hg hne => ?_⟩
    rw [low g hg]; exact h.only.block g hg hne

theorem Mid.drawn {w1 wr : World} {dk x : Nat} {a b p : Int} {vi vd : Value} {N : Nat} {L : List Do.Chg} {id mv : Int} {k : Nat} {u q : Value} (h : Mid w1 wr dk x a b p vi vd N L id mv k u q) (m : Nat) : Mid w1 (wr.drewN m) dk x a b p vi vd N L id mv k u q :=
  ⟨h.blk, h.ri, h.rd, h.ui, h.ud, h.only.trans (Only.of_below (below_drewN (Below.refl _ _) m)), h.ld, h.li, h.lv⟩

theorem Mid.fin {w1 wr : World} {Fn : Nat → Prop} {id : Int} {u q : Value} (hC : Keeps M At 67 73 74 28 34 36 56 35) (h : DeskIn At w dk x a b p cs mv vi vd F G) (ho : Only F w w1) (hFn : At w1 x a b p (delRes cs id).2 Fn) (hFm : ∀ k, Fn k → F k ∨ w.heap.size ≤ k)
    (hM : Mid w1 wr dk x a b p vi vd (insTo cs cs.length) (Do.there cs) id mv (Do.there cs).length u q) :
    Moved At dk a b p (delRes cs id).2 (Do.movTo (Do.there cs) id mv (Do.there cs).length) G w ((wr.setCell ⟨dk, 4, none⟩ u).setCell ⟨dk, 5, none⟩ q) := by
  have B := (hM.blk.set4 u).set5 q
  have hu : u.ownBlock ≠ some dk := hM.blk.apart hM.ui (by decide)
  have hq : q.ownBlock ≠ some dk := hM.blk.apart hM.ud (by decide)
  have so := ho.size
  have sr := hM.only.size
  have ndk : ¬ Fn dk := fun hf => by
    rcases hFm dk hf with h1 | h1
    · exact h.nd h1
    · have := h.lt dk h.gd; omega
  have hFl := hC.lt hFn
  have same : ∀ k, k < w1.heap.size → k ≠ dk → ((wr.setCell ⟨dk, 4, none⟩ u).setCell ⟨dk, 5, none⟩ q).heap[k]? = w1.heap[k]? := fun k hk hne => by
    rw [Below.heap_setCell _ ⟨dk, 5, none⟩ _ k hne, Below.heap_setCell _ ⟨dk, 4, none⟩ _ k hne]; exact hM.only.block k hk hne
  have zz : ((wr.setCell ⟨dk, 4, none⟩ u).setCell ⟨dk, 5, none⟩ q).heap.size = wr.heap.size := by simp
  have keep : ∀ {e : TypeId} {b0 n : Nat} {xs : List Value} {v : Value}, wr.ownsRow b0 e 1 v n xs → v.ownBlock ≠ some dk → ((wr.setCell ⟨dk, 4, none⟩ u).setCell ⟨dk, 5, none⟩ q).ownsRow 0 e 1 v n xs := fun {e b0 n xs v} hr hn => by
    have h1 := ownsRow_setCell_other (a := ⟨dk, 5, none⟩) (ownsRow_setCell_other (a := ⟨dk, 4, none⟩) hr hn u) hn q
    refine ⟨h1.1, ?_⟩
    rcases h1.2 with h2 | ⟨g, cap, cur, e', hB, rest⟩
    · exact .inl h2
    · exact .inr ⟨g, cap, cur, e', Nat.zero_le _, rest⟩
  have hsw := Do.size_without (Do.there cs) id (Do.there cs).length (Nat.le_refl _)
  refine ⟨?_, fun k => Fn k ∨ k = dk ∨ u.ownBlock = some k ∨ q.ownBlock = some k, ⟨x, u, q, Fn, ?_⟩, ?_⟩
  · refine ⟨hM.only.os.trans ho.os, hM.only.tape.trans ho.tape, hM.only.output.trans ho.output, by omega, fun k hk hg => ?_⟩
    rw [same k (by omega) (fun e => hg (by rw [e]; exact h.gd))]
    exact ho.block k hk (fun hf => hg (h.gf k hf))
  · exact {
      blk := by
        rw [delRes_there, delRes_next]
        have e : ((Do.size (Do.there cs) : Int) - (Do.remTo (Do.there cs) id (Do.there cs).length : Int)) = ((Do.size (Do.without (Do.there cs) id (Do.there cs).length) : Nat) : Int) := by
          show ((Do.sizeTo (Do.there cs) (Do.there cs).length : Int) - _) = _
          omega
        rw [← e]; exact B
      ri := by rw [delRes_there]; exact keep hM.ui hu
      rd := by rw [delRes_there]; exact keep hM.ud hq
      idx := hC.frame hFn (by omega) fun k hk => same k (hFl k hk) (fun e => ndk (by rw [← e]; exact hk))
      fair := h.fair.del id
      conf := h.conf
      nd := ndk
      ni := fun g hg hf => by have h1 := (World.ownsRow.lt hM.ui g hg).1; have := hFl g hf; omega
      nv := fun g hg hf => by have h1 := (World.ownsRow.lt hM.ud g hg).1; have := hFl g hf; omega
      gd := .inr (.inl rfl)
      gf := fun k hk => .inl hk
      gi := fun g hg => .inr (.inr (.inl hg))
      gv := fun g hg => .inr (.inr (.inr hg))
      lt := fun k hk => by
        rw [zz]
        rcases hk with hk | rfl | hk | hk
        · have := hFl k hk; omega
        · exact hM.blk.lt
        · exact (World.ownsRow.lt hM.ui k hk).2
        · exact (World.ownsRow.lt hM.ud k hk).2 }
  · intro k hk
    rcases hk with hk | rfl | hk | hk
    · exact (hFm k hk).imp (h.gf k) (fun h => h)
    · exact .inl h.gd
    · right; have := (World.ownsRow.lt hM.ui k hk).1; omega
    · right; have := (World.ownsRow.lt hM.ud k hk).1; omega

set_option maxHeartbeats 2000000 in
theorem dDeletes_in (hC : Keeps M At 67 73 74 28 34 36 56 35) (id : Int) (hm : cs.length ≤ M) (hid : inR id) (h : DeskIn At w dk x a b p cs mv vi vd F G) :
    Calls Try.prog 54 #[.pointer (some ⟨dk, 0, none⟩), .int .i64 id] w fun e w' => e = .returned (.bool true) ∧ Moved At dk a b p (delRes cs id).2 (Do.movTo (Do.there cs) id mv (Do.there cs).length) G w w' := by
  obtain ⟨i0, hi, hz0, hz1, hz2⟩ := info_parts Try.info3
  obtain ⟨j0, hj, hy0, hy1, hy2⟩ := info_parts Try.info9
  have hI := hC.delete id hm hid h.idx
  have HI : Hid (Calls Try.prog 74 #[.pointer (some ⟨x, 0, none⟩), .int .i64 id] w fun e w' => e = .returned (.int .i64 (delRes cs id).1) ∧ Only F w w' ∧ ∃ G, At w' x a b p (delRes cs id).2 G ∧ ∀ k, G k → F k ∨ w.heap.size ≤ k) := hI
  have c0 := h.blk.c0
  have hfew := h.fair.few
  have hsz : Do.size (Do.there cs) ≤ 40 * (Do.there cs).length := Do.sizeTo_le _ h.fair.docs _
  have HD : Hid (∀ c ∈ Do.there cs, c.doc.size ≤ 40) := h.fair.docs
  clear hI
  go_enter Try.func54, Try.ntmps54
  go_wp2_with fail
  refine HI.out.mono ?_
  rintro e w1 ⟨rfl, ho, Fn, hFn, hFm⟩
  obtain ⟨t1, t2, t3⟩ := h.turned ho
  clear HI c0
  have hlow : ∀ g, vi.ownBlock = some g → g < w1.heap.size := fun g hg => (World.ownsRow.lt t2 g hg).2
  have hlod : ∀ g, vd.ownBlock = some g → g < w1.heap.size := fun g hg => (World.ownsRow.lt t3 g hg).2
  have HM0 : Hid (Mid w1 w1 dk x a b p vi vd (insTo cs cs.length) (Do.there cs) id mv 0 (.slice none 0 0) (.slice none 0 0)) := ⟨by simpa [Do.remTo, Do.movTo] using t1, t2, t3, World.ownsRow_nil _ _ _ _, World.ownsRow_nil _ _ _ _, Only.refl _ _, t1.lt, hlow, hlod⟩
  generalize hE : (delRes cs id).1 = er
  generalize hLL : Do.there cs = L at *
  have HE : Hid ((delRes cs id).1 = er) := hE
  have HLL : Hid (Do.there cs = L) := hLL
  clear hE hLL t1 t2 t3
  go_wp2_with fail
  go_loopw [6, 7, 8, 9] (fun u q th i wr => ∃ k : Nat, k ≤ L.length ∧ i = .int .i64 k ∧ th = .bool (Do.anyTo L id k) ∧ Mid w1 wr dk x a b p vi vd (insTo cs cs.length) L id mv k u q) (fun _ _ _ i _ => L.length - (intOf i).toNat)
  case atStart => exact ⟨0, Nat.zero_le _, rfl, rfl, HM0.out⟩
  case round =>
    obtain ⟨k, hk, rfl, rfl, hM⟩ := hrel
    clear HM0
    have c4 := hM.blk.c4
    have c5 := hM.blk.c5
    have c7 := hM.blk.c7
    have f7 := hM.blk.free 7
    obtain ⟨ai, ci, hvi, hri⟩ := row_any hM.ri
    obtain ⟨ad, cd, hvd, hrd⟩ := row_any hM.rd
    have hrs : Do.remTo L id k ≤ Do.size L := Nat.le_trans (Do.rem_le L id k hk) (Do.sizeTo_mono L k L.length hk)
    by_cases hlt : k < L.length
    · obtain ⟨c, hck⟩ : ∃ c, L[k]? = some c := ⟨L[k], List.getElem?_eq_getElem hlt⟩
      have hcd := HD.out c (List.mem_of_getElem? hck)
      obtain ⟨gi, rfl, e4⟩ := hri k (.int .i64 (c.id : Int)) (by simp [ID, hck])
      obtain ⟨gd, rfl, e5⟩ := hrd k (.string c.doc) (by simp [SD, hck])
      rw [hvi] at c4
      rw [hvd] at c5
      have HM : Hid (Mid w1 wr dk x a b p vi vd (insTo cs cs.length) L id mv k u6 u7) := hM
      have HCK : Hid (L[k]? = some c) := hck
      by_cases he : (c.id : Int) = id
      · have he1 : ((c.id : Int) == id) = true := by rw [beq_iff_eq]; exact he
        have HN := HM.out.hit hck he
        have HA : Hid (Do.anyTo L id (k + 1) = true) := Do.anyTo_hit L id k c hck he
        have HNN : Hid (Mid w1 (((wr.setCell ⟨dk, 7, none⟩ (.int .i64 ((Do.size L : Int) - (Do.remTo L id k : Int) - (c.doc.size : Int)))).drew).setCell ⟨dk, 8, none⟩ (.int .i64 ((c.doc.size : Int) + 1))) dk x a b p vi vd (insTo cs cs.length) L id mv (k + 1) u6 u7) := HN
        have B7 := (show DeskAt wr.drew dk x a b p vi vd (insTo cs cs.length) ((Do.size L : Int) - (Do.remTo L id k : Int)) (Do.movTo L id mv k) from hM.blk).set7 ((Do.size L : Int) - (Do.remTo L id k : Int) - (c.doc.size : Int))
        have B7' : DeskAt ((wr.setCell ⟨dk, 7, none⟩ (.int .i64 ((Do.size L : Int) - (Do.remTo L id k : Int) - (c.doc.size : Int)))).drew) dk x a b p vi vd (insTo cs cs.length) ((Do.size L : Int) - (Do.remTo L id k : Int) - (c.doc.size : Int)) (Do.movTo L id mv k) := B7
        have c57 := B7'.c5
        have c87 := B7'.c8
        have f87 := B7'.free 8
        have f77 := B7'.free 7
        rw [hvd] at c57
        have hgd : gd ≠ dk := fun e => hM.blk.apart hM.rd (by decide) (by rw [hvd, e]; rfl)
        have e57 : ((wr.setCell ⟨dk, 7, none⟩ (.int .i64 ((Do.size L : Int) - (Do.remTo L id k : Int) - (c.doc.size : Int)))).drew).cell? ⟨gd, k, none⟩ = some (.string c.doc) := by
          show (wr.setCell ⟨dk, 7, none⟩ _).cell? ⟨gd, k, none⟩ = some (.string c.doc)
          rw [World.cell?_of_block (a := ⟨gd, k, none⟩) (Below.heap_setCell wr ⟨dk, 7, none⟩ _ gd hgd)]; exact e5
        have hwz : IntKind.i64.wrap ((Do.size L : Int) - (Do.remTo L id k : Int) - (c.doc.size : Int)) = (Do.size L : Int) - (Do.remTo L id k : Int) - (c.doc.size : Int) := by rw [IntKind.wrap_i64]; omega
        clear hM HN B7 B7' he hck hvi hvd hri hrd HCK HM
        go_wp2_with fail
        refine wp_region_held_drew (S := fun w' => w'.cell? ⟨dk, 5, none⟩ = some (.slice (some ⟨gd, 0, none⟩) L.length cd) ∧ w'.cell? ⟨gd, k, none⟩ = some (.string c.doc) ∧ w'.frozen? ⟨dk, 7, none⟩ = false) (by kernel_rfl) ⟨c5, e5, f7⟩ (fun hHeld => ?_)
        refine wpAnyH_take (i := 0) (v := ?a0) rfl (by kernel_rfl) (by kernel_rfl) (by kernel_rfl) (fun _ _ _ h => h) (Or.inl ⟨by rfl, ?hya0⟩) (by assumption) ?resta0
        case hya0 => intro w hSw; (try dsimp only at hSw); go_simp; (try with_reducible rfl)
        simp only [Act.put]
        refine wpAnyH_take (i := 1) (v := ?a1) rfl (by kernel_rfl) (by kernel_rfl) (by kernel_rfl) (fun _ _ _ h => h) (Or.inl ⟨by rfl, ?hya1⟩) (by assumption) ?resta1
        case hya1 => intro w hSw; (try dsimp only at hSw); go_simp; (try with_reducible rfl)
        simp only [Act.put]
        refine wpAnyH_take (i := 2) (v := ?a2) rfl (by kernel_rfl) (by kernel_rfl) (by kernel_rfl) (fun _ _ _ h => h) (Or.inl ⟨by rfl, ?hya2⟩) (by assumption) ?resta2
        case hya2 => intro w hSw; (try dsimp only at hSw); go_simp; (try with_reducible rfl)
        simp only [Act.put]
        refine wpAnyH_take (i := 3) (v := ?a3) rfl (by kernel_rfl) (by kernel_rfl) (by kernel_rfl) (fun _ _ _ h => h) (Or.inl ⟨by rfl, ?hya3⟩) (by assumption) ?resta3
        case hya3 => intro w hSw; (try dsimp only at hSw); go_simp; (try with_reducible rfl)
        simp only [Act.put]
        refine wpAnyH_take (i := 5) (v := ?a5) rfl (by kernel_rfl) (by kernel_rfl) (by kernel_rfl) (fun _ _ _ h => h) (Or.inl ⟨by rfl, ?hya5⟩) (by assumption) ?resta5
        case hya5 => intro w hSw; (try dsimp only at hSw); go_simp; (try with_reducible rfl)
        simp only [Act.put]
        refine wpAnyH_take (i := 6) (v := ?a6) rfl (by kernel_rfl) (by kernel_rfl) (by kernel_rfl) (fun _ _ _ h => h) (Or.inl ⟨by rfl, ?hya6⟩) (by assumption) ?resta6
        case hya6 => intro w hSw; (try dsimp only at hSw); go_simp; (try with_reducible rfl)
        simp only [Act.put]
        refine wpAnyH_take (i := 7) (v := ?a7) rfl (by kernel_rfl) (by kernel_rfl) (by kernel_rfl) (fun _ _ _ h => h) (Or.inl ⟨by rfl, ?hya7⟩) (by assumption) ?resta7
        case hya7 => intro w hSw; (try dsimp only at hSw); go_simp; (try with_reducible rfl)
        simp only [Act.put]
        refine wpAnyH_take (i := 8) (v := ?a8) rfl (by kernel_rfl) (by kernel_rfl) (by kernel_rfl) (fun _ _ _ h => h) (Or.inl ⟨by rfl, ?hya8⟩) (by assumption) ?resta8
        case hya8 => intro w hSw; (try dsimp only at hSw); go_simp; (try with_reducible rfl)
        simp only [Act.put]
        refine wpAnyH_take (i := 9) (v := ?a9) rfl (by kernel_rfl) (by kernel_rfl) (by kernel_rfl) (fun _ _ _ h => h) (Or.inl ⟨by rfl, ?hya9⟩) (by assumption) ?resta9
        case hya9 => intro w hSw; (try dsimp only at hSw); go_simp; (try with_reducible rfl)
        simp only [Act.put]
        refine wpAnyH_take (i := 10) (v := ?a10) rfl (by kernel_rfl) (by kernel_rfl) (by kernel_rfl) (fun _ _ _ h => h) (Or.inl ⟨by rfl, ?hya10⟩) (by assumption) ?resta10
        case hya10 => intro w hSw; (try dsimp only at hSw); go_simp; (try with_reducible rfl)
        simp only [Act.put]
        refine wpAnyH_take (i := 11) (v := ?a11) rfl (by kernel_rfl) (by kernel_rfl) (by kernel_rfl) (fun _ _ _ h => h) (Or.inl ⟨by rfl, ?hya11⟩) (by assumption) ?resta11
        case hya11 => intro w hSw; (try dsimp only at hSw); go_simp; (try with_reducible rfl)
        simp only [Act.put]
        refine wpAnyH_take (i := 12) (v := ?a12) rfl (by kernel_rfl) (by kernel_rfl) (by kernel_rfl) (fun _ _ _ h => h) (Or.inl ⟨by rfl, ?hya12⟩) (by assumption) ?resta12
        case hya12 => intro w hSw; (try dsimp only at hSw); go_simp; (try with_reducible rfl)
        simp only [Act.put]
        refine wpAnyH_ready (rs := [4]) (by kernel_rfl) (by simp) ?_
        refine AllReadyH.cons rfl (fun K hK => ?_) AllReadyH.nil
        go_simp
        refine hK.out _ _ (by exact hHeld) (fun hHeld => ?_)
        clear hK K
        refine wpAnyH_take (i := 13) (v := ?b13) rfl (by kernel_rfl) (by kernel_rfl) (by kernel_rfl) (fun _ _ _ h => h) (Or.inl ⟨by rfl, ?hyb13⟩) (by assumption) ?restb13
        case hyb13 => intro w hSw; (try dsimp only at hSw); go_simp; (try with_reducible rfl)
        simp only [Act.put]
        refine wpAnyH_take (i := 14) (v := ?b14) rfl (by kernel_rfl) (by kernel_rfl) (by kernel_rfl) (fun _ _ _ h => h) (Or.inl ⟨by rfl, ?hyb14⟩) (by assumption) ?restb14
        case hyb14 => intro w hSw; (try dsimp only at hSw); go_simp; (try with_reducible rfl)
        simp only [Act.put]
        refine wpAnyH_take (i := 15) (v := ?b15) rfl (by kernel_rfl) (by kernel_rfl) (by kernel_rfl) (fun _ _ _ h => h) (Or.inl ⟨by rfl, ?hyb15⟩) (by assumption) ?restb15
        case hyb15 => intro w hSw; (try dsimp only at hSw); go_simp; (try with_reducible rfl)
        simp only [Act.put]
        refine wpAnyH_ready (rs := [16]) (by kernel_rfl) (by simp) ?_
        refine AllReadyH.cons rfl (fun K hK => ?_) AllReadyH.nil
        go_simp
        refine hK.out _ _ ⟨c57, e57, f77⟩ (fun hHeld => ?_)
        clear hK K hHeld
        refine wpAnyH_done (by kernel_rfl) ?_ _
        go_wp2
        go_roundw
        case rel => exact ⟨k + 1, by omega, by go_num, by rw [HA.out], HNN.out⟩
        case measure => simp [intOf]; omega
      · have he1 : ((c.id : Int) == id) = false := by rw [beq_eq_false_iff_ne]; exact he
        have HA : Hid (Do.anyTo L id (k + 1) = Do.anyTo L id k) := Do.anyTo_miss L id k c hck he
        have hgi : gi < w1.heap.size := hM.li gi (by rw [hvi]; rfl)
        have hgd : gd < w1.heap.size := hM.lv gd (by rw [hvd]; rfl)
        have hld := hM.ld
        have hwl := Do.without_len L id k
        have so := hM.only.size
        have hui := hM.ui
        have hqq : ∀ g, u7.ownBlock = some g → g < wr.heap.size := fun g hg => (World.ownsRow.lt hM.ud g hg).2
        have HLO : Hid (∀ (o : Obj) (w3 : World), (wr.alloc o).grownBy w3 u6.ownBlock → (∀ g, g < w1.heap.size → w3.heap[g]? = wr.heap[g]?) ∧ w3.ownsRow w1.heap.size 9 1 u7 (Do.without L id k).length (SD (Do.without L id k)) ∧ w1.heap.size ≤ w3.heap.size) := fun o w3 n2 =>
          ⟨fun g hg => by rw [n2.block g (by simp; omega) (fun e => by have := (World.ownsRow.lt hM.ui g e.symm).1; omega), Below.heap_alloc wr o g (by omega)],
           row_kept hM.ud fun g hg => by rw [n2.block g (by have := hqq g hg; simp; omega) (fun e => kinds_apartE hM.ui hM.ud (by decide) e.symm hg), Below.heap_alloc wr o g (hqq g hg)],
           by have := n2.size; simp at this; omega⟩
        have HE9 : Hid (¬ (c.id : Int) = id) := he
        clear he hck hM hri hrd
        go_wp2_with (at_builtin; first | (refine wpList_append_own _ rfl _ _ 26 rfl w1.heap.size 3 i0 (.int .i64 0) 1 8 Try.underlying26 hi hz0 hz1 hz2 rfl (by decide) _ _ _ rfl (World.ownsRow.alloc hui _) ⟨wr.heap.size, 0, none⟩ 1 1 [.int .i64 (c.id : Int)] rfl rfl (cell_one_new _ _ _) (by intro u hu2; simp at hu2; subst hu2; rfl) (by unfold maxLen; omega) (by omega) (by simp; omega) ?_; intro u' w3 n1 n2 _; have hlo := (HLO.out _ w3 n2).1; have c53 := (World.cell?_of_block (a := ⟨dk, 5, none⟩) (hlo dk hld)).trans c5; have e53 := (World.cell?_of_block (a := ⟨gd, k, none⟩) (hlo gd hgd)).trans e5; have V3 := (HLO.out _ w3 n2).2.1; have sz3 := (HLO.out _ w3 n2).2.2) | (refine wpList_append_own _ rfl _ _ 59 rfl w1.heap.size 9 j0 (.string ⟨#[]⟩) 1 16 Try.underlying59 hj hy0 hy1 hy2 rfl (by decide) _ _ _ rfl (World.ownsRow.alloc V3 _) ⟨w3.heap.size, 0, none⟩ 1 1 [.string c.doc] rfl rfl (cell_one_new _ _ _) (by intro u hu2; simp at hu2; subst hu2; rfl) (by unfold maxLen; omega) (by omega) (by simp; omega) ?_; intro q' w5 m1 m2 _))
        have HN := HM.out.miss HCK.out HE9.out n1 n2 m1 m2 hqq
        clear HM HLO n1 n2 m1 m2 V3 hui
        go_roundw
        case rel => exact ⟨k + 1, by omega, by go_num, by rw [HA.out], HN⟩
        case measure => simp [intOf]; omega
    · have hke : k = L.length := by omega
      subst hke
      have f4 := hM.blk.free 4
      have B4 := hM.blk.set4 u6
      have c54 := B4.c5
      have f54 := B4.free 5
      obtain ⟨au, cu, hu6, _⟩ := row_any hM.ui
      obtain ⟨aq, cq, hu7, _⟩ := row_any hM.ud
      have HEN : Hid ((Do.at? L id = none ∧ er = 4 ∧ Do.anyTo L id L.length = false) ∨ (er = 0 ∧ Do.anyTo L id L.length = true)) := by
        show _ ∨ _
        cases hat : Do.at? L id with
        | none =>
          left
          refine ⟨rfl, ?_, Do.any_none L id hat _⟩
          rw [← HE.out]; unfold delRes; rw [HLL.out, hat]
        | some j =>
          right
          obtain ⟨c, hc, hcid⟩ := at_get _ _ _ hat
          refine ⟨?_, Do.any_some L id j c hc hcid _ ?_⟩
          · rw [← HE.out]; unfold delRes; rw [HLL.out, hat]; simp only [hc]
          · rcases Nat.lt_or_ge j L.length with h1 | h1
            · exact h1
            · rw [List.getElem?_eq_none h1] at hc; cases hc
      have HFI : Hid (Moved At dk a b p (delRes cs id).2 (Do.movTo L id mv L.length) G w ((wr.setCell ⟨dk, 4, none⟩ u6).setCell ⟨dk, 5, none⟩ u7)) := by
        have hM' := hM
        rw [← HLL.out] at hM'
        have := Mid.fin hC h ho hFn hFm hM'
        rw [HLL.out] at this
        exact this
      rw [← HLL.out] at HFI
      clear h hM B4 hri hrd ho hFn
      rw [hvi] at c4
      subst hu6
      subst hu7
      rcases HEN.out with ⟨_, q1, q2⟩ | ⟨q1, q2⟩
      · rw [q2]
        subst q1
        clear HEN
        go_wp2
        go_ret
        exact ⟨rfl, HFI.out⟩
      · rw [q2]
        subst q1
        clear HEN
        go_wp2
        go_ret
        exact ⟨rfl, HFI.out⟩

theorem dDeletes_any (hC : Keeps M At 67 73 74 28 34 36 56 35) (id : Int) (hm : cs.length ≤ M) (hid : inR id) (h : Desk At w dk a b p cs mv G) :
    Calls Try.prog 54 #[.pointer (some ⟨dk, 0, none⟩), .int .i64 id] w fun e w' => e = .returned (.bool true) ∧ Moved At dk a b p (delRes cs id).2 (Do.movTo (Do.there cs) id mv (Do.there cs).length) G w w' := by
  obtain ⟨x, vi, vd, F, h⟩ := h
  exact dDeletes_in hC id hm hid h
end

end Go.Proofs.Ytpikkedeoebiaaa
