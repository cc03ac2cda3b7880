/- BASE2. keepHits: what came out is laid into the drawer. -/
import Derived.Test.YtpikkedeoebiaaaLawN
namespace Go.Proofs.Ytpikkedeoebiaaa
open Go.RowKit
set_option maxRecDepth 100000

theorem Try.info66 : (Try.prog.info? 66).map (fun i => (i.zero, i.size, i.bytes)) = some (some (.slice none 0 0), 1, 24) := by kernel_rfl

/-- the row of l, as far as it is written over -/
def OverH (w : World) (v : Value) (len k : Nat) (x : Int) : Prop := ∃ xs, w.ownsRow 0 77 2 v len xs ∧ ∀ j, j < k * 2 → xs[j]? = some (.int .i64 x)
theorem OverH.put {w : World} {g len cap k : Nat} {x : Int} (h : OverH w (.slice (some ⟨g, 0, none⟩) len cap) len k x) (hk : k < len) : OverH ((w.setCell ⟨g, k * 2, none⟩ (.int .i64 x)).setCell ⟨g, k * 2 + 1, none⟩ (.int .i64 x)) (.slice (some ⟨g, 0, none⟩) len cap) len (k + 1) x := by
  obtain ⟨xs, h1, h2⟩ := h
  have hl := h1.1
  have s1 := (World.ownsRow.stored h1 (k * 2) (.int .i64 x)).1
  have s2 := (World.ownsRow.stored s1 (k * 2 + 1) (.int .i64 x)).1
  refine ⟨_, s2, fun j hj => ?_⟩
  rw [List.getElem?_set]
  by_cases e : k * 2 + 1 = j
  · subst e
    rw [if_pos rfl, if_pos (by rw [List.length_set]; omega)]
  · rw [if_neg e, List.getElem?_set]
    by_cases e2 : k * 2 = j
    · subst e2
      rw [if_pos rfl, if_pos (by omega)]
    · rw [if_neg e2]; exact h2 j (by omega)
theorem OverH.all {w : World} {len : Nat} {v : Value} {x : Int} (h : OverH w v len len x) : w.ownsRow 0 77 2 v len (List.replicate (len * 2) (.int .i64 x)) := by
  obtain ⟨xs, h1, h2⟩ := h
  have e : xs = List.replicate (len * 2) (.int .i64 x) := by
    have hl := h1.1
    refine List.ext_getElem? (fun j => ?_)
    rcases Nat.lt_or_ge j (len * 2) with hj | hj
    · rw [h2 j hj, List.getElem?_replicate, if_pos hj]
    · rw [List.getElem?_eq_none (by omega), List.getElem?_eq_none (by simpa using hj)]
  rw [← e]; exact h1

theorem readsH_of_row {w : World} {g n cap : Nat} {xs : List Value} {x : Int} (h : w.ownsRow 0 77 2 (.slice (some ⟨g, 0, none⟩) n cap) n xs) (hx : ∀ u ∈ xs, u = .int .i64 x) (hn : n ≤ 1000000) : ReadsH w (.slice (some ⟨g, 0, none⟩) n cap) x := by
  refine ⟨_, n, cap, rfl, hn, fun i hi => ⟨g, rfl, ?_, ?_⟩⟩
  · have hl := h.1
    rw [World.ownsRow.cellAt h (i * 2) (by omega), List.getElem?_eq_getElem (by omega), hx _ (List.getElem_mem _)]
  · have hl := h.1
    rw [World.ownsRow.cellAt h (i * 2 + 1) (by omega), List.getElem?_eq_getElem (by omega), hx _ (List.getElem_mem _)]
theorem readsH_rep {w : World} {v : Value} {n : Nat} {x : Int} (h : w.ownsRow 0 77 2 v n (List.replicate (n * 2) (.int .i64 x))) (hn : n ≤ 1000000) : ReadsH w v x := by
  rcases h.2 with ⟨rfl, h0⟩ | ⟨g, cap, cur, rfl, _⟩
  · exact ⟨none, 0, 0, rfl, by omega, fun i hi => by omega⟩
  · exact readsH_of_row h (fun u hu => (List.mem_replicate.1 hu).2) hn

/-- between the appends: the drawer, the list, and the lists made of it -/
structure KpH (m : Nat) (x : Int) (w0 w : World) (D : Nat) (F : Nat → Prop) (vi vh vn vm : Value) (Li Lh : List (Value × Int)) (v : Value) (len : Nat) (S : List Value) : Prop where
  dr : DAt m x w D F vi vh vn vm Li Lh
  row : w.ownsRow 0 77 2 v len (List.replicate (len * 2) (.int .i64 x))
  only : Only (fun k => F k ∨ v.ownBlock = some k) w0 w
  reads : ∀ s ∈ S, ReadsH w s x ∧ ∀ g, s.ownBlock = some g → (v.ownBlock = some g ∨ w0.heap.size ≤ g) ∧ g < w.heap.size

section
variable {m : Nat} {x : Int} {w0 W W0 W' : World} {D : Nat} {F : Nat → Prop} {vi vh vn vm : Value} {Li Lh : List (Value × Int)} {v : Value} {len : Nat} {S : List Value}
theorem KpH.quiet (h : KpH m x w0 W D F vi vh vn vm Li Lh v len S) (hb : Below W.heap.size W W') : KpH m x w0 W' D F vi vh vn vm Li Lh v len S where
  dr := h.dr.frame hb.size fun k hk => hb.block k (h.dr.lt k hk)
  row := row_same h.row fun g hg => hb.block g (World.ownsRow.lt h.row g hg).2
  only := h.only.trans (Only.of_below hb)
  reads s hs := ⟨(h.reads s hs).1.same fun g hg => hb.block g ((h.reads s hs).2 g hg).2, fun g hg => ⟨((h.reads s hs).2 g hg).1, Nat.lt_of_lt_of_le ((h.reads s hs).2 g hg).2 hb.size⟩⟩
/-- one append more -/
theorem KpH.next (h : KpH m x w0 W0 D F vi vh vn vm Li Lh v len S) (hv : ∀ g, v.ownBlock = some g → ¬ F g) {g cap k : Nat} {news : List Value} (hnew : ∀ u ∈ news, u = .int .i64 x) (hl : len + k ≤ 1000000)
    (h1 : W'.ownsRow 0 77 2 (.slice (some ⟨g, 0, none⟩) (len + k) cap) (len + k) (List.replicate (len * 2) (.int .i64 x) ++ news)) (h2 : W'.ownsRow 0 77 2 v len (List.replicate (len * 2) (.int .i64 x))) (hg : W0.grownBy W' v.ownBlock) (hat : v.ownBlock = some g ∨ g = W0.heap.size) (hlt : g < W'.heap.size)
    (hk : ∀ b j, v.ownBlock = some b → W0.cell? ⟨b, j, none⟩ = some (.int .i64 x) → W'.cell? ⟨b, j, none⟩ = some (.int .i64 x)) :
    KpH m x w0 W' D F vi vh vn vm Li Lh v len (S ++ [.slice (some ⟨g, 0, none⟩) (len + k) cap]) where
  dr := h.dr.frame hg.size fun q hq => hg.block q (h.dr.lt q hq) (fun e => hv q e.symm hq)
  row := h2
  only := h.only.trans (Only.grown hg (fun q hq => .inr hq))
  reads s hs := by
    rw [List.mem_append] at hs
    rcases hs with hs | hs
    · obtain ⟨hr, hw⟩ := h.reads s hs
      refine ⟨?_, fun q hq => ⟨(hw q hq).1, Nat.lt_of_lt_of_le (hw q hq).2 hg.size⟩⟩
      obtain ⟨a, n, c, rfl, hn, hc⟩ := hr
      refine ⟨a, n, c, rfl, hn, fun i hi => ?_⟩
      obtain ⟨b, rfl, hcell, hcell2⟩ := hc i hi
      refine ⟨b, rfl, ?_, ?_⟩
      · by_cases e : v.ownBlock = some b
        · exact hk b _ e hcell
        · exact World.grownBy.cell hg hcell (fun e' => e e'.symm)
      · by_cases e : v.ownBlock = some b
        · exact hk b _ e hcell2
        · exact World.grownBy.cell hg hcell2 (fun e' => e e'.symm)
    · simp only [List.mem_singleton] at hs
      subst hs
      refine ⟨readsH_of_row h1 (fun u hu => ?_) hl, fun q hq => ?_⟩
      · rw [List.mem_append] at hu
        rcases hu with hu | hu
        · exact (List.mem_replicate.1 hu).2
        · exact hnew u hu
      · have e : q = g := by simpa [Value.ownBlock] using hq.symm
        subst e
        refine ⟨hat.imp id (fun e => by rw [e]; exact h.only.size), hlt⟩
end

/-- what is laid away at the end -/
theorem KpH.lay {m : Nat} {x : Int} {w wc we wg : World} {D : Nat} {F : Nat → Prop} {vi vh vn vm : Value} {Li Lh : List (Value × Int)} {v : Value} {len : Nat} {S : List Value} {ge cape gg capg : Nat} {o o0 : Obj}
    (hK : KpH m x w wc D F vi vh vn vm Li Lh v len S) (hm : m ≤ 1999999999998) (hx : (m : Int) + 1 = x) (hl : len ≤ 1000) (hF : ∀ k, F k → k < w.heap.size) (hv : ∀ g, v.ownBlock = some g → ¬ F g ∧ g < w.heap.size) (hS : S.length = 3)
    (e1 : we.ownsRow 0 66 1 (.slice (some ⟨ge, 0, none⟩) (Lh.length + 4) cape) (Lh.length + 4) (Lh.map (·.1) ++ (v :: S))) (e2 : (wc.alloc o).grownBy we vh.ownBlock) (e3 : vh.ownBlock = some ge ∨ ge = wc.heap.size + 1) (e4 : ge < we.heap.size)
    (n1 : wg.ownsRow 0 3 1 (.slice (some ⟨gg, 0, none⟩) (Lh.length + 4) capg) (Lh.length + 4) ((Lh.map fun p => .int .i64 p.2) ++ [.int .i64 x, .int .i64 x, .int .i64 x, .int .i64 x]))
    (n2 : (((we.setCell ⟨D, 2, none⟩ (.slice (some ⟨ge, 0, none⟩) (Lh.length + 4) cape)).alloc o0).drew).grownBy wg vm.ownBlock) (n3 : vm.ownBlock = some gg ∨ gg = we.heap.size + 1) (n4 : gg < wg.heap.size) :
    Only (fun k => F k ∨ v.ownBlock = some k) w (wg.setCell ⟨D, 4, none⟩ (.slice (some ⟨gg, 0, none⟩) (Lh.length + 4) capg)) ∧ ∃ G, DS (m + 1) (wg.setCell ⟨D, 4, none⟩ (.slice (some ⟨gg, 0, none⟩) (Lh.length + 4) capg)) D G ∧ ∀ k, G k → F k ∨ v.ownBlock = some k ∨ w.heap.size ≤ k := by
  have hd := hK.dr
  have z1 := hK.only.size
  have z2 := e2.size
  have z3 := n2.size
  simp at z2
  have zf : (we.setCell ⟨D, 2, none⟩ (.slice (some ⟨ge, 0, none⟩) (Lh.length + 4) cape)).heap.size = we.heap.size := by simp
  have z0 : (((we.setCell ⟨D, 2, none⟩ (.slice (some ⟨ge, 0, none⟩) (Lh.length + 4) cape)).alloc o0).drew).heap.size = we.heap.size + 1 := by simp
  rw [z0] at z3
  have zz : (wg.setCell ⟨D, 4, none⟩ (.slice (some ⟨gg, 0, none⟩) (Lh.length + 4) capg)).heap.size = wg.heap.size := by simp
  have hDl := hF D hd.mine
  have hvhD : vh.ownBlock ≠ some D := fun e => (hd.bh D e).2 rfl
  have hvmD : vm.ownBlock ≠ some D := fun e => (hd.bm D e).2.1 rfl
  have same : ∀ k, k < wc.heap.size → k ≠ D → vh.ownBlock ≠ some k → vm.ownBlock ≠ some k → (wg.setCell ⟨D, 4, none⟩ (.slice (some ⟨gg, 0, none⟩) (Lh.length + 4) capg)).heap[k]? = wc.heap[k]? := fun k hk h1 h2 h3 => by
    rw [Below.heap_setCell wg ⟨D, 4, none⟩ _ k h1, n2.block k (by rw [z0]; omega) (fun e => h3 e.symm)]
    show ((we.setCell ⟨D, 2, none⟩ (.slice (some ⟨ge, 0, none⟩) (Lh.length + 4) cape)).alloc o0).heap[k]? = _
    rw [Below.heap_alloc _ o0 k (by rw [zf]; omega), Below.heap_setCell we ⟨D, 2, none⟩ _ k h1, e2.block k (by simp; omega) (fun e => h2 e.symm), Below.heap_alloc wc o k hk]
  have hwe : we.heap[D]? = some (.cells #[.int .i64 x, vi, vh, vn, vm] 28 (0, 0)) := by
    rw [e2.block D (by simp; omega) (fun e => hvhD e.symm), Below.heap_alloc wc o D (by omega)]; exact hd.blk
  have hwf : (we.setCell ⟨D, 2, none⟩ (.slice (some ⟨ge, 0, none⟩) (Lh.length + 4) cape)).heap[D]? = some (.cells #[.int .i64 x, vi, .slice (some ⟨ge, 0, none⟩) (Lh.length + 4) cape, vn, vm] 28 (0, 0)) := (heap_setCell_same we D 2 _ 28 _ hwe).trans rfl
  have hwg : wg.heap[D]? = some (.cells #[.int .i64 x, vi, .slice (some ⟨ge, 0, none⟩) (Lh.length + 4) cape, vn, vm] 28 (0, 0)) := by
    rw [n2.block D (by rw [z0]; omega) (fun e => hvmD e.symm)]
    show ((we.setCell ⟨D, 2, none⟩ (.slice (some ⟨ge, 0, none⟩) (Lh.length + 4) cape)).alloc o0).heap[D]? = _
    rw [Below.heap_alloc _ o0 D (by rw [zf]; omega)]; exact hwf
  have hge : (F ge ∨ wc.heap.size < ge) ∧ ge ≠ D ∧ vm.ownBlock ≠ some ge := by
    rcases e3 with e | e
    · exact ⟨.inl (hd.bh ge e).1, (hd.bh ge e).2, fun e' => kinds_apartH hd.rm hd.rh (by decide) e' e⟩
    · exact ⟨.inr (by omega), by omega, fun e' => by have := hF ge (hd.bm ge e').1; omega⟩
  have hgg : (F gg ∨ we.heap.size < gg) ∧ gg ≠ D ∧ vn.ownBlock ≠ some gg := by
    rcases n3 with e | e
    · exact ⟨.inl (hd.bm gg e).1, (hd.bm gg e).2.1, (hd.bm gg e).2.2⟩
    · exact ⟨.inr (by omega), by omega, fun e' => by have := hF gg (hd.bn gg e').1; omega⟩
  -- a block that is F's and apart from the old rows is apart from the new ones
  have ap : ∀ g, F g → Apart4 D vi vh vn vm g → Apart4 D vi (.slice (some ⟨ge, 0, none⟩) (Lh.length + 4) cape) vn (.slice (some ⟨gg, 0, none⟩) (Lh.length + 4) capg) g := fun g hg ⟨q1, q2, q3, q4, q5⟩ => by
    have hgl := hF g hg
    refine ⟨q1, q2, fun e => ?_, q4, fun e => ?_⟩
    · have e' : ge = g := by simpa [Value.ownBlock] using e
      rcases e3 with e3 | e3
      · rw [e'] at e3; exact q3 e3
      · omega
    · have e' : gg = g := by simpa [Value.ownBlock] using e
      rcases n3 with e3 | e3
      · rw [e'] at e3; exact q5 e3
      · omega
  -- and so is one that is none of F's
  have new : ∀ g, (v.ownBlock = some g ∨ w.heap.size ≤ g) → g < wc.heap.size → ¬ F g ∧ Apart4 D vi (.slice (some ⟨ge, 0, none⟩) (Lh.length + 4) cape) vn (.slice (some ⟨gg, 0, none⟩) (Lh.length + 4) capg) g := fun g h1 h2 => by
    have hnf : ¬ F g := fun hf => by
      rcases h1 with h1 | h1
      · exact (hv g h1).1 hf
      · have := hF g hf; omega
    refine ⟨hnf, fun e => hnf (by rw [e]; exact hd.mine), fun e => hnf (hd.bi g e).1, fun e => ?_, fun e => hnf (hd.bn g e).1, fun e => ?_⟩
    · have e' : ge = g := by simpa [Value.ownBlock] using e
      rcases hge.1 with h | h
      · exact hnf (by rw [← e']; exact h)
      · omega
    · have e' : gg = g := by simpa [Value.ownBlock] using e
      rcases hgg.1 with h | h
      · exact hnf (by rw [← e']; exact h)
      · omega
  have nf : ∀ g, ¬ F g → g ≠ D ∧ vh.ownBlock ≠ some g ∧ vm.ownBlock ≠ some g := fun g h => ⟨fun e => h (by rw [e]; exact hd.mine), fun e => h (hd.bh g e).1, fun e => h (hd.bm g e).1⟩
  have hvr : ReadsH wc v x := readsH_rep hK.row (by omega)
  have each : ∀ s ∈ v :: S, ReadsH wc s x ∧ ∀ g, s.ownBlock = some g → (v.ownBlock = some g ∨ w.heap.size ≤ g) ∧ g < wc.heap.size := fun s hs => by
    rcases List.mem_cons.1 hs with rfl | hs
    · exact ⟨hvr, fun g e => ⟨.inl e, by have := (hv g e).2; omega⟩⟩
    · exact hK.reads s hs
  obtain ⟨sa, sb, sc, rfl⟩ : ∃ sa sb sc, S = [sa, sb, sc] := by
    match S, hS with
    | [sa, sb, sc], _ => exact ⟨sa, sb, sc, rfl⟩
  refine ⟨?_, fun k => F k ∨ v.ownBlock = some k ∨ (w.heap.size ≤ k ∧ k < wg.heap.size), ⟨by omega, vi, .slice (some ⟨ge, 0, none⟩) (Lh.length + 4) cape, vn, .slice (some ⟨gg, 0, none⟩) (Lh.length + 4) capg, Li, Lh ++ [(v, x), (sa, x), (sb, x), (sc, x)], ?_⟩, fun k hk => hk.imp id (fun h => h.imp id (fun h => h.1))⟩
  · refine hK.only.trans ((Only.of_below ((Below.refl _ _).alloc (Nat.le_refl _) o)).trans ?_)
    refine (Only.grown e2 (fun k hk => .inl (hd.bh k hk).1)).trans ((Only.setCell ⟨D, 2, none⟩ (.slice (some ⟨ge, 0, none⟩) (Lh.length + 4) cape) (.inl hd.mine)).trans ?_)
    refine (Only.of_below (((Below.refl _ _).alloc (Nat.le_refl _) o0).drew)).trans ((Only.grown n2 (fun k hk => .inl (hd.bm k hk).1)).trans (Only.setCell ⟨D, 4, none⟩ _ (.inl hd.mine)))
  · have hx' : ((m + 1 : Nat) : Int) = x := by omega
    exact {
      blk := by rw [hx']; exact (heap_setCell_same wg D 4 _ 28 _ hwg).trans rfl
      lh := by have := hd.lh; simp; omega
      li := by have := hd.li; omega
      rh := by
        have : (Lh ++ [(v, x), (sa, x), (sb, x), (sc, x)]).length = Lh.length + 4 := by simp
        rw [this, List.map_append]
        refine row_same e1 fun g hg => ?_
        have e' : ge = g := by simpa [Value.ownBlock] using hg
        subst e'
        rw [Below.heap_setCell wg ⟨D, 4, none⟩ _ ge hge.2.1, n2.block ge (by rw [z0]; omega) (fun e => hge.2.2 e.symm)]
        show ((we.setCell ⟨D, 2, none⟩ (.slice (some ⟨ge, 0, none⟩) (Lh.length + 4) cape)).alloc o0).heap[ge]? = _
        rw [Below.heap_alloc _ o0 ge (by rw [zf]; omega), Below.heap_setCell we ⟨D, 2, none⟩ _ ge hge.2.1]
      ri := row_same hd.ri fun g hg => same g (by have := hF g (hd.bi g hg).1; omega) (hd.bi g hg).2 (fun e => kinds_apartH hd.ri hd.rh (by decide) hg e) (fun e => kinds_apartH hd.ri hd.rm (by decide) hg e)
      rm := by
        have : (Lh ++ [(v, x), (sa, x), (sb, x), (sc, x)]).length = Lh.length + 4 := by simp
        rw [this, List.map_append]
        exact ownsRow_setCell_other n1 (by simpa [Value.ownBlock] using hgg.2.1) _
      rn := row_same hd.rn fun g hg => same g (by have := hF g (hd.bn g hg).1; omega) (hd.bn g hg).2 (fun e => kinds_apartH hd.rn hd.rh (by decide) hg e) (fun e => (hd.bm g e).2.2 hg)
      mine := .inl hd.mine
      bh := fun g e => by
        have e' : ge = g := by simpa [Value.ownBlock] using e
        subst e'
        exact ⟨hge.1.imp id (fun h => .inr ⟨by omega, by omega⟩), hge.2.1⟩
      bi := fun g e => ⟨.inl (hd.bi g e).1, (hd.bi g e).2⟩
      bm := fun g e => by
        have e' : gg = g := by simpa [Value.ownBlock] using e
        subst e'
        exact ⟨hgg.1.imp id (fun h => .inr ⟨by omega, by omega⟩), hgg.2.1, hgg.2.2⟩
      bn := fun g e => ⟨.inl (hd.bn g e).1, (hd.bn g e).2⟩
      kh := fun p hp => by
        rw [List.mem_append] at hp
        rcases hp with hp | hp
        · obtain ⟨q1, q2⟩ := hd.kh p hp
          refine ⟨q1.same fun g e => ?_, fun g e => ⟨.inl (q2 g e).1, ap g (q2 g e).1 (q2 g e).2⟩⟩
          obtain ⟨qf, qa⟩ := q2 g e
          exact same g (by have := hF g qf; omega) qa.1 qa.2.2.1 qa.2.2.2.2
        · have hp' : p.1 ∈ v :: [sa, sb, sc] ∧ p.2 = x := by
            simp only [List.mem_cons, List.not_mem_nil, or_false] at hp
            rcases hp with rfl | rfl | rfl | rfl <;> simp
          obtain ⟨q1, q2⟩ := each p.1 hp'.1
          rw [hp'.2]
          refine ⟨q1.same fun g e => ?_, fun g e => ?_⟩
          · obtain ⟨qb, ql⟩ := q2 g e
            have qn := nf g (new g qb ql).1
            exact same g ql qn.1 qn.2.1 qn.2.2
          · obtain ⟨qb, ql⟩ := q2 g e
            exact ⟨.inr (qb.imp id (fun h => ⟨h, by omega⟩)), (new g qb ql).2⟩
      ki := fun p hp => by
        obtain ⟨q1, q2⟩ := hd.ki p hp
        refine ⟨q1.same fun g e => ?_, fun g e => ⟨.inl (q2 g e).1, ap g (q2 g e).1 (q2 g e).2⟩⟩
        obtain ⟨qf, qa⟩ := q2 g e
        exact same g (by have := hF g qf; omega) qa.1 qa.2.2.1 qa.2.2.2.2
      lt := fun k hk => by
        rw [zz]
        rcases hk with hk | hk | hk
        · have := hF k hk; omega
        · have := (hv k hk).2; omega
        · exact hk.2 }


end Go.Proofs.Ytpikkedeoebiaaa
