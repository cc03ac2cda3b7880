/- keepInts: what came out is laid into the drawer. -/
import Derived.Test.YtpikkedeoebiaaaLawL
import Derived.Test.YtpikkedeoebiaaaWalkE
import Derived.Test.YtpikkedeoebiaaaLawW
import Derived.Deep.RegionHeldLaw
namespace Go.Proofs.Ytpikkedeoebiaaa
open Go.RowKit
set_option maxRecDepth 100000

/-- the row of l, as far as it is written over -/
def Over (w : World) (B : Nat) (v : Value) (len k : Nat) (x : Int) : Prop := ∃ xs, w.ownsRow B 3 1 v len xs ∧ ∀ j, j < k → xs[j]? = some (.int .i64 x)

theorem Over.put {w : World} {B g len cap k : Nat} {x : Int} (h : Over w B (.slice (some ⟨g, 0, none⟩) len cap) len k x) (hk : k < len) : Over (w.setCell ⟨g, k, none⟩ (.int .i64 x)) B (.slice (some ⟨g, 0, none⟩) len cap) len (k + 1) x := by
  obtain ⟨xs, h1, h2⟩ := h
  refine ⟨_, (World.ownsRow.stored h1 k (.int .i64 x)).1, fun j hj => ?_⟩
  rw [List.getElem?_set]
  by_cases e : k = j
  · subst e
    have := h1.1
    rw [if_pos rfl, if_pos (by omega)]
  · rw [if_neg e]; exact h2 j (by omega)

theorem Over.all {w : World} {B len : Nat} {v : Value} {x : Int} (h : Over w B v len len x) : w.ownsRow B 3 1 v len (List.replicate len (.int .i64 x)) := by
  obtain ⟨xs, h1, h2⟩ := h
  have e : xs = List.replicate len (.int .i64 x) := by
    have hl := h1.1
    refine List.ext_getElem? (fun j => ?_)
    rcases Nat.lt_or_ge j len with hj | hj
    · rw [h2 j hj, List.getElem?_replicate, if_pos hj]
    · rw [List.getElem?_eq_none (by omega), List.getElem?_eq_none (by simpa using hj)]
  rw [← e]; exact h1

theorem kinds_apart3 {w : World} {v1 v2 : Value} {n1 n2 g : Nat} {x1 x2 : List Value} (h1 : w.ownsRow 0 3 1 v1 n1 x1) (h2 : w.ownsRow 0 26 1 v2 n2 x2) (e1 : v1.ownBlock = some g) (e2 : v2.ownBlock = some g) : False := by
  rcases h1.2 with ⟨rfl, _⟩ | ⟨g1, _, _, rfl, _, hg1, _⟩
  · simp [Value.ownBlock] at e1
  · rcases h2.2 with ⟨rfl, _⟩ | ⟨g2, _, _, rfl, _, hg2, _⟩
    · simp [Value.ownBlock] at e2
    · simp [Value.ownBlock] at e1 e2
      rw [e1] at hg1
      rw [e2, hg1] at hg2
      simp at hg2

theorem kinds_apartH {w : World} {v1 v2 : Value} {n1 n2 g : Nat} {x1 x2 : List Value} {t1 t2 : TypeId} (h1 : w.ownsRow 0 t1 1 v1 n1 x1) (h2 : w.ownsRow 0 t2 1 v2 n2 x2) (hne : t1 ≠ t2) (e1 : v1.ownBlock = some g) (e2 : v2.ownBlock = some g) : False := by
  rcases h1.2 with ⟨rfl, _⟩ | ⟨g1, _, _, rfl, _, hg1, _⟩
  · simp [Value.ownBlock] at e1
  · rcases h2.2 with ⟨rfl, _⟩ | ⟨g2, _, _, rfl, _, hg2, _⟩
    · simp [Value.ownBlock] at e2
    · simp [Value.ownBlock] at e1 e2
      rw [e1] at hg1
      rw [e2, hg1] at hg2
      simp at hg2
      exact hne hg2.2

/-- between the appends: the drawer, the list, and the lists made of it -/
structure Kp (m : Nat) (x : Int) (w0 w : World) (D : Nat) (F : Nat → Prop) (vi vh vn vm : Value) (Li Lh : List (Value × Int)) (v : Value) (len : Nat) (S : List Value) : Prop where
  dr : DAt m x w D F vi vh vn vm Li Lh
  row : w.ownsRow 0 3 1 v len (List.replicate len (.int .i64 x))
  only : Only (fun k => F k ∨ v.ownBlock = some k) w0 w
  reads : ∀ s ∈ S, ReadsI w s x ∧ ∀ g, s.ownBlock = some g → (v.ownBlock = some g ∨ w0.heap.size ≤ g) ∧ g < w.heap.size

theorem ReadsI.lt {w : World} {s : Value} {x : Int} (h : ReadsI w s x) : ∃ a len cap, s = .slice a len cap ∧ ∀ i, i < len → ∃ g, a = some ⟨g, 0, none⟩ ∧ g < w.heap.size := by
  obtain ⟨a, len, cap, rfl, _, hr⟩ := h
  refine ⟨a, len, cap, rfl, fun i hi => ?_⟩
  obtain ⟨g, e, hc⟩ := hr i hi
  exact ⟨g, e, World.block_lt_of_cell? w ⟨g, i, none⟩ hc⟩

theorem readsI_of_row {w : World} {g n cap : Nat} {xs : List Value} {x : Int} (h : w.ownsRow 0 3 1 (.slice (some ⟨g, 0, none⟩) n cap) n xs) (hx : ∀ u ∈ xs, u = .int .i64 x) (hn : n ≤ 1000000) : ReadsI w (.slice (some ⟨g, 0, none⟩) n cap) x := by
  refine ⟨_, n, cap, rfl, hn, fun i hi => ⟨g, rfl, ?_⟩⟩
  have hl := h.1
  rw [World.ownsRow.cellAt h i (by omega), List.getElem?_eq_getElem (by omega), hx _ (List.getElem_mem _)]

section
variable {m : Nat} {x : Int} {w0 W W0 W' : World} {D : Nat} {F : Nat → Prop} {vi vh vn vm : Value} {Li Lh : List (Value × Int)} {v : Value} {len : Nat} {S : List Value}

theorem Kp.quiet (h : Kp m x w0 W D F vi vh vn vm Li Lh v len S) (hb : Below W.heap.size W W') : Kp m x w0 W' D F vi vh vn vm Li Lh v len S where
  dr := h.dr.frame hb.size fun k hk => hb.block k (h.dr.lt k hk)
  row := row_same h.row fun g hg => hb.block g (World.ownsRow.lt h.row g hg).2
  only := h.only.trans (Only.of_below hb)
  reads s hs := ⟨(h.reads s hs).1.same fun g hg => hb.block g ((h.reads s hs).2 g hg).2, fun g hg => ⟨((h.reads s hs).2 g hg).1, Nat.lt_of_lt_of_le ((h.reads s hs).2 g hg).2 hb.size⟩⟩

/-- one append more -/
theorem Kp.next (h : Kp m x w0 W0 D F vi vh vn vm Li Lh v len S) (hv : ∀ g, v.ownBlock = some g → ¬ F g) {g cap k : Nat} {news : List Value} (hnew : ∀ u ∈ news, u = .int .i64 x) (hl : len + k ≤ 1000000)
    (h1 : W'.ownsRow 0 3 1 (.slice (some ⟨g, 0, none⟩) (len + k) cap) (len + k) (List.replicate len (.int .i64 x) ++ news)) (h2 : W'.ownsRow 0 3 1 v len (List.replicate len (.int .i64 x))) (hg : W0.grownBy W' v.ownBlock) (hat : v.ownBlock = some g ∨ g = W0.heap.size) (hlt : g < W'.heap.size)
    (hk : ∀ b j, v.ownBlock = some b → W0.cell? ⟨b, j, none⟩ = some (.int .i64 x) → W'.cell? ⟨b, j, none⟩ = some (.int .i64 x)) :
    Kp m x w0 W' D F vi vh vn vm Li Lh v len (S ++ [.slice (some ⟨g, 0, none⟩) (len + k) cap]) where
  dr := h.dr.frame hg.size fun q hq => hg.block q (h.dr.lt q hq) (fun e => hv q e.symm hq)
  row := h2
  only := h.only.trans (Only.grown hg (fun q hq => .inr hq))
  reads s hs := by
    rw [List.mem_append] at hs
    rcases hs with hs | hs
    · obtain ⟨hr, hw⟩ := h.reads s hs
      refine ⟨?_, fun q hq => ⟨(hw q hq).1, Nat.lt_of_lt_of_le (hw q hq).2 hg.size⟩⟩
      obtain ⟨a, n, c, rfl, hn, hc⟩ := hr
      refine ⟨a, n, c, rfl, hn, fun i hi => ?_⟩
      obtain ⟨b, rfl, hcell⟩ := hc i hi
      refine ⟨b, rfl, ?_⟩
      by_cases e : v.ownBlock = some b
      · exact hk b i e hcell
      · exact World.grownBy.cell hg hcell (fun e' => e e'.symm)
    · simp only [List.mem_singleton] at hs
      subst hs
      refine ⟨readsI_of_row h1 (fun u hu => ?_) hl, fun q hq => ?_⟩
      · rw [List.mem_append] at hu
        rcases hu with hu | hu
        · exact (List.mem_replicate.1 hu).2
        · exact hnew u hu
      · have e : q = g := by simpa [Value.ownBlock] using hq.symm
        subst e
        refine ⟨hat.imp id (fun e => by rw [e]; exact h.only.size), hlt⟩

/-- what is held through a region -/
def KS (m : Nat) (x : Int) (w0 : World) (D : Nat) (F : Nat → Prop) (vi vh vn vm : Value) (Li Lh : List (Value × Int)) (v : Value) (len : Nat) (S : List Value) (w : World) : Prop := w.cell? ⟨D, 0, none⟩ = some (.int .i64 x) ∧ Kp m x w0 w D F vi vh vn vm Li Lh v len S
theorem Kp.ks (h : Kp m x w0 W D F vi vh vn vm Li Lh v len S) : KS m x w0 D F vi vh vn vm Li Lh v len S W := ⟨h.dr.c0, h⟩
theorem KS.alloc (h : KS m x w0 D F vi vh vn vm Li Lh v len S W) (o : Obj) : KS m x w0 D F vi vh vn vm Li Lh v len S (W.alloc o) := (h.2.quiet ((Below.refl _ _).alloc (Nat.le_refl _) o)).ks
theorem Kp.drop {s : Value} (h : Kp m x w0 W D F vi vh vn vm Li Lh v len (S ++ [s])) : KS m x w0 D F vi vh vn vm Li Lh v len S W := Kp.ks ⟨h.dr, h.row, h.only, fun t ht => h.reads t (List.mem_append_left _ ht)⟩
end

/-- what is laid away at the end -/
theorem Kp.lay {m : Nat} {x : Int} {w wc we wg : World} {D : Nat} {F : Nat → Prop} {vi vh vn vm : Value} {Li Lh : List (Value × Int)} {v : Value} {len : Nat} {S : List Value} {ge cape gg capg : Nat} {o o0 : Obj}
    (hK : Kp m x w wc D F vi vh vn vm Li Lh v len S) (hm : m ≤ 1999999999998) (hx : (m : Int) + 1 = x) (hl : len ≤ 1000) (hF : ∀ k, F k → k < w.heap.size) (hv : ∀ g, v.ownBlock = some g → ¬ F g ∧ g < w.heap.size) (hS : S.length = 3)
    (e1 : we.ownsRow 0 26 1 (.slice (some ⟨ge, 0, none⟩) (Li.length + 4) cape) (Li.length + 4) (Li.map (·.1) ++ (v :: S))) (e2 : (wc.alloc o).grownBy we vi.ownBlock) (e3 : vi.ownBlock = some ge ∨ ge = wc.heap.size + 1) (e4 : ge < we.heap.size)
    (n1 : wg.ownsRow 0 3 1 (.slice (some ⟨gg, 0, none⟩) (Li.length + 4) capg) (Li.length + 4) ((Li.map fun p => .int .i64 p.2) ++ [.int .i64 x, .int .i64 x, .int .i64 x, .int .i64 x]))
    (n2 : (((we.setCell ⟨D, 1, none⟩ (.slice (some ⟨ge, 0, none⟩) (Li.length + 4) cape)).alloc o0).drew).grownBy wg vn.ownBlock) (n3 : vn.ownBlock = some gg ∨ gg = we.heap.size + 1) (n4 : gg < wg.heap.size) :
    Only (fun k => F k ∨ v.ownBlock = some k) w (wg.setCell ⟨D, 3, none⟩ (.slice (some ⟨gg, 0, none⟩) (Li.length + 4) capg)) ∧ ∃ G, DS (m + 1) (wg.setCell ⟨D, 3, none⟩ (.slice (some ⟨gg, 0, none⟩) (Li.length + 4) capg)) D G ∧ ∀ k, G k → F k ∨ v.ownBlock = some k ∨ w.heap.size ≤ k := by
  have hd := hK.dr
  have z1 := hK.only.size
  have z2 := e2.size
  have z3 := n2.size
  simp at z2
  have zf : (we.setCell ⟨D, 1, none⟩ (.slice (some ⟨ge, 0, none⟩) (Li.length + 4) cape)).heap.size = we.heap.size := by simp
  have z0 : (((we.setCell ⟨D, 1, none⟩ (.slice (some ⟨ge, 0, none⟩) (Li.length + 4) cape)).alloc o0).drew).heap.size = we.heap.size + 1 := by simp
  rw [z0] at z3
  have zz : (wg.setCell ⟨D, 3, none⟩ (.slice (some ⟨gg, 0, none⟩) (Li.length + 4) capg)).heap.size = wg.heap.size := by simp
  have hDl := hF D hd.mine
  have hviD : vi.ownBlock ≠ some D := fun e => (hd.bi D e).2 rfl
  have hvnD : vn.ownBlock ≠ some D := fun e => (hd.bn D e).2 rfl
  have same : ∀ k, k < wc.heap.size → k ≠ D → vi.ownBlock ≠ some k → vn.ownBlock ≠ some k → (wg.setCell ⟨D, 3, none⟩ (.slice (some ⟨gg, 0, none⟩) (Li.length + 4) capg)).heap[k]? = wc.heap[k]? := fun k hk h1 h2 h3 => by
    rw [Below.heap_setCell wg ⟨D, 3, none⟩ _ k h1, n2.block k (by rw [z0]; omega) (fun e => h3 e.symm)]
    show ((we.setCell ⟨D, 1, none⟩ (.slice (some ⟨ge, 0, none⟩) (Li.length + 4) cape)).alloc o0).heap[k]? = _
    rw [Below.heap_alloc _ o0 k (by rw [zf]; omega), Below.heap_setCell we ⟨D, 1, none⟩ _ k h1, e2.block k (by simp; omega) (fun e => h2 e.symm), Below.heap_alloc wc o k hk]
  have hwe : we.heap[D]? = some (.cells #[.int .i64 x, vi, vh, vn, vm] 28 (0, 0)) := by
    rw [e2.block D (by simp; omega) (fun e => hviD e.symm), Below.heap_alloc wc o D (by omega)]; exact hd.blk
  have hwf : (we.setCell ⟨D, 1, none⟩ (.slice (some ⟨ge, 0, none⟩) (Li.length + 4) cape)).heap[D]? = some (.cells #[.int .i64 x, .slice (some ⟨ge, 0, none⟩) (Li.length + 4) cape, vh, vn, vm] 28 (0, 0)) := (heap_setCell_same we D 1 _ 28 _ hwe).trans rfl
  have hwg : wg.heap[D]? = some (.cells #[.int .i64 x, .slice (some ⟨ge, 0, none⟩) (Li.length + 4) cape, vh, vn, vm] 28 (0, 0)) := by
    rw [n2.block D (by rw [z0]; omega) (fun e => hvnD e.symm)]
    show ((we.setCell ⟨D, 1, none⟩ (.slice (some ⟨ge, 0, none⟩) (Li.length + 4) cape)).alloc o0).heap[D]? = _
    rw [Below.heap_alloc _ o0 D (by rw [zf]; omega)]; exact hwf
  have hge : (F ge ∨ wc.heap.size < ge) ∧ ge ≠ D ∧ vn.ownBlock ≠ some ge := by
    rcases e3 with e | e
    · exact ⟨.inl (hd.bi ge e).1, (hd.bi ge e).2, fun e' => kinds_apart3 hd.rn hd.ri e' e⟩
    · exact ⟨.inr (by omega), by omega, fun e' => by have := hF ge (hd.bn ge e').1; omega⟩
  have hgg : (F gg ∨ we.heap.size < gg) ∧ gg ≠ D ∧ vm.ownBlock ≠ some gg := by
    rcases n3 with e | e
    · exact ⟨.inl (hd.bn gg e).1, (hd.bn gg e).2, fun e' => (hd.bm gg e').2.2 e⟩
    · exact ⟨.inr (by omega), by omega, fun e' => by have := hF gg (hd.bm gg e').1; omega⟩
  -- a block that is F's and apart from the old rows is apart from the new ones
  have ap : ∀ g, F g → Apart4 D vi vh vn vm g → Apart4 D (.slice (some ⟨ge, 0, none⟩) (Li.length + 4) cape) vh (.slice (some ⟨gg, 0, none⟩) (Li.length + 4) capg) vm g := fun g hg ⟨q1, q2, q3, q4, q5⟩ => by
    have hgl := hF g hg
    refine ⟨q1, fun e => ?_, q3, fun e => ?_, q5⟩
    · have e' : ge = g := by simpa [Value.ownBlock] using e
      rcases e3 with e3 | e3
      · rw [e'] at e3; exact q2 e3
      · omega
    · have e' : gg = g := by simpa [Value.ownBlock] using e
      rcases n3 with e3 | e3
      · rw [e'] at e3; exact q4 e3
      · omega
  -- and so is one that is none of F's
  have new : ∀ g, (v.ownBlock = some g ∨ w.heap.size ≤ g) → g < wc.heap.size → ¬ F g ∧ Apart4 D (.slice (some ⟨ge, 0, none⟩) (Li.length + 4) cape) vh (.slice (some ⟨gg, 0, none⟩) (Li.length + 4) capg) vm g := fun g h1 h2 => by
    have hnf : ¬ F g := fun hf => by
      rcases h1 with h1 | h1
      · exact (hv g h1).1 hf
      · have := hF g hf; omega
    refine ⟨hnf, fun e => hnf (by rw [e]; exact hd.mine), fun e => ?_, fun e => hnf (hd.bh g e).1, fun e => ?_, fun e => hnf (hd.bm g e).1⟩
    · have e' : ge = g := by simpa [Value.ownBlock] using e
      rcases hge.1 with h | h
      · exact hnf (by rw [← e']; exact h)
      · omega
    · have e' : gg = g := by simpa [Value.ownBlock] using e
      rcases hgg.1 with h | h
      · exact hnf (by rw [← e']; exact h)
      · omega
  have nf : ∀ g, ¬ F g → g ≠ D ∧ vi.ownBlock ≠ some g ∧ vn.ownBlock ≠ some g := fun g h => ⟨fun e => h (by rw [e]; exact hd.mine), fun e => h (hd.bi g e).1, fun e => h (hd.bn g e).1⟩
  have hvr : ReadsI wc v x := by
    obtain ⟨a, cap, rfl⟩ := row_slice hK.row
    refine ⟨a, len, cap, rfl, by omega, fun i hi => row_at hK.row ?_⟩
    rw [List.getElem?_replicate, if_pos hi]
  have each : ∀ s ∈ v :: S, ReadsI wc s x ∧ ∀ g, s.ownBlock = some g → (v.ownBlock = some g ∨ w.heap.size ≤ g) ∧ g < wc.heap.size := fun s hs => by
    rcases List.mem_cons.1 hs with rfl | hs
    · exact ⟨hvr, fun g e => ⟨.inl e, by have := (hv g e).2; omega⟩⟩
    · exact hK.reads s hs
  obtain ⟨sa, sb, sc, rfl⟩ : ∃ sa sb sc, S = [sa, sb, sc] := by
    match S, hS with
    | [sa, sb, sc], _ => exact ⟨sa, sb, sc, rfl⟩
  refine ⟨?_, fun k => F k ∨ v.ownBlock = some k ∨ (w.heap.size ≤ k ∧ k < wg.heap.size), ⟨by omega, .slice (some ⟨ge, 0, none⟩) (Li.length + 4) cape, vh, .slice (some ⟨gg, 0, none⟩) (Li.length + 4) capg, vm, Li ++ [(v, x), (sa, x), (sb, x), (sc, x)], Lh, ?_⟩, fun k hk => hk.imp id (fun h => h.imp id (fun h => h.1))⟩
  · refine hK.only.trans ((Only.of_below ((Below.refl _ _).alloc (Nat.le_refl _) o)).trans ?_)
    refine (Only.grown e2 (fun k hk => .inl (hd.bi k hk).1)).trans ((Only.setCell ⟨D, 1, none⟩ (.slice (some ⟨ge, 0, none⟩) (Li.length + 4) cape) (.inl hd.mine)).trans ?_)
    refine (Only.of_below (((Below.refl _ _).alloc (Nat.le_refl _) o0).drew)).trans ((Only.grown n2 (fun k hk => .inl (hd.bn k hk).1)).trans (Only.setCell ⟨D, 3, none⟩ _ (.inl hd.mine)))
  · have hx' : ((m + 1 : Nat) : Int) = x := by omega
    exact {
      blk := by rw [hx']; exact (heap_setCell_same wg D 3 _ 28 _ hwg).trans rfl
      li := by have := hd.li; simp; omega
      lh := by have := hd.lh; omega
      ri := by
        have : (Li ++ [(v, x), (sa, x), (sb, x), (sc, x)]).length = Li.length + 4 := by simp
        rw [this, List.map_append]
        refine row_same e1 fun g hg => ?_
        have e' : ge = g := by simpa [Value.ownBlock] using hg
        subst e'
        rw [Below.heap_setCell wg ⟨D, 3, none⟩ _ ge hge.2.1, n2.block ge (by rw [z0]; omega) (fun e => hge.2.2 e.symm)]
        show ((we.setCell ⟨D, 1, none⟩ (.slice (some ⟨ge, 0, none⟩) (Li.length + 4) cape)).alloc o0).heap[ge]? = _
        rw [Below.heap_alloc _ o0 ge (by rw [zf]; omega), Below.heap_setCell we ⟨D, 1, none⟩ _ ge hge.2.1]
      rh := row_same hd.rh fun g hg => same g (by have := hF g (hd.bh g hg).1; omega) (hd.bh g hg).2 (fun e => kinds_apartH hd.rh hd.ri (by decide) hg e) (fun e => kinds_apartH hd.rh hd.rn (by decide) hg e)
      rn := by
        have : (Li ++ [(v, x), (sa, x), (sb, x), (sc, x)]).length = Li.length + 4 := by simp
        rw [this, List.map_append]
        exact ownsRow_setCell_other n1 (by simpa [Value.ownBlock] using hgg.2.1) _
      rm := row_same hd.rm fun g hg => same g (by have := hF g (hd.bm g hg).1; omega) (hd.bm g hg).2.1 (fun e => kinds_apart3 hd.rm hd.ri hg e) (hd.bm g hg).2.2
      mine := .inl hd.mine
      bi := fun g e => by
        have e' : ge = g := by simpa [Value.ownBlock] using e
        subst e'
        exact ⟨hge.1.imp id (fun h => .inr ⟨by omega, by omega⟩), hge.2.1⟩
      bh := fun g e => ⟨.inl (hd.bh g e).1, (hd.bh g e).2⟩
      bn := fun g e => by
        have e' : gg = g := by simpa [Value.ownBlock] using e
        subst e'
        exact ⟨hgg.1.imp id (fun h => .inr ⟨by omega, by omega⟩), hgg.2.1⟩
      bm := fun g e => by
        refine ⟨.inl (hd.bm g e).1, (hd.bm g e).2.1, fun e' => ?_⟩
        have e2' : gg = g := by simpa [Value.ownBlock] using e'
        exact hgg.2.2 (by rw [e2']; exact e)
      ki := fun p hp => by
        rw [List.mem_append] at hp
        rcases hp with hp | hp
        · obtain ⟨q1, q2⟩ := hd.ki p hp
          refine ⟨q1.same fun g e => ?_, fun g e => ⟨.inl (q2 g e).1, ap g (q2 g e).1 (q2 g e).2⟩⟩
          obtain ⟨qf, qa⟩ := q2 g e
          exact same g (by have := hF g qf; omega) qa.1 qa.2.1 qa.2.2.2.1
        · have hp' : p.1 ∈ v :: [sa, sb, sc] ∧ p.2 = x := by
            simp only [List.mem_cons, List.not_mem_nil, or_false] at hp
            rcases hp with rfl | rfl | rfl | rfl <;> simp
          obtain ⟨q1, q2⟩ := each p.1 hp'.1
          rw [hp'.2]
          refine ⟨q1.same fun g e => ?_, fun g e => ?_⟩
          · obtain ⟨qb, ql⟩ := q2 g e
            have qn := nf g (new g qb ql).1
            exact same g ql qn.1 qn.2.1 qn.2.2
          · obtain ⟨qb, ql⟩ := q2 g e
            exact ⟨.inr (qb.imp id (fun h => ⟨h, by omega⟩)), (new g qb ql).2⟩
      kh := fun p hp => by
        obtain ⟨q1, q2⟩ := hd.kh p hp
        refine ⟨q1.same fun g e => ?_, fun g e => ⟨.inl (q2 g e).1, ap g (q2 g e).1 (q2 g e).2⟩⟩
        obtain ⟨qf, qa⟩ := q2 g e
        exact same g (by have := hF g qf; omega) qa.1 qa.2.1 qa.2.2.2.1
      lt := fun k hk => by
        rw [zz]
        rcases hk with hk | hk | hk
        · have := hF k hk; omega
        · have := (hv k hk).2; omega
        · exact hk.2 }

def S2 (D : Nat) (x : Int) (w : World) : Prop := w.cell? ⟨D, 0, none⟩ = some (.int .i64 x) ∧ w.frozen? ⟨D, 3, none⟩ = false
theorem s2_same {D : Nat} {x : Int} {W W' : World} (h : W.cell? ⟨D, 0, none⟩ = some (.int .i64 x) ∧ W.frozen? ⟨D, 3, none⟩ = false) (hb : W'.heap[D]? = W.heap[D]?) : W'.cell? ⟨D, 0, none⟩ = some (.int .i64 x) ∧ W'.frozen? ⟨D, 3, none⟩ = false :=
  ⟨(World.cell?_of_block (a := ⟨D, 0, none⟩) hb).trans h.1, (World.frozen?_of_block (a := ⟨D, 3, none⟩) hb).trans h.2⟩
theorem s2_alloc {D : Nat} {x : Int} {W : World} (h : W.cell? ⟨D, 0, none⟩ = some (.int .i64 x) ∧ W.frozen? ⟨D, 3, none⟩ = false) (o : Obj) : (W.alloc o).cell? ⟨D, 0, none⟩ = some (.int .i64 x) ∧ (W.alloc o).frozen? ⟨D, 3, none⟩ = false :=
  s2_same h (Below.heap_alloc W o D (World.block_lt_of_cell? W ⟨D, 0, none⟩ h.1))
theorem s2_set {D : Nat} {x : Int} {W : World} (h : W.cell? ⟨D, 0, none⟩ = some (.int .i64 x) ∧ W.frozen? ⟨D, 3, none⟩ = false) (u : Value) : (W.setCell ⟨D, 3, none⟩ u).cell? ⟨D, 0, none⟩ = some (.int .i64 x) ∧ (W.setCell ⟨D, 3, none⟩ u).frozen? ⟨D, 3, none⟩ = false :=
  ⟨by rw [World.cell?_setCell_other _ _ _ _ (by simp)]; exact h.1, by rw [World.frozen?_setCell]; exact h.2⟩

theorem stepK_lies {P : Program} (w : World) {ops : Array Oper} {o : Oper} {a : Act} {K : Act → World → Prop} {Q : Exit → Act → World → Prop} {E : Prop} (d : Nat) (hd : o.dst = some d) (hgd : o.guard = none) (s x : Operand) (t : TypeId)
    (ho : o.op = .call { callee := .builtin .append, args := #[s, x], argTypes := #[t, t] })
    (base : Nat) (e : TypeId) (i : TypeInfo) (z : Value) (size bytes : Nat) (ht : P.underlying t = some (.slice e)) (hi : P.info? e = some i) (hz : i.zero = some z)
    (hsize : i.size = size) (hby : i.bytes = bytes) (hzs : z.cells.size = size) (hsz : 0 < size)
    (v : Value) (n : Nat) (xs : List Value) (hs : a.eval s = v) (hown : w.ownsRow base e size v n xs)
    (ad : Addr) (m c : Nat) (news : List Value) (hx : a.eval x = .slice (some ad) m c) (hl : news.length = m * size) (hnews : ∀ j u, news[j]? = some u → w.cell? (ad.add j) = some u) (h1 : ∀ u ∈ news, u.oneCell' = true)
    (hm : 0 < m) (h63 : n + m ≤ maxLen) (hbytes : (n + m) * bytes ≤ 140737488355328) (hbase : base ≤ w.heap.size) (H : Nat) (hH : w.heap.size = H)
    (h : ∀ g cap w', w'.ownsRow base e size (.slice (some ⟨g, 0, none⟩) (n + m) cap) (n + m) (xs ++ news) → w.grownBy w' v.ownBlock → (v.ownBlock = some g ∨ g = H) → g < w'.heap.size → K (a.put (some d) (.slice (some ⟨g, 0, none⟩) (n + m) cap)) w') :
    if Region.wanted o (yielded ops a.tmps) = true then Oper.wp P o a w K Q else E :=
  step_append_lies w hgd s x t ho base e i z size bytes ht hi hz hsize hby hzs hsz v n xs hs hown ad m c news hx hl hnews h1 hm h63 hbytes hbase H hH (fun g cap w' p q r u => by rw [hd]; exact h g cap w' p q r u)

set_option maxHeartbeats 2000000 in
theorem keepI_any (m : Nat) (D : Nat) (F : Nat → Prop) (vi vh vn vm : Value) (Li Lh : List (Value × Int)) (v : Value) (len : Nat) (xs : List Value) (w : World) (hm : m ≤ 1999999999998) (hl : len ≤ 1000) (h : DAt m (m : Int) w D F vi vh vn vm Li Lh) (ho : w.ownsRow 0 3 1 v len xs) (hv : ∀ g, v.ownBlock = some g → ¬ F g) :
    Calls Try.prog 39 #[.pointer (some ⟨D, 0, none⟩), v] w fun e w' => e = .returned (.tuple #[]) ∧ Only (fun k => F k ∨ v.ownBlock = some k) w w' ∧ ∃ G, DS (m + 1) w' D G ∧ ∀ k, G k → F k ∨ v.ownBlock = some k ∨ w.heap.size ≤ k := by
  obtain ⟨i0, hi, hz0, hz1, hz2⟩ := info_parts Try.info3
  obtain ⟨i1, hj, hy0, hy1, hy2⟩ := info_parts Try.info26
  obtain ⟨av, cap, rfl⟩ := row_slice ho
  have HF : Hid (∀ k, F k → k < w.heap.size) := h.lt
  have HVL : Hid (∀ g, (Value.slice av len cap).ownBlock = some g → g < w.heap.size) := fun g e => (World.ownsRow.lt ho g e).2
  have c0 := h.c0
  have f0 := h.free 0
  have hwr : wrap64 ((m : Int) + 1) = (m : Int) + 1 := by unfold wrap64; omega
  go_enter Try.func39, Try.ntmps39
  go_wp2
  have h1 := h.count ((m : Int) + 1)
  have ho1 : (w.setCell ⟨D, 0, none⟩ (.int .i64 ((m : Int) + 1))).ownsRow 0 3 1 (.slice av len cap) len xs := ownsRow_setCell_other ho (fun e => hv _ e h.mine) _
  have hO1 : Only (fun k => F k ∨ (Value.slice av len cap).ownBlock = some k) w (w.setCell ⟨D, 0, none⟩ (.int .i64 ((m : Int) + 1))) := Only.setCell ⟨D, 0, none⟩ _ (.inl h.mine)
  clear c0 f0
  go_loopw [4] (fun i wr => ∃ k : Nat, k ≤ len ∧ i = .int .i64 k ∧ Over wr 0 (.slice av len cap) len k ((m : Int) + 1) ∧ DAt m ((m : Int) + 1) wr D F vi vh vn vm Li Lh ∧ Only (fun k => F k ∨ (Value.slice av len cap).ownBlock = some k) w wr) (fun i _ => len - (intOf i).toNat)
  case atStart => exact ⟨0, Nat.zero_le _, rfl, ⟨xs, ho1, fun j hj => by omega⟩, h1, hO1⟩
  case round =>
    obtain ⟨k, hk, rfl, hov, hd2, hO2⟩ := hrel
    clear h1 ho1 hO1 ho h
    have c0 := hd2.c0
    by_cases hlt : k < len
    · obtain ⟨g, rfl⟩ : ∃ g, av = some ⟨g, 0, none⟩ := by
        obtain ⟨xs1, q1, _⟩ := hov
        rcases q1.2 with ⟨_, h0⟩ | ⟨g, cap', cur, h1, _⟩
        · omega
        · cases h1; exact ⟨g, rfl⟩
      have hcell : ∃ u, wr.cell? ⟨g, k, none⟩ = some u ∧ wr.frozen? ⟨g, k, none⟩ = false := by
        obtain ⟨xs1, q1, _⟩ := hov
        have hq := q1.1
        refine ⟨xs1[k]'(by omega), ?_, ?_⟩
        · rw [World.ownsRow.cellAt q1 k (by omega)]; exact List.getElem?_eq_getElem (by omega)
        · rcases q1.2 with ⟨_, h0⟩ | ⟨g', cap', cur, h1, _, hgg, _⟩
          · omega
          · cases h1; exact frozen_of_row wr g k _ 3 hgg
      obtain ⟨u, c2, f2⟩ := hcell
      go_wp2
      go_roundw
      case rel =>
        exact ⟨k + 1, by omega, by go_num, hov.put hlt, hd2.frame (by simp) (fun q hq => Below.heap_setCell wr ⟨g, k, none⟩ _ q (fun e => hv g rfl (by have e' : q = g := e; rw [← e']; exact hq))), hO2.trans (Only.setCell ⟨g, k, none⟩ _ (.inr rfl))⟩
      case measure => simp [intOf]; omega
    · have hke : k = len := by omega
      subst hke
      generalize hxm : (m : Int) + 1 = x at *
      have hK : Kp m x w wr D F vi vh vn vm Li Lh (.slice av k cap) k [] := ⟨hd2, hov.all, hO2, by simp⟩
      have hrow := hK.row
      have HK : Hid (Kp m x w wr D F vi vh vn vm Li Lh (.slice av k cap) k []) := hK
      have HV : Hid (∀ g, (Value.slice av k cap).ownBlock = some g → ¬ F g) := hv
      clear hK hd2 hov hO2 hv
      go_wp2_with (at_builtin; refine wpList_append_fill _ rfl _ _ 26 rfl 0 3 i0 (.int .i64 0) 1 8 Try.underlying26 hi hz0 hz1 hz2 rfl (by decide) (.slice av k cap) k _ rfl (World.ownsRow.alloc hrow _) ⟨wr.heap.size, 0, none⟩ 1 1 [.int .i64 x] (.int .i64 x) rfl rfl (cell_one_new _ _ _) (by intro u hu2; simp at hu2; subst hu2; rfl) (by simp) (by decide) (by unfold maxLen; omega) (by omega) (Nat.zero_le _) (wr.heap.size + 1) (by simp) ?_; intro ga capa wa a1 a2 a3 a4 a5 a6)
      have hKa : Kp m x w wa D F vi vh vn vm Li Lh (.slice av k cap) k [.slice (some ⟨ga, 0, none⟩) (k + 1) capa] := Kp.next (HK.out.quiet ((Below.refl _ _).alloc (Nat.le_refl _) _)) HV.out (by simp) (by omega) a1 a2 a3 (by simpa using a4) a5 a6
      have HKa : Hid (KS m x w D F vi vh vn vm Li Lh (.slice av k cap) k [.slice (some ⟨ga, 0, none⟩) (k + 1) capa] wa) := hKa.ks
      have c0 := hKa.dr.c0
      have hsz : wa.heap.size = wa.heap.size := rfl
      clear hKa HK a1 a2 a3 a4 a5 a6 hrow
      obtain ⟨sa, hsa⟩ : ∃ sa, Value.slice (some ⟨ga, 0, none⟩) (k + 1) capa = sa := ⟨_, rfl⟩
      rw [hsa] at HKa
      rw [hsa]
      go_region_held_law (fun w' => w'.cell? ⟨D, 0, none⟩ = some (.int .i64 x) ∧ Kp m x w w' D F vi vh vn vm Li Lh (.slice av k cap) k [sa]) (first | exact (HKa.out.2.quiet ((Below.refl _ _).drew)).ks | exact KS.alloc (by assumption) _ | exact Kp.drop (by assumption))
        ((refine step_append_fill _ 45 rfl rfl (.tmp 35) (.tmp 44) 26 rfl 0 3 i0 (.int .i64 0) 1 8 Try.underlying26 hi hz0 hz1 hz2 rfl (by decide) (.slice av k cap) k _ (by simp [Act.eval]) (by assumption : _ ∧ Kp m x w _ D F vi vh vn vm Li Lh (.slice av k cap) k [sa]).2.row ⟨wa.heap.size, 0, none⟩ 2 2 [.int .i64 x, .int .i64 x] (.int .i64 x) (by simp [Act.eval]) rfl (cell_two_new wa _ _ 3) (by intro u hu2; simp at hu2; subst hu2; rfl) (by simp) (by decide) (by unfold maxLen; omega) (by omega) (Nat.zero_le _) (wa.heap.size + 1) (by simp) ?_; intro gb capb wb b1 b2 b3 b4 b5 b6; have hKb : Kp m x w wb D F vi vh vn vm Li Lh (.slice av k cap) k ([sa] ++ [.slice (some ⟨gb, 0, none⟩) (k + 2) capb]) := Kp.next (by assumption : _ ∧ Kp m x w _ D F vi vh vn vm Li Lh (.slice av k cap) k [sa]).2 HV.out (by simp) (by omega) b1 b2 b3 (by simpa using b4) b5 b6))
      go_wp2
      have hKb : Kp m x w wb D F vi vh vn vm Li Lh (.slice av k cap) k ([sa] ++ [.slice (some ⟨gb, 0, none⟩) (k + 2) capb]) := by assumption
      obtain ⟨sb, hsb⟩ : ∃ sb, Value.slice (some ⟨gb, 0, none⟩) (k + 2) capb = sb := ⟨_, rfl⟩
      rw [hsb] at hKb
      rw [hsb]
      have HKb : Hid (KS m x w D F vi vh vn vm Li Lh (.slice av k cap) k [sa, sb] wb) := hKb.ks
      have c0b := hKb.dr.c0
      clear hKb b1 b2 b3 b4 b5 b6 c0 HKa
      go_region_held_law (fun w' => w'.cell? ⟨D, 0, none⟩ = some (.int .i64 x) ∧ Kp m x w w' D F vi vh vn vm Li Lh (.slice av k cap) k [sa, sb]) (first | exact (HKb.out.2.quiet ((Below.refl _ _).drew)).ks | exact KS.alloc (by assumption) _ | exact Kp.drop (by assumption))
        ((refine step_append_fill _ 60 rfl rfl (.tmp 46) (.tmp 59) 26 rfl 0 3 i0 (.int .i64 0) 1 8 Try.underlying26 hi hz0 hz1 hz2 rfl (by decide) (.slice av k cap) k _ (by simp [Act.eval]) (by assumption : _ ∧ Kp m x w _ D F vi vh vn vm Li Lh (.slice av k cap) k [sa, sb]).2.row ⟨wb.heap.size, 0, none⟩ 3 3 [.int .i64 x, .int .i64 x, .int .i64 x] (.int .i64 x) (by simp [Act.eval]) rfl (World.news_of_block (cs := #[.int .i64 x, .int .i64 x, .int .i64 x]) (heap_alloc_new wb _)) (by intro u hu2; simp at hu2; subst hu2; rfl) (by simp) (by decide) (by unfold maxLen; omega) (by omega) (Nat.zero_le _) (wb.heap.size + 1) (by simp) ?_; intro gc capc wc d1 d2 d3 d4 d5 d6; have hKc : Kp m x w wc D F vi vh vn vm Li Lh (.slice av k cap) k ([sa, sb] ++ [.slice (some ⟨gc, 0, none⟩) (k + 3) capc]) := Kp.next (by assumption : _ ∧ Kp m x w _ D F vi vh vn vm Li Lh (.slice av k cap) k [sa, sb]).2 HV.out (by simp) (by omega) d1 d2 d3 (by simpa using d4) d5 d6))
      have hKc : Kp m x w wc D F vi vh vn vm Li Lh (.slice av k cap) k ([sa, sb] ++ [.slice (some ⟨gc, 0, none⟩) (k + 3) capc]) := by assumption
      subst hsa
      subst hsb
      have HKc : Hid (Kp m x w wc D F vi vh vn vm Li Lh (.slice av k cap) k [.slice (some ⟨ga, 0, none⟩) (k + 1) capa, .slice (some ⟨gb, 0, none⟩) (k + 2) capb, .slice (some ⟨gc, 0, none⟩) (k + 3) capc]) := hKc
      have cc1 := hKc.dr.c1
      have cf1 := hKc.dr.free 1
      have hri := hKc.dr.ri
      have hli := hKc.dr.li
      have hDl := hKc.dr.lt D hKc.dr.mine
      have hbi := hKc.dr.bi
      obtain ⟨ai, ci, hvi⟩ := row_slice hri
      clear hKc d1 d2 d3 d4 d5 d6 c0b HKb
      subst hvi
      go_wp2_with (at_builtin; refine wpList_lies_wide _ rfl _ _ 24 rfl 0 26 i1 (.slice none 0 0) 1 24 Try.underlying24 hj hy0 hy1 hy2 rfl (by decide) (.slice ai Li.length ci) Li.length (Li.map (·.1)) rfl (World.ownsRow.alloc hri _) ⟨wc.heap.size, 0, none⟩ 4 4 [.slice av k cap, .slice (some ⟨ga, 0, none⟩) (k + 1) capa, .slice (some ⟨gb, 0, none⟩) (k + 2) capb, .slice (some ⟨gc, 0, none⟩) (k + 3) capc] rfl rfl (World.news_of_block (heap_alloc_new wc _)) (by simp [Value.oneCell']) (by decide) (by unfold maxLen; omega) (by omega) (Nat.zero_le _) (wc.heap.size + 1) (by simp) ?_; intro ge cape we e1 e2 e3 e4; have hDe : we.heap[D]? = wc.heap[D]? := (e2.block D (by simp; omega) (fun e => (hbi D e.symm).2 rfl)).trans (Below.heap_alloc wc _ D hDl); have c1e : we.cell? ⟨D, 1, none⟩ = some (.slice ai Li.length ci) := (World.cell?_of_block (a := ⟨D, 1, none⟩) hDe).trans cc1; have f1e : we.frozen? ⟨D, 1, none⟩ = false := (World.frozen?_of_block (a := ⟨D, 1, none⟩) hDe).trans cf1)
      have hKd := HKc.out.dr
      have hwf : (we.setCell ⟨D, 1, none⟩ (.slice (some ⟨ge, 0, none⟩) (Li.length + 4) cape)).heap[D]? = some (.cells #[.int .i64 x, .slice (some ⟨ge, 0, none⟩) (Li.length + 4) cape, vh, vn, vm] 28 (0, 0)) := (heap_setCell_same we D 1 _ 28 _ (hDe.trans hKd.blk)).trans rfl
      have hwe := e2.size
      have hvnD : vn.ownBlock ≠ some D := fun e => (hKd.bn D e).2 rfl
      have hvni : ∀ g, vn.ownBlock = some g → g < wc.heap.size ∧ some g ≠ (Value.slice ai Li.length ci).ownBlock := fun g e => ⟨hKd.lt g (hKd.bn g e).1, fun e' => kinds_apart3 hKd.rn hKd.ri e e'.symm⟩
      have HRN : Hid (∀ W, Below (we.setCell ⟨D, 1, none⟩ (.slice (some ⟨ge, 0, none⟩) (Li.length + 4) cape)).heap.size (we.setCell ⟨D, 1, none⟩ (.slice (some ⟨ge, 0, none⟩) (Li.length + 4) cape)) W → W.ownsRow 0 3 1 vn Li.length (Li.map fun p => .int .i64 p.2)) := fun W hb => row_same hKd.rn fun g hg => by
        have hgl := (hvni g hg).1
        rw [hb.block g (by simp; simp at hwe; omega), Below.heap_setCell we ⟨D, 1, none⟩ _ g (fun e => hvnD (by have e' : g = D := e; rw [← e']; exact hg)), e2.block g (by simp; omega) (hvni g hg).2, Below.heap_alloc wc _ g hgl]
      have HFIN : Hid (∀ gg capg wg, wg.ownsRow 0 3 1 (.slice (some ⟨gg, 0, none⟩) (Li.length + 4) capg) (Li.length + 4) ((Li.map fun p => .int .i64 p.2) ++ [.int .i64 x, .int .i64 x, .int .i64 x, .int .i64 x]) → (((we.setCell ⟨D, 1, none⟩ (.slice (some ⟨ge, 0, none⟩) (Li.length + 4) cape)).alloc (.cells #[.int .i64 x, .int .i64 x, .int .i64 x, .int .i64 x] 3)).drew).grownBy wg vn.ownBlock → (vn.ownBlock = some gg ∨ gg = we.heap.size + 1) → gg < wg.heap.size →
          Only (fun q => F q ∨ (Value.slice av k cap).ownBlock = some q) w (wg.setCell ⟨D, 3, none⟩ (.slice (some ⟨gg, 0, none⟩) (Li.length + 4) capg)) ∧ ∃ G, DS (m + 1) (wg.setCell ⟨D, 3, none⟩ (.slice (some ⟨gg, 0, none⟩) (Li.length + 4) capg)) D G ∧ ∀ q, G q → F q ∨ (Value.slice av k cap).ownBlock = some q ∨ w.heap.size ≤ q) := fun gg capg wg n1 n2 n3 n4 => Kp.lay HKc.out hm hxm hl HF.out (fun g e => ⟨HV.out g e, HVL.out g e⟩) rfl e1 e2 e3 e4 n1 n2 n3 n4
      have hsf : (we.setCell ⟨D, 1, none⟩ (.slice (some ⟨ge, 0, none⟩) (Li.length + 4) cape)).heap.size = we.heap.size := by simp
      have hDf := lt_of_block hwf
      have c3f : (we.setCell ⟨D, 1, none⟩ (.slice (some ⟨ge, 0, none⟩) (Li.length + 4) cape)).cell? ⟨D, 3, none⟩ = some vn := by rw [cell_of_row _ D 3 _ 28 (0, 0) hwf]; rfl
      have c0f : (we.setCell ⟨D, 1, none⟩ (.slice (some ⟨ge, 0, none⟩) (Li.length + 4) cape)).cell? ⟨D, 0, none⟩ = some (.int .i64 x) := by rw [cell_of_row _ D 0 _ 28 (0, 0) hwf]; rfl
      have f3f : (we.setCell ⟨D, 1, none⟩ (.slice (some ⟨ge, 0, none⟩) (Li.length + 4) cape)).frozen? ⟨D, 3, none⟩ = false := frozen_of_row _ D 3 _ 28 hwf
      clear hwf hKd HKc hri hbi cc1 cf1 hDe c1e f1e e1 e2 e3 e4
      rw [← hsf] at HFIN
      generalize we.setCell ⟨D, 1, none⟩ (.slice (some ⟨ge, 0, none⟩) (Li.length + 4) cape) = wf at *
      have HDG : Hid (∀ wg, ((wf.alloc (.cells #[.int .i64 x, .int .i64 x, .int .i64 x, .int .i64 x] 3)).drew).grownBy wg vn.ownBlock → wg.heap[D]? = wf.heap[D]?) := fun wg n2 => (n2.block D (by simp; omega) (fun e => hvnD e.symm)).trans (Below.heap_alloc wf _ D hDf)
      have c3w : ((wf.alloc (.cells #[.int .i64 x, .int .i64 x, .int .i64 x, .int .i64 x] 3)).drew).cell? ⟨D, 3, none⟩ = some vn := (World.cell?_of_block (a := ⟨D, 3, none⟩) (Below.heap_alloc wf _ D hDf)).trans c3f
      have HS2 : Hid (wf.cell? ⟨D, 0, none⟩ = some (.int .i64 x) ∧ wf.frozen? ⟨D, 3, none⟩ = false) := ⟨c0f, f3f⟩
      refine wp_region_held_drew (S := fun w' => w'.cell? ⟨D, 0, none⟩ = some (.int .i64 x) ∧ w'.frozen? ⟨D, 3, none⟩ = false) (by kernel_rfl) ⟨c0f, f3f⟩ (fun hHeld => ?_)
      refine wpAnyH_take (i := 0) (v := ?a0) rfl (by kernel_rfl) (by kernel_rfl) (by kernel_rfl) (fun _ _ _ h => h) (Or.inl ⟨by rfl, ?hya0⟩) (by assumption) ?resta0
      case hya0 => intro w hSw; (try dsimp only at hSw); go_simp; (try with_reducible rfl)
      simp only [Act.put]
      refine wpAnyH_take (i := 1) (v := ?a1) rfl (by kernel_rfl) (by kernel_rfl) (by kernel_rfl) (fun _ _ _ h => h) (Or.inl ⟨by rfl, ?hya1⟩) (by assumption) ?resta1
      case hya1 => intro w hSw; (try dsimp only at hSw); go_simp; (try with_reducible rfl)
      simp only [Act.put]
      refine wpAnyH_take (i := 2) (v := ?a2) rfl (by kernel_rfl) (by kernel_rfl) (by kernel_rfl) (fun _ _ _ h => h) (Or.inl ⟨by rfl, ?hya2⟩) (by assumption) ?resta2
      case hya2 => intro w hSw; (try dsimp only at hSw); go_simp; (try with_reducible rfl)
      simp only [Act.put]
      refine wpAnyH_take (i := 3) (v := ?a3) rfl (by kernel_rfl) (by kernel_rfl) (by kernel_rfl) (fun _ _ _ h => h) (Or.inl ⟨by rfl, ?hya3⟩) (by assumption) ?resta3
      case hya3 => intro w hSw; (try dsimp only at hSw); go_simp; (try with_reducible rfl)
      simp only [Act.put]
      refine wpAnyH_take (i := 5) (v := ?a5) rfl (by kernel_rfl) (by kernel_rfl) (by kernel_rfl) (fun _ _ _ h => h) (Or.inl ⟨by rfl, ?hya5⟩) (by assumption) ?resta5
      case hya5 => intro w hSw; (try dsimp only at hSw); go_simp; (try with_reducible rfl)
      simp only [Act.put]
      refine wpAnyH_take (i := 6) (v := ?a6) rfl (by kernel_rfl) (by kernel_rfl) (by kernel_rfl) (fun _ _ _ h => h) (Or.inl ⟨by rfl, ?hya6⟩) (by assumption) ?resta6
      case hya6 => intro w hSw; (try dsimp only at hSw); go_simp; (try with_reducible rfl)
      simp only [Act.put]
      refine wpAnyH_take (i := 7) (v := ?a7) rfl (by kernel_rfl) (by kernel_rfl) (by kernel_rfl) (fun _ _ _ h => h) (Or.inl ⟨by rfl, ?hya7⟩) (by assumption) ?resta7
      case hya7 => intro w hSw; (try dsimp only at hSw); go_simp; (try with_reducible rfl)
      simp only [Act.put]
      refine wpAnyH_take (i := 8) (v := ?a8) rfl (by kernel_rfl) (by kernel_rfl) (by kernel_rfl) (fun _ _ _ h => h) (Or.inl ⟨by rfl, ?hya8⟩) (by assumption) ?resta8
      case hya8 => intro w hSw; (try dsimp only at hSw); go_simp; (try with_reducible rfl)
      simp only [Act.put]
      refine wpAnyH_take (i := 9) (v := ?a9) rfl (by kernel_rfl) (by kernel_rfl) (by kernel_rfl) (fun _ _ _ h => h) (Or.inl ⟨by rfl, ?hya9⟩) (by assumption) ?resta9
      case hya9 => intro w hSw; (try dsimp only at hSw); go_simp; (try with_reducible rfl)
      simp only [Act.put]
      refine wpAnyH_take (i := 10) (v := ?a10) rfl (by kernel_rfl) (by kernel_rfl) (by kernel_rfl) (fun _ _ _ h => h) (Or.inl ⟨by rfl, ?hya10⟩) (by assumption) ?resta10
      case hya10 => intro w hSw; (try dsimp only at hSw); go_simp; (try with_reducible rfl)
      simp only [Act.put]
      refine wpAnyH_take (i := 11) (v := ?a11) rfl (by kernel_rfl) (by kernel_rfl) (by kernel_rfl) (fun _ _ _ h => h) (Or.inl ⟨by rfl, ?hya11⟩) (by assumption) ?resta11
      case hya11 => intro w hSw; (try dsimp only at hSw); go_simp; (try with_reducible rfl)
      simp only [Act.put]
      refine wpAnyH_take (i := 12) (v := ?a12) rfl (by kernel_rfl) (by kernel_rfl) (by kernel_rfl) (fun _ _ _ h => h) (Or.inl ⟨by rfl, ?hya12⟩) (by assumption) ?resta12
      case hya12 => intro w hSw; (try dsimp only at hSw); go_simp; (try with_reducible rfl)
      simp only [Act.put]
      refine wpAnyH_take (i := 13) (v := ?a13) rfl (by kernel_rfl) (by kernel_rfl) (by kernel_rfl) (fun _ _ _ h => h) (Or.inl ⟨by rfl, ?hya13⟩) (by assumption) ?resta13
      case hya13 => intro w hSw; (try dsimp only at hSw); go_simp; (try with_reducible rfl)
      simp only [Act.put]
      refine wpAnyH_take (i := 14) (v := ?a14) rfl (by kernel_rfl) (by kernel_rfl) (by kernel_rfl) (fun _ _ _ h => h) (Or.inl ⟨by rfl, ?hya14⟩) (by assumption) ?resta14
      case hya14 => intro w hSw; (try dsimp only at hSw); go_simp; (try with_reducible rfl)
      simp only [Act.put]
      refine wpAnyH_take (i := 15) (v := ?a15) rfl (by kernel_rfl) (by kernel_rfl) (by kernel_rfl) (fun _ _ _ h => h) (Or.inl ⟨by rfl, ?hya15⟩) (by assumption) ?resta15
      case hya15 => intro w hSw; (try dsimp only at hSw); go_simp; (try with_reducible rfl)
      simp only [Act.put]
      refine wpAnyH_take (i := 16) (v := ?a16) rfl (by kernel_rfl) (by kernel_rfl) (by kernel_rfl) (fun _ _ _ h => h) (Or.inl ⟨by rfl, ?hya16⟩) (by assumption) ?resta16
      case hya16 => intro w hSw; (try dsimp only at hSw); go_simp; (try with_reducible rfl)
      simp only [Act.put]
      refine wpAnyH_take (i := 17) (v := ?a17) rfl (by kernel_rfl) (by kernel_rfl) (by kernel_rfl) (fun _ _ _ h => h) (Or.inl ⟨by rfl, ?hya17⟩) (by assumption) ?resta17
      case hya17 => intro w hSw; (try dsimp only at hSw); go_simp; (try with_reducible rfl)
      simp only [Act.put]
      refine wpAnyH_take (i := 18) (v := ?a18) rfl (by kernel_rfl) (by kernel_rfl) (by kernel_rfl) (fun _ _ _ h => h) (Or.inl ⟨by rfl, ?hya18⟩) (by assumption) ?resta18
      case hya18 => intro w hSw; (try dsimp only at hSw); go_simp; (try with_reducible rfl)
      simp only [Act.put]
      refine wpAnyH_take (i := 19) (v := ?a19) rfl (by kernel_rfl) (by kernel_rfl) (by kernel_rfl) (fun _ _ _ h => h) (Or.inl ⟨by rfl, ?hya19⟩) (by assumption) ?resta19
      case hya19 => intro w hSw; (try dsimp only at hSw); go_simp; (try with_reducible rfl)
      simp only [Act.put]
      refine wpAnyH_take (i := 20) (v := ?a20) rfl (by kernel_rfl) (by kernel_rfl) (by kernel_rfl) (fun _ _ _ h => h) (Or.inl ⟨by rfl, ?hya20⟩) (by assumption) ?resta20
      case hya20 => intro w hSw; (try dsimp only at hSw); go_simp; (try with_reducible rfl)
      simp only [Act.put]
      refine wpAnyH_ready (rs := [4, 21]) (by kernel_rfl) (by simp) ?_
      refine AllReadyH.cons rfl (fun K hK => ?_) (AllReadyH.cons rfl (fun K hK => ?_) AllReadyH.nil)
      · go_simp
        refine hK.out _ _ (by exact hHeld) (fun hHeld => ?_)
        clear hK K
        refine wpAnyH_ready (rs := [21]) (by kernel_rfl) (by simp) ?_
        refine AllReadyH.cons rfl (fun K hK => ?_) AllReadyH.nil
        go_simp
        refine hK.out _ _ (by exact s2_alloc hHeld _) (fun hHeld => ?_)
        clear hK K
        refine wpAnyH_ready (rs := [22]) (by kernel_rfl) (by simp) ?_
        refine AllReadyH.cons rfl (fun K hK => ?_) AllReadyH.nil
        refine stepK_lies _ 96 rfl rfl (.tmp 78) (.tmp 95) 26 rfl 0 3 i0 (.int .i64 0) 1 8 Try.underlying26 hi hz0 hz1 hz2 rfl (by decide) vn Li.length _ (by simp [Act.eval]) (HRN.out _ (((Below.refl _ _).alloc (Nat.le_refl _) _).drew)) ⟨wf.heap.size, 0, none⟩ 4 4 [.int .i64 x, .int .i64 x, .int .i64 x, .int .i64 x] (by simp [Act.eval]) rfl (World.news_of_block (cs := #[.int .i64 x, .int .i64 x, .int .i64 x, .int .i64 x]) (heap_alloc_new wf _)) (by intro u hu2; simp at hu2; subst hu2; rfl) (by decide) (by unfold maxLen; omega) (by omega) (Nat.zero_le _) (wf.heap.size + 1) (by simp) ?_
        intro gg capg wg n1 n2 n3 n4
        have hDg : wg.heap[D]? = wf.heap[D]? := HDG.out wg n2
        refine hK.out _ _ (s2_same HS2.out hDg) (fun hHeld => ?_)
        clear hK K
        have c3g : wg.cell? ⟨D, 3, none⟩ = some vn := (World.cell?_of_block (a := ⟨D, 3, none⟩) hDg).trans c3f
        refine wpAnyH_take (i := 23) (v := ?b23) rfl (by kernel_rfl) (by kernel_rfl) (by kernel_rfl) (fun _ _ _ h => h) (Or.inl ⟨by rfl, ?hyb23⟩) (by assumption) ?restb23
        case hyb23 => intro w hSw; (try dsimp only at hSw); go_simp; (try with_reducible rfl)
        simp only [Act.put]
        refine wpAnyH_take (i := 24) (v := ?b24) rfl (by kernel_rfl) (by kernel_rfl) (by kernel_rfl) (fun _ _ _ h => h) (Or.inl ⟨by rfl, ?hyb24⟩) (by assumption) ?restb24
        case hyb24 => intro w hSw; (try dsimp only at hSw); go_simp; (try with_reducible rfl)
        simp only [Act.put]
        refine wpAnyH_ready (rs := [25]) (by kernel_rfl) (by simp) ?_
        refine AllReadyH.cons rfl (fun K hK => ?_) AllReadyH.nil
        go_simp
        refine hK.out _ _ (by exact s2_set hHeld _) (fun hHeld => ?_)
        clear hK K
        refine wpAnyH_done (by kernel_rfl) ?_ _
        go_wp2
        go_end0
        exact ⟨rfl, HFIN.out gg capg wg n1 n2 n3 n4⟩
      · go_simp
        refine hK.out _ _ (by exact s2_alloc hHeld _) (fun hHeld => ?_)
        clear hK K
        refine wpAnyH_ready (rs := [4]) (by kernel_rfl) (by simp) ?_
        refine AllReadyH.cons rfl (fun K hK => ?_) AllReadyH.nil
        go_simp
        refine hK.out _ _ (by exact hHeld) (fun hHeld => ?_)
        clear hK K
        refine wpAnyH_ready (rs := [22]) (by kernel_rfl) (by simp) ?_
        refine AllReadyH.cons rfl (fun K hK => ?_) AllReadyH.nil
        refine stepK_lies _ 96 rfl rfl (.tmp 78) (.tmp 95) 26 rfl 0 3 i0 (.int .i64 0) 1 8 Try.underlying26 hi hz0 hz1 hz2 rfl (by decide) vn Li.length _ (by simp [Act.eval]) (HRN.out _ (((Below.refl _ _).alloc (Nat.le_refl _) _).drew)) ⟨wf.heap.size, 0, none⟩ 4 4 [.int .i64 x, .int .i64 x, .int .i64 x, .int .i64 x] (by simp [Act.eval]) rfl (World.news_of_block (cs := #[.int .i64 x, .int .i64 x, .int .i64 x, .int .i64 x]) (heap_alloc_new wf _)) (by intro u hu2; simp at hu2; subst hu2; rfl) (by decide) (by unfold maxLen; omega) (by omega) (Nat.zero_le _) (wf.heap.size + 1) (by simp) ?_
        intro gg capg wg n1 n2 n3 n4
        have hDg : wg.heap[D]? = wf.heap[D]? := HDG.out wg n2
        refine hK.out _ _ (s2_same HS2.out hDg) (fun hHeld => ?_)
        clear hK K
        have c3g : wg.cell? ⟨D, 3, none⟩ = some vn := (World.cell?_of_block (a := ⟨D, 3, none⟩) hDg).trans c3f
        refine wpAnyH_take (i := 23) (v := ?c23) rfl (by kernel_rfl) (by kernel_rfl) (by kernel_rfl) (fun _ _ _ h => h) (Or.inl ⟨by rfl, ?hyc23⟩) (by assumption) ?restc23
        case hyc23 => intro w hSw; (try dsimp only at hSw); go_simp; (try with_reducible rfl)
        simp only [Act.put]
        refine wpAnyH_take (i := 24) (v := ?c24) rfl (by kernel_rfl) (by kernel_rfl) (by kernel_rfl) (fun _ _ _ h => h) (Or.inl ⟨by rfl, ?hyc24⟩) (by assumption) ?restc24
        case hyc24 => intro w hSw; (try dsimp only at hSw); go_simp; (try with_reducible rfl)
        simp only [Act.put]
        refine wpAnyH_ready (rs := [25]) (by kernel_rfl) (by simp) ?_
        refine AllReadyH.cons rfl (fun K hK => ?_) AllReadyH.nil
        go_simp
        refine hK.out _ _ (by exact s2_set hHeld _) (fun hHeld => ?_)
        clear hK K
        refine wpAnyH_done (by kernel_rfl) ?_ _
        go_wp2
        go_end0
        exact ⟨rfl, HFIN.out gg capg wg n1 n2 n3 n4⟩

end Go.Proofs.Ytpikkedeoebiaaa
