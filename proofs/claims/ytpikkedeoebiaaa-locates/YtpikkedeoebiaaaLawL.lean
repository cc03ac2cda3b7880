/- A drawer in which lists lie, whose blocks are told. -/
import Derived.Test.YtpikkedeoebiaaaLawK
namespace Go.Proofs.Ytpikkedeoebiaaa
open Go.RowKit
set_option maxRecDepth 100000

/-- the drawer's own four rows: whose blocks -/
def Apart4 (D : Nat) (vi vh vn vm : Value) (g : Nat) : Prop := g ≠ D ∧ vi.ownBlock ≠ some g ∧ vh.ownBlock ≠ some g ∧ vn.ownBlock ≠ some g ∧ vm.ownBlock ≠ some g

/-- m times something was laid into it -/
structure DAt (m : Nat) (n : Int) (w : World) (D : Nat) (F : Nat → Prop) (vi vh vn vm : Value) (Li Lh : List (Value × Int)) : Prop where
  blk : w.heap[D]? = some (.cells #[.int .i64 n, vi, vh, vn, vm] 28 (0, 0))
  li : Li.length ≤ 4 * m
  lh : Lh.length ≤ 4 * m
  ri : w.ownsRow 0 26 1 vi Li.length (Li.map (·.1))
  rh : w.ownsRow 0 66 1 vh Lh.length (Lh.map (·.1))
  rn : w.ownsRow 0 3 1 vn Li.length (Li.map fun p => .int .i64 p.2)
  rm : w.ownsRow 0 3 1 vm Lh.length (Lh.map fun p => .int .i64 p.2)
  mine : F D
  bi : ∀ g, vi.ownBlock = some g → F g ∧ g ≠ D
  bh : ∀ g, vh.ownBlock = some g → F g ∧ g ≠ D
  bn : ∀ g, vn.ownBlock = some g → F g ∧ g ≠ D
  bm : ∀ g, vm.ownBlock = some g → F g ∧ g ≠ D ∧ vn.ownBlock ≠ some g
  ki : ∀ p ∈ Li, ReadsI w p.1 p.2 ∧ ∀ g, p.1.ownBlock = some g → F g ∧ Apart4 D vi vh vn vm g
  kh : ∀ p ∈ Lh, ReadsH w p.1 p.2 ∧ ∀ g, p.1.ownBlock = some g → F g ∧ Apart4 D vi vh vn vm g
  lt : ∀ k, F k → k < w.heap.size

def DS (m : Nat) (w : World) (D : Nat) (F : Nat → Prop) : Prop := m ≤ 2000000000000 ∧ ∃ vi vh vn vm Li Lh, DAt m (m : Int) w D F vi vh vn vm Li Lh

theorem ReadsI.same {w w' : World} {s : Value} {x : Int} (h : ReadsI w s x) (hf : ∀ g, s.ownBlock = some g → w'.heap[g]? = w.heap[g]?) : ReadsI w' s x := by
  obtain ⟨a, len, cap, rfl, hl, hr⟩ := h
  refine ⟨a, len, cap, rfl, hl, fun i hi => ?_⟩
  obtain ⟨g, rfl, hc⟩ := hr i hi
  exact ⟨g, rfl, by rw [World.cell?_of_block (a := ⟨g, i, none⟩) (hf g rfl)]; exact hc⟩
theorem ReadsH.same {w w' : World} {s : Value} {x : Int} (h : ReadsH w s x) (hf : ∀ g, s.ownBlock = some g → w'.heap[g]? = w.heap[g]?) : ReadsH w' s x := by
  obtain ⟨a, len, cap, rfl, hl, hr⟩ := h
  refine ⟨a, len, cap, rfl, hl, fun i hi => ?_⟩
  obtain ⟨g, rfl, hc, hc2⟩ := hr i hi
  exact ⟨g, rfl, by rw [World.cell?_of_block (a := ⟨g, i * 2, none⟩) (hf g rfl)]; exact hc, by rw [World.cell?_of_block (a := ⟨g, i * 2 + 1, none⟩) (hf g rfl)]; exact hc2⟩

theorem DAt.frame {m : Nat} {n : Int} {w w' : World} {D : Nat} {F : Nat → Prop} {vi vh vn vm : Value} {Li Lh : List (Value × Int)} (h : DAt m n w D F vi vh vn vm Li Lh) (hs : w.heap.size ≤ w'.heap.size) (hf : ∀ k, F k → w'.heap[k]? = w.heap[k]?) : DAt m n w' D F vi vh vn vm Li Lh where
  blk := (hf D h.mine).trans h.blk
  li := h.li
  lh := h.lh
  ri := row_same h.ri fun g hg => hf g (h.bi g hg).1
  rh := row_same h.rh fun g hg => hf g (h.bh g hg).1
  rn := row_same h.rn fun g hg => hf g (h.bn g hg).1
  rm := row_same h.rm fun g hg => hf g (h.bm g hg).1
  mine := h.mine
  bi := h.bi
  bh := h.bh
  bn := h.bn
  bm := h.bm
  ki p hp := ⟨(h.ki p hp).1.same fun g hg => hf g ((h.ki p hp).2 g hg).1, (h.ki p hp).2⟩
  kh p hp := ⟨(h.kh p hp).1.same fun g hg => hf g ((h.kh p hp).2 g hg).1, (h.kh p hp).2⟩
  lt k hk := Nat.lt_of_lt_of_le (h.lt k hk) hs

theorem DAt.wide {m : Nat} {n : Int} {w : World} {D : Nat} {F G : Nat → Prop} {vi vh vn vm : Value} {Li Lh : List (Value × Int)} (h : DAt m n w D F vi vh vn vm Li Lh) (hfg : ∀ k, F k → G k) (hg : ∀ k, G k → k < w.heap.size) : DAt m n w D G vi vh vn vm Li Lh where
  blk := h.blk
  li := h.li
  lh := h.lh
  ri := h.ri
  rh := h.rh
  rn := h.rn
  rm := h.rm
  mine := hfg _ h.mine
  bi g e := ⟨hfg _ (h.bi g e).1, (h.bi g e).2⟩
  bh g e := ⟨hfg _ (h.bh g e).1, (h.bh g e).2⟩
  bn g e := ⟨hfg _ (h.bn g e).1, (h.bn g e).2⟩
  bm g e := ⟨hfg _ (h.bm g e).1, (h.bm g e).2⟩
  ki p hp := ⟨(h.ki p hp).1, fun g e => ⟨hfg _ ((h.ki p hp).2 g e).1, ((h.ki p hp).2 g e).2⟩⟩
  kh p hp := ⟨(h.kh p hp).1, fun g e => ⟨hfg _ ((h.kh p hp).2 g e).1, ((h.kh p hp).2 g e).2⟩⟩
  lt := hg

theorem drawn_some (m : Nat) : Drawn (DS m) where
  lt h := by obtain ⟨_, _, _, _, _, _, _, h⟩ := h; exact h.lt
  frame h hs hf := by obtain ⟨hm, vi, vh, vn, vm, Li, Lh, h⟩ := h; exact ⟨hm, vi, vh, vn, vm, Li, Lh, h.frame hs hf⟩
  wide h hfg hg := by obtain ⟨hm, vi, vh, vn, vm, Li, Lh, h⟩ := h; exact ⟨hm, vi, vh, vn, vm, Li, Lh, h.wide hfg hg⟩
  looks h := by
    obtain ⟨hm, vi, vh, vn, vm, Li, Lh, h⟩ := h
    exact looks_any _ _ vi vh vn vm Li Lh _ h.blk h.ri h.rh h.rn h.rm (fun p hp => (h.ki p hp).1) (fun p hp => (h.kh p hp).1) (by have := h.li; omega) (by have := h.lh; omega)

theorem drawn_start (w : World) (D : Nat) (h : w.heap[D]? = some (.cells #[.int .i64 0, .slice none 0 0, .slice none 0 0, .slice none 0 0, .slice none 0 0] 28 (0, 0))) : DS 0 w D (fun k => k = D) :=
  ⟨Nat.zero_le _, _, _, _, _, [], [], {
    blk := h
    li := Nat.le_refl _
    lh := Nat.le_refl _
    ri := World.ownsRow_nil _ _ _ _
    rh := World.ownsRow_nil _ _ _ _
    rn := World.ownsRow_nil _ _ _ _
    rm := World.ownsRow_nil _ _ _ _
    mine := rfl
    bi := fun g e => by simp [Value.ownBlock] at e
    bh := fun g e => by simp [Value.ownBlock] at e
    bn := fun g e => by simp [Value.ownBlock] at e
    bm := fun g e => by simp [Value.ownBlock] at e
    ki := fun p hp => by simp at hp
    kh := fun p hp => by simp at hp
    lt := fun k hk => by rw [hk]; exact lt_of_block h }⟩

/-- its number turned -/
theorem DAt.count {m : Nat} {n : Int} {w : World} {D : Nat} {F : Nat → Prop} {vi vh vn vm : Value} {Li Lh : List (Value × Int)} (h : DAt m n w D F vi vh vn vm Li Lh) (n' : Int) : DAt m n' (w.setCell ⟨D, 0, none⟩ (.int .i64 n')) D F vi vh vn vm Li Lh := by
  have hs : ∀ k, k ≠ D → (w.setCell ⟨D, 0, none⟩ (.int .i64 n')).heap[k]? = w.heap[k]? := fun k hk => Below.heap_setCell w ⟨D, 0, none⟩ _ k hk
  exact {
    blk := (heap_setCell_same w D 0 _ 28 _ h.blk).trans rfl
    li := h.li
    lh := h.lh
    ri := row_same h.ri fun g hg => hs g (h.bi g hg).2
    rh := row_same h.rh fun g hg => hs g (h.bh g hg).2
    rn := row_same h.rn fun g hg => hs g (h.bn g hg).2
    rm := row_same h.rm fun g hg => hs g (h.bm g hg).2.1
    mine := h.mine
    bi := h.bi
    bh := h.bh
    bn := h.bn
    bm := h.bm
    ki := fun p hp => ⟨(h.ki p hp).1.same fun g hg => hs g ((h.ki p hp).2 g hg).2.1, (h.ki p hp).2⟩
    kh := fun p hp => ⟨(h.kh p hp).1.same fun g hg => hs g ((h.kh p hp).2 g hg).2.1, (h.kh p hp).2⟩
    lt := fun k hk => by simpa using h.lt k hk }
theorem DAt.c0 {m : Nat} {n : Int} {w : World} {D : Nat} {F : Nat → Prop} {vi vh vn vm : Value} {Li Lh : List (Value × Int)} (h : DAt m n w D F vi vh vn vm Li Lh) : w.cell? ⟨D, 0, none⟩ = some (.int .i64 n) := by rw [cell_of_row w D 0 _ 28 (0, 0) h.blk]; rfl
theorem DAt.c1 {m : Nat} {n : Int} {w : World} {D : Nat} {F : Nat → Prop} {vi vh vn vm : Value} {Li Lh : List (Value × Int)} (h : DAt m n w D F vi vh vn vm Li Lh) : w.cell? ⟨D, 1, none⟩ = some vi := by rw [cell_of_row w D 1 _ 28 (0, 0) h.blk]; rfl
theorem DAt.c3 {m : Nat} {n : Int} {w : World} {D : Nat} {F : Nat → Prop} {vi vh vn vm : Value} {Li Lh : List (Value × Int)} (h : DAt m n w D F vi vh vn vm Li Lh) : w.cell? ⟨D, 3, none⟩ = some vn := by rw [cell_of_row w D 3 _ 28 (0, 0) h.blk]; rfl
theorem DAt.free {m : Nat} {n : Int} {w : World} {D : Nat} {F : Nat → Prop} {vi vh vn vm : Value} {Li Lh : List (Value × Int)} (h : DAt m n w D F vi vh vn vm Li Lh) (j : Nat) : w.frozen? ⟨D, j, none⟩ = false := frozen_of_row w D j _ 28 h.blk

end Go.Proofs.Ytpikkedeoebiaaa
