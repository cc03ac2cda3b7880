/- Walk: foliolaw's keepInts, at a drawer that is still empty. -/
import Derived.Test.YthkndfkkgncjfaaWalkD
import Derived.Deep.RegionHeldLaw
import Derived.Deep.AppendLies
import Derived.Deep.RegionLawGrows
namespace Go.Proofs.Ythkndfkkgncjfaa
open Go.RowKit
set_option maxRecDepth 100000

theorem Try.info26 : (Try.prog.info? 26).map (fun i => (i.zero, i.size, i.bytes)) = some (some (.slice none 0 0), 1, 24) := by kernel_rfl

/-- the drawer's block, whole -/
def DrAt (w : World) (D : Nat) (n : Int) (vi vh vn vm : Value) : Prop := w.heap[D]? = some (.cells #[.int .i64 n, vi, vh, vn, vm] 28 (0, 0))
theorem DrAt.lt {w : World} {D : Nat} {n : Int} {vi vh vn vm : Value} (h : DrAt w D n vi vh vn vm) : D < w.heap.size := lt_of_block h
theorem DrAt.c0 {w : World} {D : Nat} {n : Int} {vi vh vn vm : Value} (h : DrAt w D n vi vh vn vm) : w.cell? ⟨D, 0, none⟩ = some (.int .i64 n) := by rw [cell_of_row w D 0 _ 28 (0, 0) h]; rfl
theorem DrAt.c1 {w : World} {D : Nat} {n : Int} {vi vh vn vm : Value} (h : DrAt w D n vi vh vn vm) : w.cell? ⟨D, 1, none⟩ = some vi := by rw [cell_of_row w D 1 _ 28 (0, 0) h]; rfl
theorem DrAt.c3 {w : World} {D : Nat} {n : Int} {vi vh vn vm : Value} (h : DrAt w D n vi vh vn vm) : w.cell? ⟨D, 3, none⟩ = some vn := by rw [cell_of_row w D 3 _ 28 (0, 0) h]; rfl
theorem DrAt.free {w : World} {D : Nat} {n : Int} {vi vh vn vm : Value} (h : DrAt w D n vi vh vn vm) (j : Nat) : w.frozen? ⟨D, j, none⟩ = false := frozen_of_row w D j _ 28 h
theorem DrAt.below {w w' : World} {D : Nat} {n : Int} {vi vh vn vm : Value} (h : DrAt w D n vi vh vn vm) (hb : Below w.heap.size w w') : DrAt w' D n vi vh vn vm := (hb.block D h.lt).trans h
theorem DrAt.set0 {w : World} {D : Nat} {n : Int} {vi vh vn vm : Value} (h : DrAt w D n vi vh vn vm) (m : Int) : DrAt (w.setCell ⟨D, 0, none⟩ (.int .i64 m)) D m vi vh vn vm := (heap_setCell_same w D 0 _ 28 _ h).trans rfl
theorem DrAt.set1 {w : World} {D : Nat} {n : Int} {vi vh vn vm : Value} (h : DrAt w D n vi vh vn vm) (v : Value) : DrAt (w.setCell ⟨D, 1, none⟩ v) D n v vh vn vm := (heap_setCell_same w D 1 _ 28 _ h).trans rfl
theorem DrAt.set3 {w : World} {D : Nat} {n : Int} {vi vh vn vm : Value} (h : DrAt w D n vi vh vn vm) (v : Value) : DrAt (w.setCell ⟨D, 3, none⟩ v) D n vi vh v vm := (heap_setCell_same w D 3 _ 28 _ h).trans rfl
theorem DrAt.other {w : World} {D : Nat} {n : Int} {vi vh vn vm : Value} (h : DrAt w D n vi vh vn vm) (a : Addr) (ha : a.block ≠ D) (u : Value) : DrAt (w.setCell a u) D n vi vh vn vm :=
  (Below.heap_setCell w a u D (fun e => ha e.symm)).trans h
theorem OwnI.far {w : World} {B g : Nat} {l : List Nat} (h : OwnI w B g l) (a : Addr) (ha : a.block ≠ g) (u : Value) : OwnI (w.setCell a u) B g l :=
  ownsRow_setCell_other h (fun e => ha (by simpa [Value.ownBlock] using e.symm)) u

/-- the law on an append that must grow, its place of landing written out -/
theorem step_grows_at {P : Program} {ops : Array Oper} {o : Oper} {a : Act} {w : World} {K : Act → World → Prop} {Q : Exit → Act → World → Prop} {E : Prop}
    (d : Nat) (hd : o.dst = some d) (hg : o.guard = none) (s x : Operand) (t : TypeId) (hop : o.op = Op.call { callee := Callee.builtin Builtin.append, args := #[s, x], argTypes := #[t, t] })
    (e : TypeId) (i : TypeInfo) (z : Value) (size bytes : Nat) (h1 : P.underlying t = some (.slice e)) (h2 : P.info? e = some i) (h3 : i.zero = some z) (h4 : i.size = size) (h5 : i.bytes = bytes) (h6 : z.cells.size = size) (h7 : 0 < size)
    (ao : Option Addr) (n cap : Nat) (olds : List Value) (hs : a.eval s = .slice ao n cap) (hnone : ao = none → n = 0 ∧ cap = 0) (hlo : olds.length = n * size) (holds : ∀ b, ao = some b → ∀ j u, olds[j]? = some u → w.cell? (b.add j) = some u)
    (ad : Addr) (m c : Nat) (news : List Value) (hx : a.eval x = .slice (some ad) m c) (hn : news.length = m * size) (hc : ∀ j u, news[j]? = some u → w.cell? (ad.add j) = some u) (h1c : ∀ u ∈ news, u.oneCell' = true)
    (hfull : cap < n + m) (b1 : n + m ≤ maxLen) (b2 : (n + m) * bytes ≤ 140737488355328)
    (hK : ∀ v' w', w'.ownsRow w.heap.size e size v' (n + m) (olds ++ news) → w.grownBy w' none → K (a.put (some d) v') w') :
    if Region.wanted o (yielded ops a.tmps) = true then Oper.wp P o a w K Q else E :=
  step_append_grows hg s x t hop e i z size bytes h1 h2 h3 h4 h5 h6 h7 ao n cap olds hs hnone hlo holds ad m c news hx hn hc h1c hfull b1 b2 (fun v' w' p q => by rw [hd]; exact hK v' w' p q)

theorem grow_below {w w' : World} {o : Obj} (h : (w.alloc o).grownBy w' none) : Below w.heap.size w w' :=
  ((Below.refl _ _).alloc (Nat.le_refl _) o).grown h (by simp) (by simp)

theorem grow_below' {w w' : World} {o : Obj} (h : (w.alloc o).drew.grownBy w' none) : Below w.heap.size w w' :=
  ((Below.refl _ _).alloc (Nat.le_refl _) o).drew.grown h (by simp) (by simp)
theorem held3_below {w W W' : World} {D : Nat} {v : Value} (hD : D < W.heap.size) (h : W.cell? ⟨D, 0, none⟩ = some v ∧ W.frozen? ⟨D, 3, none⟩ = false ∧ Below D w W) (hb : Below W.heap.size W W') : W'.cell? ⟨D, 0, none⟩ = some v ∧ W'.frozen? ⟨D, 3, none⟩ = false ∧ Below D w W' :=
  ⟨by rw [hb.cell hD]; exact h.1, by rw [hb.frozen hD]; exact h.2.1, h.2.2.trans (hb.mono (by omega))⟩
theorem cell_lt {W : World} {a : Addr} {v : Value} (h : W.cell? a = some v) : a.block < W.heap.size := World.block_lt_of_cell? W a h
theorem held3_alloc {w W : World} {D : Nat} {v : Value} (h : W.cell? ⟨D, 0, none⟩ = some v ∧ W.frozen? ⟨D, 3, none⟩ = false ∧ Below D w W) (o : Obj) : (W.alloc o).cell? ⟨D, 0, none⟩ = some v ∧ (W.alloc o).frozen? ⟨D, 3, none⟩ = false ∧ Below D w (W.alloc o) :=
  held3_below (cell_lt h.1) h ((Below.refl _ _).alloc (Nat.le_refl _) o)
theorem held3_grown {w W W' : World} {D : Nat} {v : Value} (h : W.cell? ⟨D, 0, none⟩ = some v ∧ W.frozen? ⟨D, 3, none⟩ = false ∧ Below D w W) (hg : W.grownBy W' none) : W'.cell? ⟨D, 0, none⟩ = some v ∧ W'.frozen? ⟨D, 3, none⟩ = false ∧ Below D w W' :=
  held3_below (cell_lt h.1) h ((Below.refl _ _).grown hg (Nat.le_refl _) (by simp))
theorem held3_set {w W : World} {D : Nat} {v : Value} (h : W.cell? ⟨D, 0, none⟩ = some v ∧ W.frozen? ⟨D, 3, none⟩ = false ∧ Below D w W) (u : Value) : (W.setCell ⟨D, 3, none⟩ u).cell? ⟨D, 0, none⟩ = some v ∧ (W.setCell ⟨D, 3, none⟩ u).frozen? ⟨D, 3, none⟩ = false ∧ Below D w (W.setCell ⟨D, 3, none⟩ u) :=
  ⟨by rw [World.cell?_setCell_other _ _ _ _ (by simp)]; exact h.1, by have := h.2.1; rw [World.frozen?_setCell]; exact this, h.2.2.setCell (p := ⟨D, 3, none⟩) (Nat.le_refl D) _⟩
theorem held_alloc {wa W : World} {D : Nat} {v : Value} (hD : D < wa.heap.size) (h : W.cell? ⟨D, 0, none⟩ = some v ∧ Below wa.heap.size wa W) (o : Obj) : (W.alloc o).cell? ⟨D, 0, none⟩ = some v ∧ Below wa.heap.size wa (W.alloc o) := by
  have hb : Below wa.heap.size wa (W.alloc o) := h.2.alloc h.2.size o
  exact ⟨by rw [hb.cell hD, ← h.2.cell hD]; exact h.1, hb⟩
theorem held_grown {wa W W' : World} {D : Nat} {v : Value} (hD : D < wa.heap.size) (h : W.cell? ⟨D, 0, none⟩ = some v ∧ Below wa.heap.size wa W) (hg : W.grownBy W' none) : W'.cell? ⟨D, 0, none⟩ = some v ∧ Below wa.heap.size wa W' := by
  have hb : Below wa.heap.size wa W' := h.2.grown hg h.2.size (by simp)
  exact ⟨by rw [hb.cell hD, ← h.2.cell hD]; exact h.1, hb⟩

set_option maxHeartbeats 1000000 in
theorem keep_own (D g : Nat) (l : List Nat) (w : World) (hl : l.length ≤ 1000) (ho : OwnI w (D + 1) g l) (hd : DrAt w D 0 (.slice none 0 0) (.slice none 0 0) (.slice none 0 0) (.slice none 0 0)) :
    Calls Try.prog 39 #[.pointer (some ⟨D, 0, none⟩), .slice (some ⟨g, 0, none⟩) l.length l.length] w fun e w' => e = .returned (.tuple #[]) ∧ Below D w w' := by
  obtain ⟨i0, hi, hz0, hz1, hz2⟩ := info_parts Try.info3
  obtain ⟨i1, hj, hy0, hy1, hy2⟩ := info_parts Try.info26
  have hg := ho.base
  have c0 := hd.c0
  have f0 := hd.free 0
  go_enter Try.func39, Try.ntmps39
  go_wp2
  have hd1 := hd.set0 1
  have ho1 := ho.far ⟨D, 0, none⟩ (by show D ≠ g; omega) (.int .i64 1)
  have hb1 : Below D w (w.setCell ⟨D, 0, none⟩ (.int .i64 1)) := (Below.refl D w).setCell (p := ⟨D, 0, none⟩) (Nat.le_refl D) _
  clear c0 f0
  go_loopw [4] (fun i wr => ∃ k : Nat, k ≤ l.length ∧ i = .int .i64 k ∧ (∃ l1, l1.length = l.length ∧ OwnI wr (D + 1) g l1) ∧ DrAt wr D 1 (.slice none 0 0) (.slice none 0 0) (.slice none 0 0) (.slice none 0 0) ∧ Below D w wr) (fun i _ => l.length - (intOf i).toNat)
  case atStart => exact ⟨0, Nat.zero_le _, rfl, ⟨l, rfl, ho1⟩, hd1, hb1⟩
  case round =>
    obtain ⟨k, hk, rfl, ⟨l1, hl1, hw1⟩, hd2, hb2⟩ := hrel
    clear hd1 ho1 hb1 ho hd
    have c0 := hd2.c0
    by_cases hlt : k < l.length
    · have c2 := hw1.cell k (by omega)
      have f2 := hw1.free k
      go_wp2
      go_roundw
      case rel => exact ⟨k + 1, by omega, by go_num, ⟨l1.set k 1, by simpa using hl1, hw1.put k 1⟩, hd2.other _ (by show g ≠ D; omega) _, hb2.setCell (by show D ≤ g; omega) _⟩
      case measure => simp [intOf]; omega
    · have hbs := hb2.size
      have hds := hd2.lt
      go_wp2_with (at_builtin; refine wpList_append_grows _ rfl _ _ 26 rfl 3 i0 (.int .i64 0) 1 8 Try.underlying26 hi hz0 hz1 hz2 rfl (by decide) (some ⟨g, 0, none⟩) l.length l.length (I l1) rfl (by simp) (by simp [I_length, hl1]) (by intro b hb j u hu; cases hb; exact World.ownsRow.cells (World.ownsRow.alloc hw1 _) rfl j u hu) ⟨wr.heap.size, 0, none⟩ 1 1 [.int .i64 1] rfl rfl (cell_one_new _ _ _) (by intro u hu2; simp at hu2; subst hu2; rfl) (by omega) (by unfold maxLen; omega) (by omega) ?_; intro va wa howna hgrowa)
      obtain ⟨ga, capa, hva, _, _⟩ := howna.form (by omega)
      have hwa := grow_below hgrowa
      have hda := hd2.below hwa
      have hoa := hw1.below hwa
      have hba : Below D w wa := hb2.trans (hwa.mono (by omega))
      have hcd := hda.c0
      have hdl := hda.lt
      rw [hva]
      clear hva howna hgrowa hwa hd2 hw1 hb2 c0
      go_region_held_law (fun w' => w'.cell? ⟨D, 0, none⟩ = some (.int .i64 1) ∧ Below wa.heap.size wa w') (first | exact ⟨hcd, (Below.refl _ _).drew⟩ | exact held_alloc hdl (by assumption) _ | exact held_grown hdl (by assumption) (by assumption))
        ((refine step_grows_at 45 rfl rfl (.tmp 35) (.tmp 44) 26 rfl 3 i0 (.int .i64 0) 1 8 Try.underlying26 hi hz0 hz1 hz2 rfl (by decide) (some ⟨g, 0, none⟩) l.length l.length (I l1) (by simp [Act.eval]) (by simp) (by simp [I_length, hl1]) (by intro b hb j u hu; cases hb; exact World.ownsRow.cells (OwnI.below hoa (by assumption : _ ∧ Below wa.heap.size wa _).2) rfl j u hu) ⟨wa.heap.size, 0, none⟩ 2 2 [.int .i64 1, .int .i64 1] (by simp [Act.eval]) rfl (cell_two_new wa _ _ 3) (by intro u hu2; simp at hu2; subst hu2; rfl) (by omega) (by unfold maxLen; omega) (by omega) ?_; intro vb wb hownb hgrowb))
      go_wp2
      have hSb : wb.cell? ⟨D, 0, none⟩ = some (.int .i64 1) ∧ Below wa.heap.size wa wb := by assumption
      obtain ⟨gb, capb, hvb, _, _⟩ := hownb.form (by omega)
      rw [hvb]
      have hdb := hda.below hSb.2
      have hob := hoa.below hSb.2
      have hbb : Below D w wb := hba.trans (hSb.2.mono (by omega))
      have hce := hdb.c0
      have hdm := hdb.lt
      clear hvb hownb hgrowb hSb hda hoa hba hcd
      go_region_held_law (fun w' => w'.cell? ⟨D, 0, none⟩ = some (.int .i64 1) ∧ Below wb.heap.size wb w') (first | exact ⟨hce, (Below.refl _ _).drew⟩ | exact held_alloc hdm (by assumption) _ | exact held_grown hdm (by assumption) (by assumption))
        ((refine step_grows_at 60 rfl rfl (.tmp 46) (.tmp 59) 26 rfl 3 i0 (.int .i64 0) 1 8 Try.underlying26 hi hz0 hz1 hz2 rfl (by decide) (some ⟨g, 0, none⟩) l.length l.length (I l1) (by simp [Act.eval]) (by simp) (by simp [I_length, hl1]) (by intro b hb j u hu; cases hb; exact World.ownsRow.cells (OwnI.below hob (by assumption : _ ∧ Below wb.heap.size wb _).2) rfl j u hu) ⟨wb.heap.size, 0, none⟩ 3 3 [.int .i64 1, .int .i64 1, .int .i64 1] (by simp [Act.eval]) rfl (World.news_of_block (cs := #[.int .i64 1, .int .i64 1, .int .i64 1]) (heap_alloc_new wb _)) (by intro u hu2; simp at hu2; subst hu2; rfl) (by omega) (by unfold maxLen; omega) (by omega) ?_; intro vc wc hownc hgrowc))
      have hSc : wc.cell? ⟨D, 0, none⟩ = some (.int .i64 1) ∧ Below wb.heap.size wb wc := by assumption
      obtain ⟨gc, capc, hvc, _, _⟩ := hownc.form (by omega)
      rw [hvc]
      have hdc := hdb.below hSc.2
      have hbc : Below D w wc := hbb.trans (hSc.2.mono (by omega))
      have hcc := hdc.c1
      have hfc := hdc.free 1
      have hdn := hdc.lt
      clear hvc hownc hgrowc hSc hdb hob hbb hce
      go_wp2_with (at_builtin; refine wpList_append_grows _ rfl _ _ 24 rfl 26 i1 (.slice none 0 0) 1 24 Try.underlying24 hj hy0 hy1 hy2 rfl (by decide) none 0 0 [] rfl (by simp) rfl (by simp) ⟨wc.heap.size, 0, none⟩ 4 4 [.slice (some ⟨g, 0, none⟩) l.length l.length, .slice (some ⟨ga, 0, none⟩) (l.length + 1) capa, .slice (some ⟨gb, 0, none⟩) (l.length + 2) capb, .slice (some ⟨gc, 0, none⟩) (l.length + 3) capc] rfl rfl (World.news_of_block (heap_alloc_new wc _)) (by simp [Value.oneCell']) (by omega) (by unfold maxLen; omega) (by omega) ?_; intro ve we howne hgrowe; obtain ⟨ge, cape, hve, _, _⟩ := howne.form (by omega); rw [hve]; have hwe := grow_below hgrowe; have hde := hdc.below hwe; have hc1e := hde.c1; have hf1e := hde.free 1)
      have hwe : Below wc.heap.size wc we := grow_below (by assumption)
      have hde : DrAt we D 1 (.slice none 0 0) (.slice none 0 0) (.slice none 0 0) (.slice none 0 0) := hdc.below hwe
      have hbe : Below D w we := hbc.trans (hwe.mono (by omega))
      have hdf := hde.set1 (.slice (some ⟨ge, 0, none⟩) 4 cape)
      have hbf : Below D w (we.setCell ⟨D, 1, none⟩ (.slice (some ⟨ge, 0, none⟩) 4 cape)) := hbe.setCell (p := ⟨D, 1, none⟩) (Nat.le_refl D) _
      generalize we.setCell ⟨D, 1, none⟩ (.slice (some ⟨ge, 0, none⟩) 4 cape) = wf at *
      have hc0 := hdf.c0
      have hc3 := hdf.c3
      have hf3 := hdf.free 3
      have hdz := hdf.lt
      refine wp_region_held_drew (S := fun w' => w'.cell? ⟨D, 0, none⟩ = some (.int .i64 1) ∧ w'.frozen? ⟨D, 3, none⟩ = false ∧ Below D w w') (by kernel_rfl) ⟨hc0, hf3, hbf.drew⟩ (fun hHeld => ?_)
      refine wpAnyH_take (i := 0) (v := ?va0) rfl (by kernel_rfl) (by kernel_rfl) (by kernel_rfl) (fun _ _ _ h => h) (Or.inl ⟨by rfl, ?hya0⟩) (by assumption) ?resta0
      case hya0 => intro w hSw; (try dsimp only at hSw); go_simp; (try with_reducible rfl)
      simp only [Act.put]
      refine wpAnyH_take (i := 1) (v := ?va1) rfl (by kernel_rfl) (by kernel_rfl) (by kernel_rfl) (fun _ _ _ h => h) (Or.inl ⟨by rfl, ?hya1⟩) (by assumption) ?resta1
      case hya1 => intro w hSw; (try dsimp only at hSw); go_simp; (try with_reducible rfl)
      simp only [Act.put]
      refine wpAnyH_take (i := 2) (v := ?va2) rfl (by kernel_rfl) (by kernel_rfl) (by kernel_rfl) (fun _ _ _ h => h) (Or.inl ⟨by rfl, ?hya2⟩) (by assumption) ?resta2
      case hya2 => intro w hSw; (try dsimp only at hSw); go_simp; (try with_reducible rfl)
      simp only [Act.put]
      refine wpAnyH_take (i := 3) (v := ?va3) rfl (by kernel_rfl) (by kernel_rfl) (by kernel_rfl) (fun _ _ _ h => h) (Or.inl ⟨by rfl, ?hya3⟩) (by assumption) ?resta3
      case hya3 => intro w hSw; (try dsimp only at hSw); go_simp; (try with_reducible rfl)
      simp only [Act.put]
      refine wpAnyH_take (i := 5) (v := ?va5) rfl (by kernel_rfl) (by kernel_rfl) (by kernel_rfl) (fun _ _ _ h => h) (Or.inl ⟨by rfl, ?hya5⟩) (by assumption) ?resta5
      case hya5 => intro w hSw; (try dsimp only at hSw); go_simp; (try with_reducible rfl)
      simp only [Act.put]
      refine wpAnyH_take (i := 6) (v := ?va6) rfl (by kernel_rfl) (by kernel_rfl) (by kernel_rfl) (fun _ _ _ h => h) (Or.inl ⟨by rfl, ?hya6⟩) (by assumption) ?resta6
      case hya6 => intro w hSw; (try dsimp only at hSw); go_simp; (try with_reducible rfl)
      simp only [Act.put]
      refine wpAnyH_take (i := 7) (v := ?va7) rfl (by kernel_rfl) (by kernel_rfl) (by kernel_rfl) (fun _ _ _ h => h) (Or.inl ⟨by rfl, ?hya7⟩) (by assumption) ?resta7
      case hya7 => intro w hSw; (try dsimp only at hSw); go_simp; (try with_reducible rfl)
      simp only [Act.put]
      refine wpAnyH_take (i := 8) (v := ?va8) rfl (by kernel_rfl) (by kernel_rfl) (by kernel_rfl) (fun _ _ _ h => h) (Or.inl ⟨by rfl, ?hya8⟩) (by assumption) ?resta8
      case hya8 => intro w hSw; (try dsimp only at hSw); go_simp; (try with_reducible rfl)
      simp only [Act.put]
      refine wpAnyH_take (i := 9) (v := ?va9) rfl (by kernel_rfl) (by kernel_rfl) (by kernel_rfl) (fun _ _ _ h => h) (Or.inl ⟨by rfl, ?hya9⟩) (by assumption) ?resta9
      case hya9 => intro w hSw; (try dsimp only at hSw); go_simp; (try with_reducible rfl)
      simp only [Act.put]
      refine wpAnyH_take (i := 10) (v := ?va10) rfl (by kernel_rfl) (by kernel_rfl) (by kernel_rfl) (fun _ _ _ h => h) (Or.inl ⟨by rfl, ?hya10⟩) (by assumption) ?resta10
      case hya10 => intro w hSw; (try dsimp only at hSw); go_simp; (try with_reducible rfl)
      simp only [Act.put]
      refine wpAnyH_take (i := 11) (v := ?va11) rfl (by kernel_rfl) (by kernel_rfl) (by kernel_rfl) (fun _ _ _ h => h) (Or.inl ⟨by rfl, ?hya11⟩) (by assumption) ?resta11
      case hya11 => intro w hSw; (try dsimp only at hSw); go_simp; (try with_reducible rfl)
      simp only [Act.put]
      refine wpAnyH_take (i := 12) (v := ?va12) rfl (by kernel_rfl) (by kernel_rfl) (by kernel_rfl) (fun _ _ _ h => h) (Or.inl ⟨by rfl, ?hya12⟩) (by assumption) ?resta12
      case hya12 => intro w hSw; (try dsimp only at hSw); go_simp; (try with_reducible rfl)
      simp only [Act.put]
      refine wpAnyH_take (i := 13) (v := ?va13) rfl (by kernel_rfl) (by kernel_rfl) (by kernel_rfl) (fun _ _ _ h => h) (Or.inl ⟨by rfl, ?hya13⟩) (by assumption) ?resta13
      case hya13 => intro w hSw; (try dsimp only at hSw); go_simp; (try with_reducible rfl)
      simp only [Act.put]
      refine wpAnyH_take (i := 14) (v := ?va14) rfl (by kernel_rfl) (by kernel_rfl) (by kernel_rfl) (fun _ _ _ h => h) (Or.inl ⟨by rfl, ?hya14⟩) (by assumption) ?resta14
      case hya14 => intro w hSw; (try dsimp only at hSw); go_simp; (try with_reducible rfl)
      simp only [Act.put]
      refine wpAnyH_take (i := 15) (v := ?va15) rfl (by kernel_rfl) (by kernel_rfl) (by kernel_rfl) (fun _ _ _ h => h) (Or.inl ⟨by rfl, ?hya15⟩) (by assumption) ?resta15
      case hya15 => intro w hSw; (try dsimp only at hSw); go_simp; (try with_reducible rfl)
      simp only [Act.put]
      refine wpAnyH_take (i := 16) (v := ?va16) rfl (by kernel_rfl) (by kernel_rfl) (by kernel_rfl) (fun _ _ _ h => h) (Or.inl ⟨by rfl, ?hya16⟩) (by assumption) ?resta16
      case hya16 => intro w hSw; (try dsimp only at hSw); go_simp; (try with_reducible rfl)
      simp only [Act.put]
      refine wpAnyH_take (i := 17) (v := ?va17) rfl (by kernel_rfl) (by kernel_rfl) (by kernel_rfl) (fun _ _ _ h => h) (Or.inl ⟨by rfl, ?hya17⟩) (by assumption) ?resta17
      case hya17 => intro w hSw; (try dsimp only at hSw); go_simp; (try with_reducible rfl)
      simp only [Act.put]
      refine wpAnyH_take (i := 18) (v := ?va18) rfl (by kernel_rfl) (by kernel_rfl) (by kernel_rfl) (fun _ _ _ h => h) (Or.inl ⟨by rfl, ?hya18⟩) (by assumption) ?resta18
      case hya18 => intro w hSw; (try dsimp only at hSw); go_simp; (try with_reducible rfl)
      simp only [Act.put]
      refine wpAnyH_take (i := 19) (v := ?va19) rfl (by kernel_rfl) (by kernel_rfl) (by kernel_rfl) (fun _ _ _ h => h) (Or.inl ⟨by rfl, ?hya19⟩) (by assumption) ?resta19
      case hya19 => intro w hSw; (try dsimp only at hSw); go_simp; (try with_reducible rfl)
      simp only [Act.put]
      refine wpAnyH_take (i := 20) (v := ?va20) rfl (by kernel_rfl) (by kernel_rfl) (by kernel_rfl) (fun _ _ _ h => h) (Or.inl ⟨by rfl, ?hya20⟩) (by assumption) ?resta20
      case hya20 => intro w hSw; (try dsimp only at hSw); go_simp; (try with_reducible rfl)
      simp only [Act.put]
      refine wpAnyH_ready (rs := [4, 21]) (by kernel_rfl) (by simp) ?_
      refine AllReadyH.cons rfl (fun K hK => ?_) (AllReadyH.cons rfl (fun K hK => ?_) AllReadyH.nil)
      · go_simp
        refine hK.out _ _ (by exact hHeld) (fun hHeld => ?_)
        clear hK K
        refine wpAnyH_ready (rs := [21]) (by kernel_rfl) (by simp) ?_
        refine AllReadyH.cons rfl (fun K hK => ?_) AllReadyH.nil
        go_simp
        refine hK.out _ _ (by exact held3_alloc hHeld _) (fun hHeld => ?_)
        clear hK K
        refine wpAnyH_ready (rs := [22]) (by kernel_rfl) (by simp) ?_
        refine AllReadyH.cons rfl (fun K hK => ?_) AllReadyH.nil
        refine step_grows_at 96 rfl rfl (.tmp 78) (.tmp 95) 26 rfl 3 i0 (.int .i64 0) 1 8 Try.underlying26 hi hz0 hz1 hz2 rfl (by decide) none 0 0 [] (by simp [Act.eval]) (by simp) rfl (by simp) ⟨wf.heap.size, 0, none⟩ 4 4 [.int .i64 1, .int .i64 1, .int .i64 1, .int .i64 1] (by simp [Act.eval]) rfl (World.news_of_block (cs := #[.int .i64 1, .int .i64 1, .int .i64 1, .int .i64 1]) (heap_alloc_new wf _)) (by intro u hu2; simp at hu2; subst hu2; rfl) (by omega) (by unfold maxLen; omega) (by omega) ?_
        intro vg wg howng hgrowg
        obtain ⟨gg, capg, hvg, _, _⟩ := howng.form (by omega)
        rw [hvg]
        have hc3g := (grow_below' hgrowg).cell (p := ⟨D, 3, none⟩) hdz
        rw [hc3] at hc3g
        refine hK.out _ _ (held3_grown hHeld hgrowg) (fun hHeld => ?_)
        clear hK K
        refine wpAnyH_take (i := 23) (v := ?vb23) rfl (by kernel_rfl) (by kernel_rfl) (by kernel_rfl) (fun _ _ _ h => h) (Or.inl ⟨by rfl, ?hyb23⟩) (by assumption) ?restb23
        case hyb23 => intro w hSw; (try dsimp only at hSw); go_simp; (try with_reducible rfl)
        simp only [Act.put]
        refine wpAnyH_take (i := 24) (v := ?vb24) rfl (by kernel_rfl) (by kernel_rfl) (by kernel_rfl) (fun _ _ _ h => h) (Or.inl ⟨by rfl, ?hyb24⟩) (by assumption) ?restb24
        case hyb24 => intro w hSw; (try dsimp only at hSw); go_simp; (try with_reducible rfl)
        simp only [Act.put]
        refine wpAnyH_ready (rs := [25]) (by kernel_rfl) (by simp) ?_
        refine AllReadyH.cons rfl (fun K hK => ?_) AllReadyH.nil
        go_simp
        refine hK.out _ _ (by exact held3_set hHeld _) (fun hHeld => ?_)
        clear hK K
        refine wpAnyH_done (by kernel_rfl) ?_ _
        go_wp2
        go_end0
        exact ⟨rfl, hHeld.2.2⟩
      · go_simp
        refine hK.out _ _ (by exact held3_alloc hHeld _) (fun hHeld => ?_)
        clear hK K
        refine wpAnyH_ready (rs := [4]) (by kernel_rfl) (by simp) ?_
        refine AllReadyH.cons rfl (fun K hK => ?_) AllReadyH.nil
        go_simp
        refine hK.out _ _ (by exact hHeld) (fun hHeld => ?_)
        clear hK K
        refine wpAnyH_ready (rs := [22]) (by kernel_rfl) (by simp) ?_
        refine AllReadyH.cons rfl (fun K hK => ?_) AllReadyH.nil
        refine step_grows_at 96 rfl rfl (.tmp 78) (.tmp 95) 26 rfl 3 i0 (.int .i64 0) 1 8 Try.underlying26 hi hz0 hz1 hz2 rfl (by decide) none 0 0 [] (by simp [Act.eval]) (by simp) rfl (by simp) ⟨wf.heap.size, 0, none⟩ 4 4 [.int .i64 1, .int .i64 1, .int .i64 1, .int .i64 1] (by simp [Act.eval]) rfl (World.news_of_block (cs := #[.int .i64 1, .int .i64 1, .int .i64 1, .int .i64 1]) (heap_alloc_new wf _)) (by intro u hu2; simp at hu2; subst hu2; rfl) (by omega) (by unfold maxLen; omega) (by omega) ?_
        intro vg wg howng hgrowg
        obtain ⟨gg, capg, hvg, _, _⟩ := howng.form (by omega)
        rw [hvg]
        have hc3g := (grow_below' hgrowg).cell (p := ⟨D, 3, none⟩) hdz
        rw [hc3] at hc3g
        refine hK.out _ _ (held3_grown hHeld hgrowg) (fun hHeld => ?_)
        clear hK K
        refine wpAnyH_take (i := 23) (v := ?vc23) rfl (by kernel_rfl) (by kernel_rfl) (by kernel_rfl) (fun _ _ _ h => h) (Or.inl ⟨by rfl, ?hyc23⟩) (by assumption) ?restc23
        case hyc23 => intro w hSw; (try dsimp only at hSw); go_simp; (try with_reducible rfl)
        simp only [Act.put]
        refine wpAnyH_take (i := 24) (v := ?vc24) rfl (by kernel_rfl) (by kernel_rfl) (by kernel_rfl) (fun _ _ _ h => h) (Or.inl ⟨by rfl, ?hyc24⟩) (by assumption) ?restc24
        case hyc24 => intro w hSw; (try dsimp only at hSw); go_simp; (try with_reducible rfl)
        simp only [Act.put]
        refine wpAnyH_ready (rs := [25]) (by kernel_rfl) (by simp) ?_
        refine AllReadyH.cons rfl (fun K hK => ?_) AllReadyH.nil
        go_simp
        refine hK.out _ _ (by exact held3_set hHeld _) (fun hHeld => ?_)
        clear hK K
        refine wpAnyH_done (by kernel_rfl) ?_ _
        go_wp2
        go_end0
        exact ⟨rfl, hHeld.2.2⟩

end Go.Proofs.Ythkndfkkgncjfaa
