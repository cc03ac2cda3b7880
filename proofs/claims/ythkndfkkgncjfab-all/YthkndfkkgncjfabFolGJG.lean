/- ShfE, FolA, OccM, FolB, FolC, FolD, FolE, FolF, FolG. -/
import Derived.Test.YthkndfkkgncjfabFolGJF
import Derived.Test.YthkndfkkgncjfabFolGJD
import Derived.Test.YthkndfkkgncjfabFolGJA
namespace Go.Proofs.Ythkndfkkgncjfab
open Go.RowKit
set_option maxRecDepth 100000

/-- what occurrences tells, and in what order they rise -/
structure Occ (x : Nat) (b : Box) (p : ByteArray) (S : List Do.Oc) (w : World) : Prop where
  call : ∀ w', Below w.heap.size w w' → Calls Try.prog 41 #[.pointer (some ⟨x, 3, none⟩), .string p] w' fun e w'' => ∃ u H, e = .returned u ∧ OwnO w'' w'.heap.size u H ∧ H.Perm S ∧ Below w'.heap.size w' w''
  rise : S.Pairwise Do.olt
  few : S.length ≤ 300000

set_option maxHeartbeats 400000 in
theorem sCount_any (x : Nat) (b : Box) (p : ByteArray) (S : List Do.Oc) (w : World) (h : Occ x b p S w) :
    Calls Try.prog 88 #[.pointer (some ⟨x, 3, none⟩), .string p] w fun e w' => e = .returned (.int .i64 (S.length : Int)) ∧ Below w.heap.size w w' := by
  have HO := h.call w (Below.refl _ _)
  go_enter Try.func88, Try.ntmps88
  go_wp2_with fail
  refine HO.mono ?_
  rintro e w1 ⟨u, H, rfl, hu, hp, hb⟩
  have hl := hp.length_eq
  obtain ⟨av, cap, rfl⟩ := hu.shape2
  rw [hl]
  go_wp2
  go_ret
  exact ⟨rfl, hb⟩

/-- behind an append to a row, a block that it isn't is as it was -/
theorem grown_block {wA w3 : World} {o' : Obj} {v : Value} (h : (wA.alloc o').grownBy w3 v.ownBlock) {g : Nat} (hg : g < wA.heap.size) (hne : v.ownBlock ≠ some g) : w3.heap[g]? = wA.heap[g]? := by
  rw [h.block g (by simp; omega) (fun e => hne e.symm), Below.heap_alloc wA o' g hg]
theorem HAt.grown {wA w3 : World} {o' : Obj} {v : Value} {g : Nat} {i t : Int} (hA : HAt wA g i t) (h : (wA.alloc o').grownBy w3 v.ownBlock) (hne : v.ownBlock ≠ some g) : HAt w3 g i t := (grown_block h (lt_of_block hA) hne).trans hA
theorem OwnO.grown {wA w3 : World} {o' : Obj} {v u : Value} {B : Nat} {m : List Do.Oc} (hA : OwnO wA B u m) (h : (wA.alloc o').grownBy w3 v.ownBlock) (hne : ∀ q, u.ownBlock = some q → v.ownBlock ≠ some q) : OwnO w3 B u m := by
  refine ⟨hA.1, ?_⟩
  rcases hA.2 with h2 | ⟨g2, cap2, cur2, h2, hB, hg2, rest⟩
  · exact .inl h2
  · subst h2
    exact .inr ⟨g2, cap2, cur2, rfl, hB, by rw [grown_block h (lt_of_block hg2) (hne g2 rfl)]; exact hg2, rest⟩
theorem OwnO.other {w : World} {u : Value} {B : Nat} {m : List Do.Oc} (hA : OwnO w B u m) (p : Addr) (y : Value) (hne : u.ownBlock ≠ some p.block) : OwnO (w.setCell p y) B u m := ownsRow_setCell_other hA hne y

set_option maxHeartbeats 1000000 in
theorem sHits_any (x : Nat) (b : Box) (p : ByteArray) (S : List Do.Oc) (i t : Int) (n : Nat) (w : World) (h : Occ x b p S w) (hn : n ≤ 9) (hs : ∀ o ∈ S, o.at' ≤ 1000) :
    Calls Try.prog 29 #[.pointer (some ⟨x, 3, none⟩), .string p, .agg #[.int .i64 i, .int .i64 t], .int .i64 (n : Int)] w fun e w' => ∃ u, e = .returned u ∧ OwnO w' w.heap.size u ((Do.since S i t).take n) ∧ Below w.heap.size w w' := by
  obtain ⟨i0, hi, hz0, hz1, hz2⟩ := info_parts Try.info44
  have HO : Hid _ := h
  have HS : Hid (∀ o ∈ S, o.at' ≤ 1000) := hs
  clear h hs
  have hal : Below w.heap.size w (w.alloc (.cells #[.int .i64 i, .int .i64 t] 44)) := (Below.refl _ _).alloc (Nat.le_refl _) _
  have zP : HAt (w.alloc (.cells #[.int .i64 i, .int .i64 t] 44)) w.heap.size i t := heap_alloc_new w _
  have hw0 : (w.alloc (.cells #[.int .i64 i, .int .i64 t] 44)).heap.size = w.heap.size + 1 := by simp
  go_enter Try.func29, Try.ntmps29
  go_wp2_with fail
  generalize w.alloc (.cells #[.int .i64 i, .int .i64 t] 44) = w0 at *
  refine (HO.out.call w0 hal).mono ?_
  rintro e w1 ⟨u, H, rfl, hu, hp, hb⟩
  have HP : Hid (H.Perm S) := hp
  have hP1 := zP.below hb
  have hb1 : Below w.heap.size w w1 := hal.trans (hb.mono hal.size)
  have hs1 := hb1.size
  have hPl : w.heap.size < w1.heap.size := lt_of_block hP1
  have hHl : H.length ≤ 300000 := by rw [hp.length_eq]; exact HO.out.few
  clear hp zP hal hb
  go_wp2_with fail
  have hul : ∀ q, u.ownBlock = some q → w.heap.size + 1 ≤ q ∧ q < w1.heap.size := fun q hq => by have := World.ownsRow.lt hu q hq; omega
  obtain ⟨T, hT⟩ : ∃ T, Do.since S i t = T := ⟨_, rfl⟩
  have HTe : Hid (Do.since S i t = T) := hT
  go_loopw [10] (fun v wr => ∃ (r : Nat) (i' t' : Int), r ≤ T.length ∧ r ≤ n ∧ OwnO wr w1.heap.size v (T.take r) ∧ HAt wr w.heap.size i' t' ∧ Hid (Do.since S i' t' = T.drop r) ∧ OwnO wr w0.heap.size u H ∧ Below w.heap.size w wr ∧ w1.heap.size ≤ wr.heap.size) (fun v _ => match v with | .slice _ l _ => n - l | _ => 0)
  case atStart => exact ⟨0, i, t, Nat.zero_le _, Nat.zero_le _, World.ownsRow_nil _ _ _ _, hP1, by show _ = _; rw [HTe.out, List.drop_zero], hu, hb1, Nat.le_refl _⟩
  case round =>
    obtain ⟨r, i', t', hrT, hrn, ho, hP, HSN, hu', hb, hsz⟩ := hrel
    obtain ⟨av, capo, rfl⟩ := ho.shape2
    have hlen : (T.take r).length = r := by rw [List.length_take]; omega
    rw [hlen]
    rw [hlen] at ho
    have p0 := hP.c0
    have p1 := hP.c1
    have HSEL : Hid (Lx.sel H i' t' = (T.drop r).head?) := by show _ = _; rw [Lx.sel_head H S HP.out HO.out.rise i' t', HSN.out]
    by_cases hlt : r < n
    · have d1 : decide ((r : Int) < (n : Int)) = true := by rw [decide_eq_true_eq]; omega
      have d1' : decide (r < n) = true := by rw [decide_eq_true_eq]; omega
      have HF := first_any u w0.heap.size H i' t' wr hu' (by omega)
      rw [HSEL.out] at HF
      cases hsel : (T.drop r).head? with
      | none =>
        rw [hsel] at HF
        simp only [hv] at HF
        have HE : Hid (T.take n = T.take r) := by
          show _ = _
          have h1 : T.drop r = [] := by cases hd : T.drop r with | nil => rfl | cons a q => rw [hd] at hsel; cases hsel
          have h2 : T.length ≤ r := by have := congrArg List.length h1; rw [List.length_drop] at this; simp at this; omega
          rw [List.take_of_length_le h2, List.take_of_length_le (by omega)]
        go_wp2_with fail
        refine HF.mono ?_
        rintro e w2 ⟨rfl, hb2⟩
        go_wp2_with fail
        go_ret
        refine ⟨_, rfl, by rw [HTe.out, HE.out]; first | exact OwnO.weaken (ho.below hb2) hs1 | exact OwnO.weaken (World.ownsRow.alloc (ho.below hb2) _) hs1, ?_⟩
        first | exact hb.trans (hb2.mono hb.size) | exact (hb.trans (hb2.mono hb.size)).alloc (by have := hb2.size; have := hb.size; omega) _
      | some o =>
        rw [hsel] at HF
        simp only [hv] at HF
        have hoS : o ∈ S := by
          have h1 : o ∈ T.drop r := List.mem_of_mem_head? (by rw [hsel]; rfl)
          have h2 : o ∈ Do.since S i t := by rw [HTe.out]; exact List.mem_of_mem_drop h1
          unfold Do.since at h2
          exact (List.mem_filter.1 h2).1
        have hat := HS.out o hoS
        have HNX : Hid (Do.since S (o.id : Int) ((o.at' : Int) + 1) = T.drop (r + 1)) := by
          show _ = _
          have := Lx.since_on S HO.out.rise i t r o i' t' (by rw [HTe.out]; exact HSN.out) (by rw [HSN.out]; exact hsel)
          rw [HTe.out] at this; exact this
        have hrl : r < T.length := by
          rcases Nat.lt_or_ge r T.length with h | h
          · exact h
          · rw [List.drop_of_length_le h] at hsel; cases hsel
        have HTK : Hid (T.take (r + 1) = T.take r ++ [o]) := by
          show _ = _
          rw [List.take_succ_eq_append_getElem hrl]
          congr 2
          rw [List.head?_drop] at hsel
          rw [List.getElem?_eq_getElem hrl] at hsel
          exact Option.some.inj hsel
        clear hsel hoS
        go_wp2_with fail
        refine HF.mono ?_
        rintro e w2 ⟨rfl, hb2⟩
        have ho2 : OwnO w2 w1.heap.size (.slice av r capo) (T.take r) := ho.below hb2
        have hoA : OwnO (w2.alloc (.cells #[.int .i64 (o.id : Int), .int .i64 (o.at' : Int)] 44)) w1.heap.size (.slice av r capo) (T.take r) := World.ownsRow.alloc ho2 _
        have hal2 : Below w2.heap.size w2 (w2.alloc (.cells #[.int .i64 (o.id : Int), .int .i64 (o.at' : Int)] 44)) := (Below.refl _ _).alloc (Nat.le_refl _) _
        have PA : HAt (w2.alloc (.cells #[.int .i64 (o.id : Int), .int .i64 (o.at' : Int)] 44)) w.heap.size i' t' := (hP.below hb2).below hal2
        have uA : OwnO (w2.alloc (.cells #[.int .i64 (o.id : Int), .int .i64 (o.at' : Int)] 44)) w0.heap.size u H := (hu'.below hb2).below hal2
        have HA0 : HAt (w2.alloc (.cells #[.int .i64 (o.id : Int), .int .i64 (o.at' : Int)] 44)) w2.heap.size (o.id : Int) (o.at' : Int) := heap_alloc_new w2 _
        have bA : Below w.heap.size w (w2.alloc (.cells #[.int .i64 (o.id : Int), .int .i64 (o.at' : Int)] 44)) := (hb.trans (hb2.mono hb.size)).alloc (by have := hb2.size; have := hb.size; omega) _
        have h2s := hb2.size
        have hbs := hb.size
        have hvl : ∀ q, (Value.slice av r capo).ownBlock = some q → w1.heap.size ≤ q ∧ q < w2.heap.size := fun q hq => World.ownsRow.lt ho2 q hq
        have hne : ∀ q, q < w1.heap.size → (Value.slice av r capo).ownBlock ≠ some q := fun q hq e => by have := (hvl q e).1; omega
        have hneh : (Value.slice av r capo).ownBlock ≠ some w2.heap.size := fun e => by have := (hvl _ e).2; omega
        have hneu : ∀ q, u.ownBlock = some q → (Value.slice av r capo).ownBlock ≠ some q := fun q hq => hne q (hul q hq).2
        have PQ := hPl
        go_wp2_with (at_builtin; refine wpList_append_own _ rfl _ _ 31 rfl w1.heap.size 44 i0 (.agg #[.int .i64 0, .int .i64 0]) 2 16 Try.underlying31 hi hz0 hz1 hz2 rfl (by decide) _ _ _ rfl (World.ownsRow.alloc hoA _) ⟨w2.heap.size + 1, 0, none⟩ 1 1 (OC1 o) rfl rfl (news_two w2 _ #[.int .i64 (o.id : Int), .int .i64 (o.at' : Int)] _) (by intro u hu2; simp [OC1] at hu2; rcases hu2 with rfl | rfl <;> rfl) (by unfold maxLen; omega) (by omega) (by simp; omega) ?_; intro v' w3 hown3 hgrow3 _; have hne1 := hne _ PQ; have P3 := PA.grown hgrow3 hne1; have H3 := HA0.grown hgrow3 hneh; have u3 := uA.grown hgrow3 hneu; have x0 := H3.c0; have x1 := H3.c1; have x2 := P3.c0; have f2 := P3.free 0; have P4 := P3.s0 (o.id : Int); have x3 := P4.c1; have f3 := P4.free 1; have H4 := H3.other ⟨w.heap.size, 0, none⟩ (.int .i64 (o.id : Int)) (show w2.heap.size ≠ w.heap.size by omega); have x4 := H4.c1)
        have R := oc_more (b := o) hoA (Below.refl _ _) (by simp; omega) hown3 hgrow3
        have b3 : Below w.heap.size w w3 := (bA.alloc bA.size _).grown hgrow3 (by simp; omega) (fun q hq => by have := (hvl q hq).1; omega)
        have hR1 := R.1
        have hvP : v'.ownBlock ≠ some w.heap.size := fun e => by have := (World.ownsRow.lt hR1 _ e).1; omega
        have huP : u.ownBlock ≠ some w.heap.size := fun e => by have := (hul _ e).1; omega
        have hs3 : w1.heap.size ≤ w3.heap.size := by have := hgrow3.size; simp at this; omega
        go_roundw
        case rel =>
          refine ⟨r + 1, (o.id : Int), (o.at' : Int) + 1, by omega, by omega, ?_, P4.s1 _, HNX, (u3.other _ _ huP).other _ _ huP, (b3.setCell (p := ⟨w.heap.size, 0, none⟩) (Nat.le_refl _) _).setCell (p := ⟨w.heap.size, 1, none⟩) (Nat.le_refl _) _, by simpa using hs3⟩
          rw [HTK.out]
          exact (hR1.other _ _ hvP).other _ _ hvP
        case measure =>
          obtain ⟨a3, c3, e3⟩ := hR1.shape2
          rw [e3, List.length_append, hlen]
          show n - (r + 1) < n - r
          omega
    · have d1 : decide ((r : Int) < (n : Int)) = false := by rw [decide_eq_false_iff_not]; omega
      have d1' : decide (r < n) = false := by rw [decide_eq_false_iff_not]; omega
      obtain rfl : r = n := by omega
      go_wp2_with fail
      go_ret
      exact ⟨_, rfl, by rw [HTe.out]; exact OwnO.weaken ho hs1, hb⟩

end Go.Proofs.Ythkndfkkgncjfab

namespace Go.Proofs.Ythkndfkkgncjfab
open Go.RowKit
set_option maxRecDepth 100000

/-- a new index, cell by cell -/
def newBox (a b p : Int) : Box := ⟨.int .i64 a, .int .i64 b, .int .i64 p, .int .i64 b, .slice none 0 0, .int .i64 0, .slice none 0 0, .slice none 0 0, .int .i64 0, .slice none 0 0, .int .i64 0, .int .i64 0, .int .i64 0, .slice none 0 0, .slice none 0 0, .int .i64 0, .slice none 0 0, .int .i64 0, .int .i64 0, .int .i64 0, .int .i64 0, .int .i64 0, .int .i64 0, .int .i64 0⟩

theorem Try.sizeT108 : (Try.prog.info? 64).map (·.size) = some 20 := by kernel_rfl

set_option maxHeartbeats 400000 in
theorem sNew_any (b : Int) (w : World) :
    Calls Try.prog 40 #[.int .i64 b] w fun e w' => e = .returned (.agg #[.int .i64 b, .slice none 0 0, .int .i64 0, .slice none 0 0, .slice none 0 0, .int .i64 0, .slice none 0 0, .int .i64 0, .int .i64 0, .int .i64 0, .slice none 0 0, .slice none 0 0, .int .i64 0, .slice none 0 0, .int .i64 0, .int .i64 0, .int .i64 0, .int .i64 0, .int .i64 0, .int .i64 0]) ∧ Below w.heap.size w w' := by
  go_enter Try.func40, Try.ntmps40
  go_wp2_with (with_reducible refine wpList_store_row rfl 64 _ _ rfl w.heap.size #[.int .i64 b, .slice none 0 0, .int .i64 0, .slice none 0 0, .slice none 0 0, .int .i64 0, .slice none 0 0, .int .i64 0, .int .i64 0, .int .i64 0, .slice none 0 0, .slice none 0 0, .int .i64 0, .slice none 0 0, .int .i64 0, .int .i64 0, .int .i64 0, .int .i64 0, .int .i64 0, .int .i64 0] ?_ ?_ 64 #[.int .i64 0, .slice none 0 0, .int .i64 0, .slice none 0 0, .slice none 0 0, .int .i64 0, .slice none 0 0, .int .i64 0, .int .i64 0, .int .i64 0, .slice none 0 0, .slice none 0 0, .int .i64 0, .slice none 0 0, .int .i64 0, .int .i64 0, .int .i64 0, .int .i64 0, .int .i64 0, .int .i64 0] ?_ ?_ ?_ ?_ ?_)
  case refine_1 => rfl
  case refine_2 => rfl
  case refine_3 => exact heap_alloc_new w _
  case refine_4 => exact Try.sizeT108
  case refine_5 => rfl
  case refine_6 => simp [Value.oneCell']
  have hG : ((w.alloc (.cells #[.int .i64 0, .slice none 0 0, .int .i64 0, .slice none 0 0, .slice none 0 0, .int .i64 0, .slice none 0 0, .int .i64 0, .int .i64 0, .int .i64 0, .slice none 0 0, .slice none 0 0, .int .i64 0, .slice none 0 0, .int .i64 0, .int .i64 0, .int .i64 0, .int .i64 0, .int .i64 0, .int .i64 0] 64)).setRow w.heap.size #[.int .i64 b, .slice none 0 0, .int .i64 0, .slice none 0 0, .slice none 0 0, .int .i64 0, .slice none 0 0, .int .i64 0, .int .i64 0, .int .i64 0, .slice none 0 0, .slice none 0 0, .int .i64 0, .slice none 0 0, .int .i64 0, .int .i64 0, .int .i64 0, .int .i64 0, .int .i64 0, .int .i64 0]).heap[w.heap.size]? = some (.cells #[.int .i64 b, .slice none 0 0, .int .i64 0, .slice none 0 0, .slice none 0 0, .int .i64 0, .slice none 0 0, .int .i64 0, .int .i64 0, .int .i64 0, .slice none 0 0, .slice none 0 0, .int .i64 0, .slice none 0 0, .int .i64 0, .int .i64 0, .int .i64 0, .int .i64 0, .int .i64 0, .int .i64 0] 64 (0, 0)) := setRow_heap _ w.heap.size _ _ 64 _ (heap_alloc_new w _)
  refine bodyPost_ret (by exact results_cell_row rfl _ _ w.heap.size 64 _ _ _ rfl hG Try.underlying64 rfl Try.sizeT108) rfl ?_
  exact ⟨rfl, below_setRow ((Below.refl _ _).alloc (Nat.le_refl _) _)⟩

set_option maxHeartbeats 1000000 in
theorem cNew_ok (a b p : Int) (w : World) (ha : 1 ≤ a ∧ a ≤ 400) (hb : 1 ≤ b ∧ b ≤ 80) (hp : 1 ≤ p ∧ p ≤ 8) :
    Calls Try.prog 28 #[.agg #[.int .i64 a, .int .i64 b, .int .i64 p]] w fun e w' => ∃ r, e = .returned (.tuple #[.pointer (some ⟨r, 0, none⟩), .int .i64 0]) ∧ w.heap.size ≤ r ∧ BoxAt w' r (newBox a b p) ∧ Below w.heap.size w w' := by
  obtain ⟨ha1, ha2⟩ := ha
  obtain ⟨hb1, hb2⟩ := hb
  obtain ⟨hp1, hp2⟩ := hp
  have e1 : decide (a < 1) = false := by rw [decide_eq_false_iff_not]; omega
  have e2 : decide (400 < a) = false := by rw [decide_eq_false_iff_not]; omega
  have e3 : decide (b < 1) = false := by rw [decide_eq_false_iff_not]; omega
  have e4 : decide (80 < b) = false := by rw [decide_eq_false_iff_not]; omega
  have e5 : decide (p < 1) = false := by rw [decide_eq_false_iff_not]; omega
  have e6 : decide (8 < p) = false := by rw [decide_eq_false_iff_not]; omega
  have yn := World.news_of_block (heap_alloc_new w (.cells #[.int .i64 a, .int .i64 b, .int .i64 p] 23))
  have n0 : (w.alloc (.cells #[.int .i64 a, .int .i64 b, .int .i64 p] 23)).cell? ⟨w.heap.size, 0, none⟩ = some (.int .i64 a) := yn 0 _ rfl
  have n1 : (w.alloc (.cells #[.int .i64 a, .int .i64 b, .int .i64 p] 23)).cell? ⟨w.heap.size, 1, none⟩ = some (.int .i64 b) := yn 1 _ rfl
  have n2 : (w.alloc (.cells #[.int .i64 a, .int .i64 b, .int .i64 p] 23)).cell? ⟨w.heap.size, 2, none⟩ = some (.int .i64 p) := yn 2 _ rfl
  have hba : Below w.heap.size w (w.alloc (.cells #[.int .i64 a, .int .i64 b, .int .i64 p] 23)) := (Below.refl _ _).alloc (Nat.le_refl _) _
  clear yn
  go_enter Try.func28, Try.ntmps28
  go_wp2_with fail
  generalize w.alloc (.cells #[.int .i64 a, .int .i64 b, .int .i64 p] 23) = w0 at *
  refine wp_region_held_drew (S := fun w' => w'.cell? ⟨w.heap.size, 0, none⟩ = some (.int .i64 a) ∧ w'.cell? ⟨w.heap.size, 1, none⟩ = some (.int .i64 b) ∧ w'.cell? ⟨w.heap.size, 2, none⟩ = some (.int .i64 p)) (by kernel_rfl) ⟨n0, n1, n2⟩ (fun hHeld => ?_)
  refine wpAnyH_take (i := 0) (v := ?a0) rfl (by kernel_rfl) (by kernel_rfl) (by kernel_rfl) (fun _ _ _ h => h) (Or.inl ⟨by rfl, ?hya0⟩) (by assumption) ?resta0
  case hya0 => intro w hSw; (try dsimp only at hSw); go_simp; (try with_reducible rfl)
  simp only [Act.put]
  refine wpAnyH_take (i := 1) (v := ?a1) rfl (by kernel_rfl) (by kernel_rfl) (by kernel_rfl) (fun _ _ _ h => h) (Or.inl ⟨by rfl, ?hya1⟩) (by assumption) ?resta1
  case hya1 => intro w hSw; (try dsimp only at hSw); go_simp; (try with_reducible rfl)
  simp only [Act.put]
  refine wpAnyH_take (i := 2) (v := ?a2) rfl (by kernel_rfl) (by kernel_rfl) (by kernel_rfl) (fun _ _ _ h => h) (Or.inl ⟨by rfl, ?hya2⟩) (by assumption) ?resta2
  case hya2 => intro w hSw; (try dsimp only at hSw); go_simp; (try with_reducible rfl)
  simp only [Act.put]
  refine wpAnyH_ready (rs := [3]) (by kernel_rfl) (by simp) ?_
  refine AllReadyH.cons rfl (fun K hK => ?_) AllReadyH.nil
  go_simp
  refine (sNew_any b _).mono ?_
  rintro e w1 ⟨rfl, hb1'⟩
  have hb1 : Below w0.heap.size w0 w1 := (Below.refl _ _).drew.trans hb1'
  have q0 := cell_later hb1 n0
  have q1 := cell_later hb1 n1
  have q2 := cell_later hb1 n2
  refine hK.out _ _ ⟨q0, q1, q2⟩ (fun hHeld => ?_)
  clear hK K hb1'
  refine wpAnyH_take (i := 4) (v := ?b4) rfl (by kernel_rfl) (by kernel_rfl) (by kernel_rfl) (fun _ _ _ h => h) (Or.inl ⟨by rfl, ?hyb4⟩) (by assumption) ?restb4
  case hyb4 => intro w hSw; (try dsimp only at hSw); go_simp; (try with_reducible rfl)
  simp only [Act.put]
  refine wpAnyH_ready (rs := [5]) (by kernel_rfl) (by simp) ?_
  refine AllReadyH.cons rfl (fun K hK => ?_) AllReadyH.nil
  go_simp
  have HX : Hid (BoxAt (w1.alloc (.cells (newBox a b p).arr 66)) w1.heap.size (newBox a b p)) := heap_alloc_new w1 _
  have hbx : Below w1.heap.size w1 (w1.alloc (.cells (newBox a b p).arr 66)) := (Below.refl _ _).alloc (Nat.le_refl _) _
  have r0 := cell_later hbx q0
  have r1 := cell_later hbx q1
  have r2 := cell_later hbx q2
  refine hK.out _ _ ⟨r0, r1, r2⟩ (fun hHeld => ?_)
  clear hK K
  refine wpAnyH_ready (rs := [6]) (by kernel_rfl) (by simp) ?_
  refine AllReadyH.cons rfl (fun K hK => ?_) AllReadyH.nil
  go_simp
  refine hK.out _ _ ⟨r0, r1, r2⟩ (fun hHeld => ?_)
  clear hK K
  refine wpAnyH_ready (rs := [7]) (by kernel_rfl) (by simp) ?_
  refine AllReadyH.cons rfl (fun K hK => ?_) AllReadyH.nil
  go_simp
  refine hK.out _ _ ⟨r0, r1, r2⟩ (fun hHeld => ?_)
  clear hK K hHeld
  refine wpAnyH_done (by kernel_rfl) ?_ _
  go_wp2_with fail
  go_ret2
  have hs0 := hba.size
  have hs1 := hb1.size
  exact ⟨w1.heap.size, rfl, by omega, HX.out, (hba.trans (hb1.mono hba.size)).trans (hbx.mono (by omega))⟩

set_option maxHeartbeats 1000000 in
theorem cNew_no (a b p : Int) (w : World) (h : ¬ (1 ≤ a ∧ a ≤ 400 ∧ 1 ≤ b ∧ b ≤ 80 ∧ 1 ≤ p ∧ p ≤ 8)) :
    Calls Try.prog 28 #[.agg #[.int .i64 a, .int .i64 b, .int .i64 p]] w fun e w' => e = .returned (.tuple #[.pointer none, .int .i64 1]) ∧ Below w.heap.size w w' := by
  by_cases h1 : a < 1
  · go_enter Try.func28, Try.ntmps28
    go_wp2
    go_ret2
    exact ⟨rfl, (Below.refl _ _).alloc (Nat.le_refl _) _⟩
  · by_cases h2 : 400 < a
    · go_enter Try.func28, Try.ntmps28
      go_wp2
      go_ret2
      exact ⟨rfl, (Below.refl _ _).alloc (Nat.le_refl _) _⟩
    · by_cases h3 : b < 1
      · go_enter Try.func28, Try.ntmps28
        go_wp2
        go_ret2
        exact ⟨rfl, (Below.refl _ _).alloc (Nat.le_refl _) _⟩
      · by_cases h4 : 80 < b
        · go_enter Try.func28, Try.ntmps28
          go_wp2
          go_ret2
          exact ⟨rfl, (Below.refl _ _).alloc (Nat.le_refl _) _⟩
        · by_cases h5 : p < 1
          · go_enter Try.func28, Try.ntmps28
            go_wp2
            go_ret2
            exact ⟨rfl, (Below.refl _ _).alloc (Nat.le_refl _) _⟩
          · have h6 : 8 < p := by omega
            clear h
            go_enter Try.func28, Try.ntmps28
            go_wp2
            go_ret2
            exact ⟨rfl, (Below.refl _ _).alloc (Nat.le_refl _) _⟩

set_option maxHeartbeats 400000 in
theorem cInsert_long (x : Nat) (s : ByteArray) (w : World) (hs : 40 < s.size) :
    Calls Try.prog 21 #[.pointer (some ⟨x, 0, none⟩), .string s] w fun e w' => e = .returned (.tuple #[.int .i64 0, .int .i64 2]) ∧ w' = w := by
  go_enter Try.func21, Try.ntmps21
  go_wp2
  go_ret2
  exact ⟨rfl, rfl⟩

set_option maxHeartbeats 400000 in
theorem cxCount_no (x : Nat) (s : ByteArray) (w : World) (h : s.size < 1 ∨ 16 < s.size) :
    Calls Try.prog 62 #[.pointer (some ⟨x, 0, none⟩), .string s] w fun e w' => e = .returned (.tuple #[.int .i64 0, .int .i64 5]) ∧ w' = w := by
  rcases h with h | h
  · have h0 : decide ((s.size : Int) < 1) = true := by rw [decide_eq_true_eq]; omega
    go_enter Try.func62, Try.ntmps62
    go_wp2
    go_ret2
    exact ⟨rfl, rfl⟩
  · have h0 : ¬ s.size < 1 := by omega
    go_enter Try.func62, Try.ntmps62
    go_wp2
    go_ret2
    exact ⟨rfl, rfl⟩

set_option maxHeartbeats 400000 in
theorem cLocate_no (x : Nat) (s : ByteArray) (n i t : Int) (w : World) (h : s.size < 1 ∨ 16 < s.size) :
    Calls Try.prog 20 #[.pointer (some ⟨x, 0, none⟩), .string s, .int .i64 n, .int .i64 i, .int .i64 t] w fun e w' => e = .returned (.tuple #[.slice none 0 0, .bool false, .int .i64 5]) ∧ w' = w := by
  rcases h with h | h
  · have h0 : decide ((s.size : Int) < 1) = true := by rw [decide_eq_true_eq]; omega
    go_enter Try.func20, Try.ntmps20
    go_wp2
    go_ret3
    exact ⟨rfl, rfl⟩
  · have h0 : ¬ s.size < 1 := by omega
    go_enter Try.func20, Try.ntmps20
    go_wp2
    go_ret3
    exact ⟨rfl, rfl⟩

set_option maxHeartbeats 400000 in
theorem cList_arg (x : Nat) (t n : Int) (w : World) (h : n < 1 ∨ 8 < n) :
    Calls Try.prog 58 #[.pointer (some ⟨x, 0, none⟩), .int .i64 t, .int .i64 n] w fun e w' => e = .returned (.tuple #[.slice none 0 0, .int .i64 9]) ∧ w' = w := by
  rcases h with h | h
  · go_enter Try.func58, Try.ntmps58
    go_wp2
    go_ret2
    exact ⟨rfl, rfl⟩
  · have h0 : ¬ n < 1 := by omega
    go_enter Try.func58, Try.ntmps58
    go_wp2
    go_ret2
    exact ⟨rfl, rfl⟩

set_option maxHeartbeats 400000 in
theorem cLocate_stale (x : Nat) (b : Box) (m : Int) (s : ByteArray) (n i t : Int) (w : World) (h1 : BoxAt w x b) (h2 : b.ver = .int .i64 m) (hs : 1 ≤ s.size ∧ s.size ≤ 16) (hn : n ≠ m) :
    Calls Try.prog 20 #[.pointer (some ⟨x, 0, none⟩), .string s, .int .i64 n, .int .i64 i, .int .i64 t] w fun e w' => e = .returned (.tuple #[.slice none 0 0, .bool false, .int .i64 6]) ∧ w' = w := by
  obtain ⟨hs1, hs2⟩ := hs
  have c5 := h1.g23
  rw [h2] at c5
  have hb : (n != m) = true := by rw [bne_iff_ne]; exact hn
  clear hn
  go_enter Try.func20, Try.ntmps20
  go_wp2
  go_ret3
  exact ⟨rfl, rfl⟩

set_option maxHeartbeats 400000 in
theorem cVersion_any (x : Nat) (b : Box) (m : Int) (w : World) (h1 : BoxAt w x b) (h2 : b.ver = .int .i64 m) :
    Calls Try.prog 11 #[.pointer (some ⟨x, 0, none⟩)] w fun e w' => e = .returned (.int .i64 m) ∧ w' = w := by
  have c5 := h1.g23
  rw [h2] at c5
  go_enter Try.func11, Try.ntmps11
  go_wp2
  go_ret
  exact ⟨rfl, rfl⟩

end Go.Proofs.Ythkndfkkgncjfab

namespace Go.Proofs.Ythkndfkkgncjfab
open Go.RowKit
set_option maxRecDepth 100000

theorem fdRes_iff (cs : List Do.Chg) (id : Nat) : (fdRes cs (id : Int)).2 = true ↔ ∃ c ∈ cs, c.id = id := by
  unfold fdRes
  cases h : Do.at? cs (id : Int) with
  | none =>
    refine ⟨fun h => (by cases h), ?_⟩
    rintro ⟨c, hc, hi⟩
    rw [List.mem_iff_getElem?] at hc
    obtain ⟨j, hj⟩ := hc
    unfold Do.at? at h
    rw [List.findIdx?_eq_none_iff] at h
    have := h c (List.mem_of_getElem? hj)
    simp at this
    omega
  | some k =>
    obtain ⟨c, hc, hi⟩ := at_get _ _ _ h
    simp only [hc]
    exact ⟨fun _ => ⟨c, List.mem_of_getElem? hc, by omega⟩, fun _ => trivial⟩
theorem o2_append (a b : List Dc) (p : List UInt8) : o2 (a ++ b) p = o2 a p ++ o2 b p := by unfold o2; rw [List.flatMap_append]
theorem o2_main (l : List Pa.Pg) (p : List UInt8) : o2 (l.map fun g => ((0, g) : Dc)) p = [] := by
  unfold o2
  induction l with
  | nil => rfl
  | cons g r ih => rw [List.map_cons, List.flatMap_cons, ih]; simp
theorem o2_other (n : Nat) (hn : n ≠ 0) (l : List Pa.Pg) (p : List UInt8) (hp : p ≠ []) : o2 (l.map fun g => ((n, g) : Dc)) p = Do.hits ((Pa.alive l).map Pa.chg) p := by
  unfold o2
  induction l with
  | nil => rfl
  | cons g r ih =>
    rw [List.map_cons, List.flatMap_cons, ih]
    unfold Pa.alive
    rw [List.filter_cons]
    cases hd : g.dead
    · simp only [Bool.not_false, if_true, List.map_cons]
      rw [Lx.hits_cons, if_neg (by simp [hn])]
      congr 1
      exact Do.hitsIn_over (Pa.chg g) p hp (g.doc.size + 1) (by show g.doc.size ≤ _; omega)
    · simp
theorem one_id (l : List Pa.Pg) (h : l.Pairwise fun g h => g.id < h.id) : ∀ a ∈ l, ∀ b ∈ l, a.id = b.id → a = b := by
  induction l with
  | nil => intro a ha; cases ha
  | cons x r ih =>
    rw [List.pairwise_cons] at h
    intro a ha b hb e
    rw [List.mem_cons] at ha hb
    rcases ha with rfl | ha
    · rcases hb with rfl | hb
      · rfl
      · have := h.1 b hb; omega
    · rcases hb with rfl | hb
      · have := h.1 a ha; omega
      · exact ih h.2 a ha b hb e
theorem main_there {p : Pa.Pt} (hr : p.docs.Pairwise fun g h => g.id < h.id) : (p.main.filter fun g => (fdRes (al (tag p)) (g.id : Int)).2) = Pa.alive p.main := by
  unfold Pa.alive
  apply List.filter_congr
  intro g hg
  have hgd : g ∈ p.docs := by unfold Pa.Pt.docs; simp [hg]
  rw [Bool.eq_iff_iff, fdRes_iff, al_tag]
  constructor
  · rintro ⟨c, hc, hi⟩
    rw [List.mem_map] at hc
    obtain ⟨q, hq, rfl⟩ := hc
    obtain ⟨hq1, hq2⟩ := List.mem_filter.1 hq
    have : q = g := one_id p.docs hr q hq1 g hgd hi
    rw [← this]; exact hq2
  · intro h
    exact ⟨Pa.chg g, List.mem_map.2 ⟨g, List.mem_filter.2 ⟨hgd, h⟩, rfl⟩, rfl⟩
theorem occ_perm {p : Pa.Pt} (hr : p.docs.Pairwise fun g h => g.id < h.id) {l : List Lx.Rw} (hl : l.Perm (Lx.rows p.main)) (s : List UInt8) (hs : s ≠ []) : (o1 (Lx.fnd l s) (al (tag p)) ++ o2 (tag p) s).Perm (Do.hits (al (tag p)) s) := by
  have h1 : (o1 (Lx.fnd l s) (al (tag p))).Perm (Do.hits ((Pa.alive p.main).map Pa.chg) s) := by
    have := ((Lx.fnd_perm hl s).filter fun o => (fdRes (al (tag p)) (o.id : Int)).2)
    rw [Lx.fnd_rows p.main s hs (fun i => (fdRes (al (tag p)) (i : Int)).2), main_there hr] at this
    exact this
  have h2 : o2 (tag p) s = Do.hits ((Pa.alive p.frozen).map Pa.chg) s ++ Do.hits ((Pa.alive p.live).map Pa.chg) s := by
    unfold tag
    rw [o2_append, o2_append, o2_main, o2_other 1 (by decide) _ s hs, o2_other 2 (by decide) _ s hs, List.nil_append]
  have h3 : Do.hits (al (tag p)) s = Do.hits ((Pa.alive p.main).map Pa.chg) s ++ (Do.hits ((Pa.alive p.frozen).map Pa.chg) s ++ Do.hits ((Pa.alive p.live).map Pa.chg) s) := by
    rw [al_tag]
    unfold Pa.Pt.docs
    rw [Pa.alive_append, Pa.alive_append, List.map_append, List.map_append, Lx.hits_append, Lx.hits_append, List.append_assoc]
  rw [h2, h3]
  exact List.Perm.append_right _ h1

end Go.Proofs.Ythkndfkkgncjfab

namespace Go.Proofs.Ythkndfkkgncjfab
open Go.RowKit
set_option maxRecDepth 100000

set_option maxHeartbeats 1000000 in
theorem cExtract_none (x : Nat) (b : Box) (ds : List Dc) (id fr to : Int) (w : World) (hl : ds.length ≤ 6000) (h1 : BoxAt w x b) (h2 : OwnD w 0 b.docs ds) (hf : Do.at? (al ds) id = none) :
    Calls Try.prog 60 #[.pointer (some ⟨x, 0, none⟩), .int .i64 id, .int .i64 fr, .int .i64 to] w fun e w' => e = .returned (.tuple #[.string ⟨#[]⟩, .int .i64 4]) ∧ Below w.heap.size w w' := by
  have HB : Hid (Calls Try.prog 44 #[.pointer (some ⟨x, 3, none⟩), .int .i64 id] w fun e w' => e = .returned (.tuple #[.string ⟨#[]⟩, .bool false]) ∧ Below w.heap.size w w') := sFind_any x b 0 ds id (⟨#[]⟩, false) w (by unfold fdRes; rw [hf]) hl h1 h2
  clear hf
  go_enter Try.func60, Try.ntmps60
  go_wp2_with fail
  refine HB.out.mono ?_
  rintro e w1 ⟨rfl, hb1⟩
  go_wp2
  go_ret2
  exact ⟨rfl, hb1⟩
set_option maxHeartbeats 1000000 in
theorem cExtract_some (x : Nat) (b : Box) (ds : List Dc) (id fr to : Int) (k : Nat) (c : Do.Chg) (w : World) (hl : ds.length ≤ 6000) (h1 : BoxAt w x b) (h2 : OwnD w 0 b.docs ds) (hf : Do.at? (al ds) id = some k) (hck : (al ds)[k]? = some c) (_hd : c.doc.size ≤ 40) :
    Calls Try.prog 60 #[.pointer (some ⟨x, 0, none⟩), .int .i64 id, .int .i64 fr, .int .i64 to] w fun e w' => e = .returned (if fr < 0 ∨ to < fr ∨ (c.doc.size : Int) < to then .tuple #[.string ⟨#[]⟩, .int .i64 7] else .tuple #[.string (c.doc.extract fr.toNat to.toNat), .int .i64 0]) ∧ Below w.heap.size w w' := by
  have HB : Hid (Calls Try.prog 44 #[.pointer (some ⟨x, 3, none⟩), .int .i64 id] w fun e w' => e = .returned (.tuple #[.string c.doc, .bool true]) ∧ Below w.heap.size w w') := sFind_any x b 0 ds id (c.doc, true) w (by unfold fdRes; rw [hf]; simp only [hck]) hl h1 h2
  clear hf hck
  go_enter Try.func60, Try.ntmps60
  go_wp2_with fail
  refine HB.out.mono ?_
  rintro e w1 ⟨rfl, hb1⟩
  clear HB
  by_cases q1 : fr < 0
  · have HP : Hid (fr < 0 ∨ to < fr ∨ (c.doc.size : Int) < to) := .inl q1
    go_wp2_with fail
    go_ret2
    exact ⟨by first | rfl | (rw [if_pos HP.out]; rfl), hb1⟩
  · by_cases q2 : to < fr
    · have HP : Hid (fr < 0 ∨ to < fr ∨ (c.doc.size : Int) < to) := .inr (.inl q2)
      go_wp2_with fail
      go_ret2
      exact ⟨by first | rfl | (rw [if_pos HP.out]; rfl), hb1⟩
    · by_cases q3 : (c.doc.size : Int) < to
      · have HP : Hid (fr < 0 ∨ to < fr ∨ (c.doc.size : Int) < to) := .inr (.inr q3)
        go_wp2_with fail
        go_ret2
        exact ⟨by first | rfl | (rw [if_pos HP.out]; rfl), hb1⟩
      · have HP : Hid (¬ (fr < 0 ∨ to < fr ∨ (c.doc.size : Int) < to)) := by show ¬ _; omega
        obtain ⟨f, rfl⟩ := Int.eq_ofNat_of_zero_le (show 0 ≤ fr by omega)
        obtain ⟨t, rfl⟩ := Int.eq_ofNat_of_zero_le (show 0 ≤ to by omega)
        have hft : f ≤ t := by omega
        have htd : t ≤ c.doc.size := by omega
        clear q1 q2 q3
        go_wp2_with fail
        go_ret2
        exact ⟨by first | rfl | (rw [if_neg HP.out]; rfl), hb1⟩

set_option maxHeartbeats 400000 in
theorem cList_ok (x : Nat) (b : Box) (ds : List Dc) (t : Int) (n : Nat) (w : World) (hl : ds.length ≤ 6000) (h1 : BoxAt w x b) (h2 : OwnD w 0 b.docs ds) (hn : 1 ≤ n ∧ n ≤ 8) :
    Calls Try.prog 58 #[.pointer (some ⟨x, 0, none⟩), .int .i64 t, .int .i64 (n : Int)] w fun e w' => ∃ u, e = .returned (.tuple #[u, .int .i64 0]) ∧ OwnV w' w.heap.size u (Do.ids (al ds) t n) ∧ Below w.heap.size w w' := by
  have HB : Hid (Calls Try.prog 87 #[.pointer (some ⟨x, 3, none⟩), .int .i64 t, .int .i64 (n : Int)] w fun e w' => ∃ u, e = .returned u ∧ OwnV w' w.heap.size u (Do.ids (al ds) t n) ∧ Below w.heap.size w w') := sIds_any x b 0 ds t n w hl hn h1 h2
  have hn1 : decide ((n : Int) < 1) = false := by rw [decide_eq_false_iff_not]; omega
  have hn8 : decide ((8 : Int) < (n : Int)) = false := by rw [decide_eq_false_iff_not]; omega
  generalize Do.ids (al ds) t n = M at *
  go_enter Try.func58, Try.ntmps58
  go_wp2_with fail
  refine HB.out.mono ?_
  rintro e w1 ⟨u, rfl, hu, hb⟩
  go_wp2_with fail
  go_ret2
  exact ⟨_, rfl, hu, hb⟩

set_option maxHeartbeats 400000 in
theorem cxCount_ok (x : Nat) (b : Box) (S : List Do.Oc) (s : ByteArray) (w : World) (h : Occ x b s S w) (hs : 1 ≤ s.size ∧ s.size ≤ 16) :
    Calls Try.prog 62 #[.pointer (some ⟨x, 0, none⟩), .string s] w fun e w' => e = .returned (.tuple #[.int .i64 (S.length : Int), .int .i64 0]) ∧ Below w.heap.size w w' := by
  have HB : Hid (Calls Try.prog 88 #[.pointer (some ⟨x, 3, none⟩), .string s] w fun e w' => e = .returned (.int .i64 (S.length : Int)) ∧ Below w.heap.size w w') := sCount_any x b s S w h
  obtain ⟨hs1, hs2⟩ := hs
  generalize S.length = z at *
  go_enter Try.func62, Try.ntmps62
  go_wp2_with fail
  refine HB.out.mono ?_
  rintro e w1 ⟨rfl, hb⟩
  go_wp2_with fail
  go_ret2
  exact ⟨rfl, hb⟩

theorem OwnO.cut {w : World} {B g cap n : Nat} {l : List Do.Oc} (h : OwnO w B (.slice (some ⟨g, 0, none⟩) l.length cap) l) (hn : n ≤ l.length) : OwnO w B (.slice (some ⟨g, 0, none⟩) n cap) (l.take n) := by
  have hlen : (l.take n).length = n := by rw [List.length_take]; omega
  rcases h.2 with ⟨h0, _⟩ | ⟨g', cap', cur, hv, hg, hh, hc, hcap, hsz, htake⟩
  · cases h0
  · cases hv
    unfold OwnO
    rw [hlen]
    have hoc : ∀ (q : List Do.Oc), (OC q).length = q.length * 2 := fun q => by
      induction q with
      | nil => rfl
      | cons a r ih => rw [OC, List.flatMap_cons, List.length_append]; show 2 + (OC r).length = _; rw [ih, List.length_cons]; omega
    refine ⟨by rw [hoc, hlen], .inr ⟨g, cap, cur, rfl, hg, hh, by omega, hcap, hsz, ?_⟩⟩
    have h3 : (cur.toList.take (l.length * 2)).take (n * 2) = (OC l).take (n * 2) := by rw [htake]
    rw [List.take_take, Nat.min_eq_left (by omega)] at h3
    rw [h3]
    have e : OC l = OC (l.take n) ++ OC (l.drop n) := by rw [← OC_append, List.take_append_drop]
    rw [e, List.take_left' (by rw [hoc, hlen])]

set_option maxHeartbeats 1000000 in
theorem cLocate_ok (x : Nat) (b : Box) (p : Nat) (m : Int) (S : List Do.Oc) (s : ByteArray) (i t : Int) (w : World) (h : Occ x b s S w) (hS : ∀ o ∈ S, o.at' ≤ 1000) (h1 : BoxAt w x b) (hpg : b.page = .int .i64 (p : Int)) (hvr : b.ver = .int .i64 m) (hp : 1 ≤ p ∧ p ≤ 8) (hs : 1 ≤ s.size ∧ s.size ≤ 16) :
    Calls Try.prog 20 #[.pointer (some ⟨x, 0, none⟩), .string s, .int .i64 m, .int .i64 i, .int .i64 t] w fun e w' => ∃ u, e = .returned (.tuple #[u, .bool (Do.page S i t p).2, .int .i64 0]) ∧ OwnO w' w.heap.size u (Do.page S i t p).1 ∧ Below w.heap.size w w' := by
  have HB : Hid (Calls Try.prog 29 #[.pointer (some ⟨x, 3, none⟩), .string s, .agg #[.int .i64 i, .int .i64 t], .int .i64 ((p : Int) + 1)] w.drew fun e w' => ∃ u, e = .returned u ∧ OwnO w' w.heap.size u ((Do.since S i t).take (p + 1)) ∧ Below w.heap.size w.drew w') := sHits_any x b s S i t (p + 1) w.drew ⟨fun w' hw' => h.call w' ((Below.refl _ _).drew.trans hw'), h.rise, h.few⟩ (by omega) hS
  have HPG : Hid (Do.page S i t p = (((Do.since S i t).take (p + 1)).take p, decide (p < ((Do.since S i t).take (p + 1)).length))) := by
    show _ = _
    rw [Do.page_eq, List.take_take, Nat.min_eq_left (by omega), List.length_take]
    congr 1
    exact decide_eq_decide.2 ⟨fun h => by omega, fun h => by omega⟩
  rw [HPG.out]
  have hfl : ((Do.since S i t).take (p + 1)).length ≤ p + 1 := by rw [List.length_take]; omega
  obtain ⟨hs1, hs2⟩ := hs
  obtain ⟨hp1, hp2⟩ := hp
  clear HPG
  generalize (Do.since S i t).take (p + 1) = M at *
  have c5 := h1.g23
  have c2 := h1.g2
  rw [hvr] at c5
  rw [hpg] at c2
  have HPP : Hid (b.page = .int .i64 (p : Int)) := hpg
  clear hpg hvr
  have hnb : (m != m) = false := by simp
  have hwr : IntKind.i64.wrap ((p : Int) + 1) = (p : Int) + 1 := by rw [IntKind.wrap_i64]; omega
  go_enter Try.func20, Try.ntmps20
  go_wp2_with fail
  refine wp_region_held_drew (S := fun w' => w'.cell? ⟨x, 2, none⟩ = some (.int .i64 (p : Int))) (by kernel_rfl) c2 (fun hHeld => ?_)
  refine wpAnyH_take (i := 0) (v := ?a0) rfl (by kernel_rfl) (by kernel_rfl) (by kernel_rfl) (fun _ _ _ h => h) (Or.inl ⟨by rfl, ?hya0⟩) (by assumption) ?resta0
  case hya0 => intro w hSw; (try dsimp only at hSw); go_simp; (try with_reducible rfl)
  simp only [Act.put]
  refine wpAnyH_take (i := 1) (v := ?a1) rfl (by kernel_rfl) (by kernel_rfl) (by kernel_rfl) (fun _ _ _ h => h) (Or.inl ⟨by rfl, ?hya1⟩) (by assumption) ?resta1
  case hya1 => intro w hSw; (try dsimp only at hSw); go_simp; (try with_reducible rfl)
  simp only [Act.put]
  refine wpAnyH_take (i := 2) (v := ?a2) rfl (by kernel_rfl) (by kernel_rfl) (by kernel_rfl) (fun _ _ _ h => h) (Or.inl ⟨by rfl, ?hya2⟩) (by assumption) ?resta2
  case hya2 => intro w hSw; (try dsimp only at hSw); go_simp; (try with_reducible rfl)
  simp only [Act.put]
  refine wpAnyH_take (i := 3) (v := ?a3) rfl (by kernel_rfl) (by kernel_rfl) (by kernel_rfl) (fun _ _ _ h => h) (Or.inl ⟨by rfl, ?hya3⟩) (by assumption) ?resta3
  case hya3 => intro w hSw; (try dsimp only at hSw); go_simp; (try with_reducible rfl)
  simp only [Act.put]
  refine wpAnyH_take (i := 4) (v := ?a4) rfl (by kernel_rfl) (by kernel_rfl) (by kernel_rfl) (fun _ _ _ h => h) (Or.inl ⟨by rfl, ?hya4⟩) (by assumption) ?resta4
  case hya4 => intro w hSw; (try dsimp only at hSw); go_simp; (try with_reducible rfl)
  simp only [Act.put]
  refine wpAnyH_take (i := 5) (v := ?a5) rfl (by kernel_rfl) (by kernel_rfl) (by kernel_rfl) (fun _ _ _ h => h) (Or.inl ⟨by rfl, ?hya5⟩) (by assumption) ?resta5
  case hya5 => intro w hSw; (try dsimp only at hSw); go_simp; (try with_reducible rfl)
  simp only [Act.put]
  refine wpAnyH_take (i := 6) (v := ?a6) rfl (by kernel_rfl) (by kernel_rfl) (by kernel_rfl) (fun _ _ _ h => h) (Or.inl ⟨by rfl, ?hya6⟩) (by assumption) ?resta6
  case hya6 => intro w hSw; (try dsimp only at hSw); go_simp; (try with_reducible rfl)
  simp only [Act.put]
  refine wpAnyH_take (i := 7) (v := ?a7) rfl (by kernel_rfl) (by kernel_rfl) (by kernel_rfl) (fun _ _ _ h => h) (Or.inl ⟨by rfl, ?hya7⟩) (by assumption) ?resta7
  case hya7 => intro w hSw; (try dsimp only at hSw); go_simp; (try with_reducible rfl)
  simp only [Act.put]
  refine wpAnyH_take (i := 8) (v := ?a8) rfl (by kernel_rfl) (by kernel_rfl) (by kernel_rfl) (fun _ _ _ h => h) (Or.inl ⟨by rfl, ?hya8⟩) (by assumption) ?resta8
  case hya8 => intro w hSw; (try dsimp only at hSw); go_simp; (try with_reducible rfl)
  simp only [Act.put]
  refine wpAnyH_take (i := 9) (v := ?a9) rfl (by kernel_rfl) (by kernel_rfl) (by kernel_rfl) (fun _ _ _ h => h) (Or.inl ⟨by rfl, ?hya9⟩) (by assumption) ?resta9
  case hya9 => intro w hSw; (try dsimp only at hSw); go_simp; (try with_reducible rfl)
  simp only [Act.put]
  refine wpAnyH_take (i := 10) (v := ?a10) rfl (by kernel_rfl) (by kernel_rfl) (by kernel_rfl) (fun _ _ _ h => h) (Or.inl ⟨by rfl, ?hya10⟩) (by assumption) ?resta10
  case hya10 => intro w hSw; (try dsimp only at hSw); go_simp; (try with_reducible rfl)
  simp only [Act.put]
  refine wpAnyH_take (i := 11) (v := ?a11) rfl (by kernel_rfl) (by kernel_rfl) (by kernel_rfl) (fun _ _ _ h => h) (Or.inl ⟨by rfl, ?hya11⟩) (by assumption) ?resta11
  case hya11 => intro w hSw; (try dsimp only at hSw); go_simp; (try with_reducible rfl)
  simp only [Act.put]
  refine wpAnyH_take (i := 12) (v := ?a12) rfl (by kernel_rfl) (by kernel_rfl) (by kernel_rfl) (fun _ _ _ h => h) (Or.inl ⟨by rfl, ?hya12⟩) (by assumption) ?resta12
  case hya12 => intro w hSw; (try dsimp only at hSw); go_simp; (try with_reducible rfl)
  simp only [Act.put]
  refine wpAnyH_ready (rs := [13]) (by kernel_rfl) (by simp) ?_
  refine AllReadyH.cons rfl (fun K hK => ?_) AllReadyH.nil
  go_simp
  refine HB.out.mono ?_
  rintro e w1 ⟨u, rfl, hu, hb'⟩
  have hb : Below w.heap.size w w1 := (Below.refl w.heap.size w).drew.trans hb'
  have c22 := (h1.below hb).g2
  rw [HPP.out] at c22
  refine hK.out _ _ c22 (fun hHeld => ?_)
  clear hK K hb' c5 c2 HB
  refine wpAnyH_take (i := 14) (v := ?b14) rfl (by kernel_rfl) (by kernel_rfl) (by kernel_rfl) (fun _ _ _ h => h) (Or.inl ⟨by rfl, ?hyb14⟩) (by assumption) ?restb14
  case hyb14 => intro w hSw; (try dsimp only at hSw); go_simp; (try with_reducible rfl)
  simp only [Act.put]
  refine wpAnyH_done (by kernel_rfl) ?_ _
  clear hHeld
  rcases hu.shape with ⟨rfl, rfl⟩ | ⟨g, cap, rfl, hg1, hg2⟩
  · have d1 : decide ((p : Int) < (0 : Int)) = false := by rw [decide_eq_false_iff_not]; omega
    go_wp2_with fail
    go_ret3
    refine ⟨.slice none 0 0, by simp, ?_, hb⟩
    rw [List.take_nil]; exact World.ownsRow_nil _ _ _ _
  · by_cases q : p < M.length
    · have d1 : decide ((p : Int) < (M.length : Int)) = true := by rw [decide_eq_true_eq]; omega
      have hcap : M.length ≤ cap := by
        rcases hu.2 with ⟨h0, _⟩ | ⟨g', cap', cur, hv, _, _, hc, _⟩
        · cases h0
        · cases hv; exact hc
      have HC : Hid (OwnO w1 w.heap.size (.slice (some ⟨g, 0, none⟩) p cap) (M.take p)) := hu.cut (by omega)
      have HD : Hid (decide (p < M.length) = true) := by show _ = _; rw [decide_eq_true_eq]; exact q
      go_wp2_with fail
      go_ret3
      refine ⟨_, ?_, HC.out, hb⟩
      rw [HD.out]; rfl
    · have d1 : decide ((p : Int) < (M.length : Int)) = false := by rw [decide_eq_false_iff_not]; omega
      have HC : Hid (M.take p = M) := List.take_of_length_le (by omega)
      have HD : Hid (decide (p < M.length) = false) := by show _ = _; rw [decide_eq_false_iff_not]; exact q
      go_wp2_with fail
      go_ret3
      refine ⟨_, ?_, by rw [HC.out]; exact hu, hb⟩
      rw [HD.out]; rfl

end Go.Proofs.Ythkndfkkgncjfab

namespace Go.Proofs.Ythkndfkkgncjfab
open Go.RowKit
set_option maxRecDepth 100000

set_option maxHeartbeats 1000000 in
theorem cStats_any (x : Nat) (b : Box) (ds : List Dc) (lf : Nat) (hn : Int) (w : World) (hl : ds.length ≤ 6000) (hsm : ∀ d ∈ ds, d.2.doc.size ≤ 40) (hpt : ∀ d ∈ ds, d.1 ≤ 2) (hb : BoxAt w x b) (h : OwnD w 0 b.docs ds) (h1 : b.left = .int .i64 (lf : Int)) (h2 : b.hand = .int .i64 hn) :
    Calls Try.prog 16 #[.pointer (some ⟨x, 0, none⟩)] w fun e w' => e = .returned (.agg #[.int .i64 ((al ds).length : Int), .int .i64 (Do.size (al ds) : Nat), .int .i64 (W 0 ds : Nat), .int .i64 (W 1 ds : Nat), .int .i64 (W 2 ds : Nat), .int .i64 (Wd ds : Nat), .int .i64 (lf : Int), .int .i64 (if 0 < lf then 1 else 0), .int .i64 hn]) ∧ Below w.heap.size w w' := by
  obtain ⟨on, hon⟩ : ∃ on : Int, (if 0 < lf then (1 : Int) else 0) = on := ⟨_, rfl⟩
  have HS := fun w' (hw : Below w.heap.size w w') => sStats_any x b 0 ds lf hn w' hl hsm hpt (hb.below hw) (h.below hw) h1 h2
  rw [hon] at HS ⊢
  clear hon hsm hpt hb h h1 h2 hl
  generalize ((al ds).length : Int) = v0 at *
  generalize ((Do.size (al ds) : Nat) : Int) = v1 at *
  generalize ((W 0 ds : Nat) : Int) = v2 at *
  generalize ((W 1 ds : Nat) : Int) = v3 at *
  generalize ((W 2 ds : Nat) : Int) = v4 at *
  generalize ((Wd ds : Nat) : Int) = v5 at *
  have hba : Below w.heap.size w (w.alloc (.cells #[.int .i64 0, .int .i64 0, .int .i64 0, .int .i64 0, .int .i64 0, .int .i64 0, .int .i64 0, .int .i64 0, .int .i64 0] 50)) := (Below.refl _ _).alloc (Nat.le_refl _) _
  have hst : StAt (w.alloc (.cells #[.int .i64 0, .int .i64 0, .int .i64 0, .int .i64 0, .int .i64 0, .int .i64 0, .int .i64 0, .int .i64 0, .int .i64 0] 50)) w.heap.size 0 0 0 0 0 0 0 0 0 := heap_alloc_new w _
  go_enter Try.func16, Try.ntmps16
  go_wp2_with fail
  generalize w.alloc (.cells #[.int .i64 0, .int .i64 0, .int .i64 0, .int .i64 0, .int .i64 0, .int .i64 0, .int .i64 0, .int .i64 0, .int .i64 0] 50) = w0 at *
  refine (HS w0 hba).mono ?_
  rintro e w1 ⟨rfl, hb1⟩
  have hst1 : StAt w1 w.heap.size 0 0 0 0 0 0 0 0 0 := StAt.below hst hb1
  have hbb : Below w.heap.size w w1 := hba.trans (hb1.mono hba.size)
  have hG : (w1.setRow w.heap.size #[.int .i64 v0, .int .i64 v1, .int .i64 v2, .int .i64 v3, .int .i64 v4, .int .i64 v5, .int .i64 (lf : Int), .int .i64 on, .int .i64 hn]).heap[w.heap.size]? = some (.cells #[.int .i64 v0, .int .i64 v1, .int .i64 v2, .int .i64 v3, .int .i64 v4, .int .i64 v5, .int .i64 (lf : Int), .int .i64 on, .int .i64 hn] 50 (0, 0)) := setRow_heap w1 w.heap.size _ _ 50 _ hst1
  go_wp2_with (with_reducible refine wpList_store_row rfl 50 _ _ rfl w.heap.size #[.int .i64 v0, .int .i64 v1, .int .i64 v2, .int .i64 v3, .int .i64 v4, .int .i64 v5, .int .i64 (lf : Int), .int .i64 on, .int .i64 hn] ?_ ?_ 50 #[.int .i64 0, .int .i64 0, .int .i64 0, .int .i64 0, .int .i64 0, .int .i64 0, .int .i64 0, .int .i64 0, .int .i64 0] ?_ ?_ ?_ ?_ ?_)
  case refine_1 => rfl
  case refine_2 => rfl
  case refine_3 => exact hst1
  case refine_4 => exact Try.sizeT147
  case refine_5 => rfl
  case refine_6 => simp [Value.oneCell']
  refine bodyPost_ret (by exact results_cell_row rfl _ _ w.heap.size 50 _ _ _ rfl hG Try.underlying50 rfl Try.sizeT147) rfl ?_
  exact ⟨rfl, below_setRow hbb⟩

end Go.Proofs.Ythkndfkkgncjfab

namespace Go.Proofs.Ythkndfkkgncjfab
open Go.RowKit
set_option maxRecDepth 100000

set_option maxHeartbeats 400000 in
theorem sRemove_none (x : Nat) (b : Box) (ds : List Dc) (id : Int) (w : World) (hl : ds.length ≤ 6000) (hb : BoxAt w x b) (h : OwnD w 0 b.docs ds) (hf : fdRes (al ds) id = (⟨#[]⟩, false)) :
    Calls Try.prog 31 #[.pointer (some ⟨x, 3, none⟩), .int .i64 id] w fun e w' => e = .returned (.bool false) ∧ Below w.heap.size w w' := by
  have HF := sFind_any x b 0 ds id (⟨#[]⟩, false) w hf hl hb h
  go_enter Try.func31, Try.ntmps31
  go_wp2_with fail
  refine HF.mono ?_
  rintro e w1 ⟨rfl, hb1⟩
  go_wp2_with fail
  go_ret
  exact ⟨rfl, hb1⟩

set_option maxHeartbeats 400000 in
theorem cDelete_none (x : Nat) (b : Box) (ds : List Dc) (id : Int) (w : World) (hl : ds.length ≤ 6000) (hb : BoxAt w x b) (h : OwnD w 0 b.docs ds) (hf : fdRes (al ds) id = (⟨#[]⟩, false)) :
    Calls Try.prog 23 #[.pointer (some ⟨x, 0, none⟩), .int .i64 id] w fun e w' => e = .returned (.int .i64 4) ∧ Below w.heap.size w w' := by
  have HF := sRemove_none x b ds id w hl hb h hf
  go_enter Try.func23, Try.ntmps23
  go_wp2_with fail
  refine HF.mono ?_
  rintro e w1 ⟨rfl, hb1⟩
  go_wp2_with fail
  go_ret
  exact ⟨rfl, hb1⟩

set_option maxHeartbeats 1000000 in
theorem cDelete_ok (x : Nat) (b : Box) (bf : Nat) (p : Pa.Pt) (N m : Nat) (cs : List Do.Chg) (id : Nat) (s : ByteArray) (w : World) (hbf : bf ≤ 80) (h : SIn w x b bf p) (hI : Pa.Inv bf cs N p) (hth : (Do.there cs).length ≤ 60) (hs : s.size ≤ 40) (hfd : fdRes (al (tag p)) (id : Int) = (s, true)) (hN : N ≤ 8000000000000000) (hh : p.hand ≤ 9000000000000000) (hv : b.ver = .int .i64 (m : Int)) (hm : m ≤ 9000000000000000) :
    Calls Try.prog 23 #[.pointer (some ⟨x, 0, none⟩), .int .i64 (id : Int)] w fun e w' => e = .returned (.int .i64 0) ∧ ∃ b', SIn w' x b' bf (Pa.change bf p ⟨false, s, id⟩) ∧ ({ b with ver := .int .i64 ((m : Int) + 1) } : Box).kin b' ∧ Only (sfoot x b) w w' ∧ ∀ q, sfoot x b' q → sfoot x b q ∨ w.heap.size ≤ q := by
  have HR := sRemove_any x b bf p N cs id s w hbf h hI hth hs hfd hN hh
  go_enter Try.func23, Try.ntmps23
  go_wp2_with fail
  refine HR.mono ?_
  rintro e w1 ⟨rfl, b1, hS, hk, hO, hQ⟩
  have g23 := hS.lex.box.g23
  rw [hk.2.2.2.2, hv] at g23
  have f23 := hS.lex.box.free 23
  have HS2 : Hid (SIn (w1.setCell ⟨x, 23, none⟩ (.int .i64 ((m : Int) + 1))) x { b1 with ver := .int .i64 ((m : Int) + 1) } bf (Pa.change bf p ⟨false, s, id⟩)) := SIn.rebox hS (Only.setCell (F := fun k => k = x) _ _ rfl) (hS.lex.box.s23 _) ⟨rfl, rfl, rfl, rfl, rfl, rfl, rfl, rfl, rfl, rfl, rfl, rfl, rfl⟩
  go_wp2_with fail
  go_ret
  exact ⟨rfl, { b1 with ver := .int .i64 ((m : Int) + 1) }, HS2.out, ⟨hk.1, hk.2.1, hk.2.2.1, hk.2.2.2.1, rfl⟩, hO.trans (Only.setCell _ _ (.inr (.inr (.inl rfl)))), hQ⟩

end Go.Proofs.Ythkndfkkgncjfab

namespace Go.Proofs.Ythkndfkkgncjfab
open Go.RowKit
set_option maxRecDepth 100000

set_option maxHeartbeats 1000000 in
theorem cInsert_ok (x : Nat) (b : Box) (bf : Nat) (p : Pa.Pt) (N m : Nat) (a : Int) (cs : List Do.Chg) (s : ByteArray) (w : World) (hbf : bf ≤ 80) (h : SIn w x b bf p) (hI : Pa.Inv bf cs N p) (hth : (Do.there cs).length < 60) (hs : s.size ≤ 40) (ha : 1 ≤ a ∧ a ≤ 400) (hcp : b.cap = .int .i64 a) (hfl : (Do.size (Do.there cs) : Int) + s.size ≤ a) (hnx : b.next = .int .i64 (N : Int)) (hN : N ≤ 8000000000000000) (hh : p.hand ≤ 9000000000000000) (hv : b.ver = .int .i64 (m : Int)) (hm : m ≤ 9000000000000000) :
    Calls Try.prog 21 #[.pointer (some ⟨x, 0, none⟩), .string s] w fun e w' => e = .returned (.tuple #[.int .i64 (N : Int), .int .i64 0]) ∧ ∃ b', SIn w' x b' bf (Pa.change bf p ⟨true, s, N⟩) ∧ ({ b with next := .int .i64 ((N : Int) + 1), ver := .int .i64 ((m : Int) + 1) } : Box).kin b' ∧ Only (sfoot x b) w w' ∧ ∀ q, sfoot x b' q → sfoot x b q ∨ w.heap.size ≤ q := by
  have hlen : (tag p).length ≤ 6000 := by
    rw [tag_len]
    have h1 := Pa.wt_len p.docs
    have h2 := hI.all_wt hbf (by omega)
    omega
  have hal : al (tag p) = Do.there cs := by rw [al_tag]; exact hI.there
  have HS := sStats_any x b 0 (tag p) p.left (p.hand : Int) w hlen (fun d hd => hI.small d.2 (tag_mem p d hd).1) (fun d hd => (tag_mem p d hd).2) h.lex.box h.docs h.left h.hand
  rw [hal] at HS
  obtain ⟨z, hz⟩ : ∃ z, Do.size (Do.there cs) = z := ⟨_, rfl⟩
  obtain ⟨c, hc⟩ : ∃ c, (Do.there cs).length = c := ⟨_, rfl⟩
  obtain ⟨on, hon⟩ : ∃ on : Int, (if 0 < p.left then (1 : Int) else 0) = on := ⟨_, rfl⟩
  rw [hz, hc, hon] at HS
  rw [hz] at hfl
  have hc' : c < 60 := by omega
  generalize ((W 0 (tag p) : Nat) : Int) = v2 at *
  generalize ((W 1 (tag p) : Nat) : Int) = v3 at *
  generalize ((W 2 (tag p) : Nat) : Int) = v4 at *
  generalize ((Wd (tag p) : Nat) : Int) = v5 at *
  have hs40 : decide ((40 : Int) < (s.size : Int)) = false := by rw [decide_eq_false_iff_not]; omega
  have d1 : decide (a < (z : Int) + (s.size : Int)) = false := by rw [decide_eq_false_iff_not]; omega
  have d2 : decide ((60 : Int) ≤ (c : Int)) = false := by rw [decide_eq_false_iff_not]; omega
  have d2' : decide (60 ≤ c) = false := by rw [decide_eq_false_iff_not]; omega
  obtain ⟨ha1, ha2⟩ := ha
  have HBX : Hid (BoxAt w x b) := h.lex.box
  go_enter Try.func21, Try.ntmps21
  go_wp2_with fail
  refine HS.mono ?_
  rintro e w1 ⟨rfl, hb1⟩
  have hba : ∀ o, Below w.heap.size w (w1.alloc o) := fun o => hb1.alloc hb1.size o
  have g0 := (HBX.out.below (hba (.cells #[.int .i64 (c : Int), .int .i64 (z : Int), .int .i64 v2, .int .i64 v3, .int .i64 v4, .int .i64 v5, .int .i64 (p.left : Int), .int .i64 on, .int .i64 (p.hand : Int)] 50))).g0
  rw [hcp] at g0
  have hzb : z ≤ 400 := by omega
  go_wp2_with fail
  go_quiet (fail)
  go_wp2_with fail
  obtain ⟨W0, hW0⟩ : ∃ W0, W0 = (w1.alloc (.cells #[.int .i64 (c : Int), .int .i64 (z : Int), .int .i64 v2, .int .i64 v3, .int .i64 v4, .int .i64 v5, .int .i64 (p.left : Int), .int .i64 on, .int .i64 (p.hand : Int)] 50)).drewN nq := ⟨_, rfl⟩
  have hbW : Below w.heap.size w W0 := by rw [hW0]; exact below_drewN (hba _) _
  rw [← hW0]
  refine (sAdd_any x b bf p N cs s W0 hbf (h.below hbW) hI hth hs hnx hN hh).mono ?_
  rintro e w2 ⟨rfl, b1, hS, hk, hO, hQ⟩
  have g23 := hS.lex.box.g23
  rw [hk.2.2.2.2] at g23
  have hv' : ({ b with next := .int .i64 ((N : Int) + 1) } : Box).ver = .int .i64 (m : Int) := hv
  rw [hv'] at g23
  have f23 := hS.lex.box.free 23
  have HS2 : Hid (SIn (w2.setCell ⟨x, 23, none⟩ (.int .i64 ((m : Int) + 1))) x { b1 with ver := .int .i64 ((m : Int) + 1) } bf (Pa.change bf p ⟨true, s, N⟩)) := SIn.rebox hS (Only.setCell (F := fun k => k = x) _ _ rfl) (hS.lex.box.s23 _) ⟨rfl, rfl, rfl, rfl, rfl, rfl, rfl, rfl, rfl, rfl, rfl, rfl, rfl⟩
  go_wp2_with fail
  go_ret2
  exact ⟨rfl, { b1 with ver := .int .i64 ((m : Int) + 1) }, HS2.out, ⟨hk.1, hk.2.1, hk.2.2.1, hk.2.2.2.1, rfl⟩, ((Only.of_below hbW).trans hO).trans (Only.setCell _ _ (.inr (.inr (.inl rfl)))), fun q hq => (hQ q hq).imp (fun h => h) (fun h => Nat.le_trans hbW.size h)⟩

set_option maxHeartbeats 1000000 in
theorem cInsert_full (x : Nat) (b : Box) (bf : Nat) (p : Pa.Pt) (N : Nat) (a : Int) (cs : List Do.Chg) (s : ByteArray) (w : World) (hbf : bf ≤ 80) (h : SIn w x b bf p) (hI : Pa.Inv bf cs N p) (hth : (Do.there cs).length ≤ 60) (hs : s.size ≤ 40) (ha : 1 ≤ a ∧ a ≤ 400) (hcp : b.cap = .int .i64 a) (hfl : a < (Do.size (Do.there cs) : Int) + s.size ∨ 60 ≤ (Do.there cs).length) :
    Calls Try.prog 21 #[.pointer (some ⟨x, 0, none⟩), .string s] w fun e w' => e = .returned (.tuple #[.int .i64 0, .int .i64 3]) ∧ Below w.heap.size w w' := by
  have hlen : (tag p).length ≤ 6000 := by
    rw [tag_len]
    have h1 := Pa.wt_len p.docs
    have h2 := hI.all_wt hbf hth
    omega
  have hal : al (tag p) = Do.there cs := by rw [al_tag]; exact hI.there
  have hsz : Do.size (Do.there cs) ≤ 40 * (Do.there cs).length := by
    rw [← hal]
    exact size_le _ (fun c hc => by
      unfold al at hc
      rw [List.mem_map] at hc
      obtain ⟨d, hd, rfl⟩ := hc
      exact hI.small d.2 (tag_mem p d (List.mem_filter.1 hd).1).1)
  have HS := sStats_any x b 0 (tag p) p.left (p.hand : Int) w hlen (fun d hd => hI.small d.2 (tag_mem p d hd).1) (fun d hd => (tag_mem p d hd).2) h.lex.box h.docs h.left h.hand
  rw [hal] at HS
  obtain ⟨z, hz⟩ : ∃ z, Do.size (Do.there cs) = z := ⟨_, rfl⟩
  obtain ⟨c, hc⟩ : ∃ c, (Do.there cs).length = c := ⟨_, rfl⟩
  obtain ⟨on, hon⟩ : ∃ on : Int, (if 0 < p.left then (1 : Int) else 0) = on := ⟨_, rfl⟩
  rw [hz, hc, hon] at HS
  rw [hz, hc] at hfl hsz
  rw [hc] at hth
  generalize ((W 0 (tag p) : Nat) : Int) = v2 at *
  generalize ((W 1 (tag p) : Nat) : Int) = v3 at *
  generalize ((W 2 (tag p) : Nat) : Int) = v4 at *
  generalize ((Wd (tag p) : Nat) : Int) = v5 at *
  have hs40 : decide ((40 : Int) < (s.size : Int)) = false := by rw [decide_eq_false_iff_not]; omega
  obtain ⟨ha1, ha2⟩ := ha
  have HBX : Hid (BoxAt w x b) := h.lex.box
  have hzb : z ≤ 2400 := by omega
  go_enter Try.func21, Try.ntmps21
  go_wp2_with fail
  refine HS.mono ?_
  rintro e w1 ⟨rfl, hb1⟩
  have hba : ∀ o, Below w.heap.size w (w1.alloc o) := fun o => hb1.alloc hb1.size o
  have g0 := (HBX.out.below (hba (.cells #[.int .i64 (c : Int), .int .i64 (z : Int), .int .i64 v2, .int .i64 v3, .int .i64 v4, .int .i64 v5, .int .i64 (p.left : Int), .int .i64 on, .int .i64 (p.hand : Int)] 50))).g0
  rw [hcp] at g0
  by_cases h3 : a < (z : Int) + (s.size : Int)
  · have d1 : decide (a < (z : Int) + (s.size : Int)) = true := by rw [decide_eq_true_eq]; exact h3
    go_wp2_with fail
    go_quiet (fail)
    go_wp2_with fail
    go_ret2
    exact ⟨rfl, below_drewN (hba _) _⟩
  · have d1 : decide (a < (z : Int) + (s.size : Int)) = false := by rw [decide_eq_false_iff_not]; exact h3
    have d2 : decide ((60 : Int) ≤ (c : Int)) = true := by rw [decide_eq_true_eq]; omega
    have d2' : decide (60 ≤ c) = true := by rw [decide_eq_true_eq]; omega
    go_wp2_with fail
    go_quiet (fail)
    go_wp2_with fail
    go_ret2
    exact ⟨rfl, below_drewN (hba _) _⟩

end Go.Proofs.Ythkndfkkgncjfab

namespace Go.Proofs.Ythkndfkkgncjfab
open Go.RowKit
set_option maxRecDepth 100000

theorem insTo_same (cs r : List Do.Chg) : ∀ k, k ≤ cs.length → insTo (cs ++ r) k = insTo cs k
  | 0, _ => rfl
  | k + 1, hk => by
    rw [insTo, insTo, insTo_same cs r k (by omega), List.getElem?_append_left (by omega)]
theorem insTo_more (cs : List Do.Chg) (c : Do.Chg) : insTo (cs ++ [c]) (cs ++ [c]).length = insTo cs cs.length + (if c.ins then 1 else 0) := by
  rw [List.length_append, List.length_singleton, insTo_succ (cs ++ [c]) cs.length c (by simp), insTo_same cs [c] _ (Nat.le_refl _)]

theorem hand_more (b : Nat) (p : Pa.Pt) (c : Do.Chg) : (Pa.change b p c).hand ≤ p.hand + 1 := by
  have h1 : ∀ q : Pa.Pt, (Pa.begun b q).hand = q.hand := fun q => by unfold Pa.begun; split <;> rfl
  have h2 : ∀ (q : Pa.Pt) (k : Nat), (Pa.worked q k).hand ≤ q.hand + 1 := fun q k => by
    unfold Pa.worked
    split
    · split
      · exact Nat.le_refl _
      · exact Nat.le_succ _
    · exact Nat.le_succ _
  have h3 : (Pa.came p c).hand = p.hand := by unfold Pa.came; split <;> rfl
  unfold Pa.change
  rw [h1, ← h3]
  exact h2 _ _

/-- the code's index, its blocks told -/
def CIdx (w : World) (x : Nat) (a b p : Int) (cs : List Do.Chg) (F : Nat → Prop) : Prop :=
  ∃ (bx : Box) (bf : Nat), b = (bf : Int) ∧ SIn w x bx bf (Pa.parts bf cs) ∧ bx.cap = .int .i64 a ∧ bx.page = .int .i64 p ∧ bx.next = .int .i64 (insTo cs cs.length : Nat) ∧ bx.ver = .int .i64 (cs.length : Nat) ∧ Pa.Inv bf cs (insTo cs cs.length) (Pa.parts bf cs) ∧ (Pa.parts bf cs).hand ≤ cs.length ∧ (∀ k, sfoot x bx k → F k) ∧ (∀ k, F k → k < w.heap.size) ∧ okc a b p ∧ (Do.there cs).length ≤ 60

theorem SIn.lt {w : World} {x : Nat} {b : Box} {bf : Nat} {p : Pa.Pt} (h : SIn w x b bf p) : ∀ k, sfoot x b k → k < w.heap.size := by
  intro k hk
  obtain ⟨lm, m1, _⟩ := h.main
  rcases hk with hk | hk | hk | hk | hk | hk
  · exact h.docs.lt k hk
  · exact m1.lt k hk
  · subst hk; exact h.lex.box.lt
  · exact h.lex.wait.lt k hk
  · exact h.lex.runs.lt k hk
  · exact h.lex.mg.lt k hk
theorem SIn.only {w w' : World} {x : Nat} {b : Box} {bf : Nat} {p : Pa.Pt} {F : Nat → Prop} (h : SIn w x b bf p) (ho : Only F w w') (hF : ∀ k, sfoot x b k → ¬ F k) : SIn w' x b bf p := by
  obtain ⟨lm, m1, m2, m3⟩ := h.main
  have n0 : ∀ q, b.c0.ownBlock = some q → ¬ F q := fun q hq => hF q (.inr (.inr (.inr (.inl hq))))
  have n1 : ∀ q, b.c1.ownBlock = some q → ¬ F q := fun q hq => hF q (.inr (.inr (.inr (.inr (.inl hq)))))
  have n3 : ∀ q, b.c3.ownBlock = some q → ¬ F q := fun q hq => hF q (.inr (.inr (.inr (.inr (.inr hq)))))
  exact ⟨h.docs.only ho (fun q hq => hF q (.inl hq)), h.buf, h.left, h.speed, h.hand, ⟨lm, m1.only ho (fun q hq => hF q (.inr (.inl hq))), m2, m3⟩, ⟨h.lex.box.only ho (hF x (.inr (.inr (.inl rfl)))), h.lex.wait.only ho n0, h.lex.runs.only ho n1, h.lex.wid, h.lex.mg.only ho n3, h.lex.st, h.lex.lf, h.lex.rg, h.lex.a1, h.lex.a2, h.lex.a3⟩, fun h0 => (h.fresh h0).only ho n0, h.ad, h.am⟩

end Go.Proofs.Ythkndfkkgncjfab

namespace Go.Proofs.Ythkndfkkgncjfab
open Go.RowKit
set_option maxRecDepth 100000

theorem SIn.frame {w w' : World} {x : Nat} {b : Box} {bf : Nat} {p : Pa.Pt} (h : SIn w x b bf p) (hsz : w.heap.size ≤ w'.heap.size) (hfr : ∀ k, sfoot x b k → w'.heap[k]? = w.heap[k]?) : SIn w' x b bf p := by
  have k : SIn { w with heap := w'.heap } x b bf p := h.only (F := fun k => ¬ sfoot x b k) ⟨rfl, rfl, rfl, hsz, fun k _ hn => hfr k (Classical.byContradiction hn)⟩ (fun k hk hn => hn hk)
  obtain ⟨lm, m1, m2, m3⟩ := k.main
  exact ⟨k.docs, k.buf, k.left, k.speed, k.hand, ⟨lm, m1, m2, m3⟩, ⟨k.lex.box, k.lex.wait, k.lex.runs, k.lex.wid, k.lex.mg, k.lex.st, k.lex.lf, k.lex.rg, k.lex.a1, k.lex.a2, k.lex.a3⟩, k.fresh, k.ad, k.am⟩

theorem CIdx.stay {w w' : World} {x : Nat} {a b p : Int} {cs : List Do.Chg} {F : Nat → Prop} (h : CIdx w x a b p cs F) (hb : Below w.heap.size w w') : Only F w w' ∧ ∃ G, CIdx w' x a b p cs G ∧ ∀ k, G k → F k ∨ w.heap.size ≤ k := by
  obtain ⟨bx, bf, h1, h2, h3, h4, h5, h6, h7, h8, h9, h10, h11, h12⟩ := h
  exact ⟨Only.of_below hb, F, ⟨bx, bf, h1, h2.below hb, h3, h4, h5, h6, h7, h8, h9, fun k hk => Nat.lt_of_lt_of_le (h10 k hk) hb.size, h11, h12⟩, fun k hk => .inl hk⟩

theorem rows_docs (l : List Pa.Pg) (h : ∀ g ∈ l, g.doc.size ≤ 40) : ∀ r ∈ Lx.rows l, r.doc.size ≤ 40 := by
  intro r hr
  unfold Lx.rows Lx.all at hr
  rw [List.mem_flatMap] at hr
  obtain ⟨q, hq, hr⟩ := hr
  rw [List.mem_map] at hq
  obtain ⟨g, hg, rfl⟩ := hq
  unfold Lx.tails at hr
  rw [List.mem_map] at hr
  obtain ⟨j, _, rfl⟩ := hr
  exact h g hg
theorem tag_few {bf : Nat} {cs : List Do.Chg} {N : Nat} {p : Pa.Pt} (hI : Pa.Inv bf cs N p) (hbf : bf ≤ 80) (hth : (Do.there cs).length ≤ 60) : (tag p).length ≤ 6000 := by
  have h1 := hI.all_wt hbf hth
  have h2 := Pa.wt_len p.docs
  rw [tag_len]; omega
theorem tag_small {bf : Nat} {cs : List Do.Chg} {N : Nat} {p : Pa.Pt} (hI : Pa.Inv bf cs N p) : ∀ d ∈ tag p, d.2.doc.size ≤ 40 := fun d hd => hI.small d.2 (tag_mem p d hd).1
theorem tag_there {bf : Nat} {cs : List Do.Chg} {N : Nat} {p : Pa.Pt} (hI : Pa.Inv bf cs N p) : al (tag p) = Do.there cs := (al_tag p).trans hI.there
theorem there_rise {bf : Nat} {cs : List Do.Chg} {N : Nat} {p : Pa.Pt} (hI : Pa.Inv bf cs N p) : (Do.there cs).Pairwise fun c d => c.id < d.id := by
  rw [← hI.there, List.pairwise_map]
  exact (hI.rise.filter _).imp fun h => h
theorem there_doc {bf : Nat} {cs : List Do.Chg} {N : Nat} {p : Pa.Pt} (hI : Pa.Inv bf cs N p) : ∀ c ∈ Do.there cs, c.doc.size ≤ 40 := by
  intro c hc
  rw [← hI.there, List.mem_map] at hc
  obtain ⟨g, hg, rfl⟩ := hc
  exact hI.small g (List.mem_filter.1 hg).1

theorem SIn.occ {w : World} {x : Nat} {b : Box} {bf : Nat} {cs : List Do.Chg} {N : Nat} {p : Pa.Pt} (h : SIn w x b bf p) (hI : Pa.Inv bf cs N p) (hbf : bf ≤ 80) (hth : (Do.there cs).length ≤ 60) (s : ByteArray) (hs : 1 ≤ s.size ∧ s.size ≤ 16) : Occ x b s (Do.hits (Do.there cs) s.data.toList) w where
  call := by
    intro w' hb
    have h' := h.below hb
    obtain ⟨lm, m1, m2, m3⟩ := h'.main
    have hall := hI.all_wt hbf hth
    have hlm : lm.length ≤ 6000 := by
      rw [m2.length_eq, Lx.rows_len]
      unfold Pa.Pt.docs at hall
      rw [Pa.wt_append, Pa.wt_append] at hall
      omega
    have hne : s.data.toList ≠ [] := by
      intro e
      have : s.data.toList.length = s.size := rfl
      rw [e] at this
      simp at this; omega
    refine (occ_any x b 0 lm (tag p) s w' ⟨h'.lex.box, m1⟩ m3 hlm (fun r hr => rows_docs p.main (fun g hg => hI.small g (by unfold Pa.Pt.docs; simp [hg])) r (m2.subset hr)) hs (tag_few hI hbf hth) (tag_small hI) h'.docs).mono ?_
    rintro e w'' ⟨u, he, hu, hb'⟩
    refine ⟨u, _, he, hu, ?_, hb'⟩
    have := occ_perm hI.rise m2 s.data.toList hne
    rw [tag_there hI] at this
    rw [tag_there hI]
    exact this
  rise := Do.hits_rise _ _ (there_rise hI)
  few := by
    have h1 := Do.hits_size (Do.there cs) s.data.toList
    have h2 := hI.alive_wt hth
    have h3 := aw_wt (Pa.alive p.docs)
    unfold aw at h3
    rw [hI.there] at h3
    omega
theorem hits_small {bf : Nat} {cs : List Do.Chg} {N : Nat} {p : Pa.Pt} (hI : Pa.Inv bf cs N p) (s : List UInt8) : ∀ o ∈ Do.hits (Do.there cs) s, o.at' ≤ 1000 := by
  intro o ho
  obtain ⟨i, c, _, hc, _, h2⟩ := Do.hitsTo_mem _ _ _ o ho
  have := there_doc hI c (List.mem_of_getElem? hc)
  omega

theorem code_new (a b p : Int) (w : World) (h : okc a b p) : Calls Try.prog 28 #[.agg #[.int .i64 a, .int .i64 b, .int .i64 p]] w fun e w' => ∃ x F, e = .returned (.tuple #[.pointer (some ⟨x, 0, none⟩), .int .i64 0]) ∧ CIdx w' x a b p [] F ∧ (∀ k, F k → w.heap.size ≤ k) ∧ Below w.heap.size w w' := by
  refine (cNew_ok a b p w ⟨h.1, h.2.1⟩ ⟨h.2.2.1, h.2.2.2.1⟩ h.2.2.2.2).mono ?_
  rintro e w' ⟨r, he, hr, hra, hb⟩
  obtain ⟨bf, rfl⟩ := Int.eq_ofNat_of_zero_le (show 0 ≤ b by have := h.2.2.1; omega)
  have hnil : ∀ k, (Value.slice none 0 0).ownBlock ≠ some k := fun k hk => by simp [Value.ownBlock] at hk
  have hfoot : ∀ k, sfoot r (newBox a (bf : Int) p) k → k = r := by
    intro k hk
    rcases hk with hk | hk | hk | hk | hk | hk
    · exact absurd hk (hnil k)
    · exact absurd hk (hnil k)
    · exact hk
    · exact absurd hk (hnil k)
    · exact absurd hk (hnil k)
    · exact absurd hk (hnil k)
  have hap : ∀ u : Value, ap (.slice none 0 0) u := fun u k hk => absurd hk (hnil k)
  have hS : SIn w' r (newBox a (bf : Int) p) bf (Pa.parts bf []) := by
    refine ⟨World.ownsRow_nil _ _ _ _, rfl, rfl, rfl, rfl, ⟨[], OwnR.nil _ _, List.Perm.refl _, ?_⟩, ?_, fun _ => OwnR.nil _ _, hap _, hap _, hap _, hap _⟩
    · intro i j c d _ hc; simp at hc
    · refine ⟨hra, .inl ⟨rfl, none, 0, rfl, fun _ hh => nomatch hh⟩, OwnR.nil _ _, rfl, OwnR.nil _ _, rfl, rfl, rfl, hap _, hap _, hap _⟩
  exact ⟨r, fun k => k = r, he, ⟨newBox a (bf : Int) p, bf, rfl, hS, rfl, rfl, rfl, rfl, Pa.Inv.start bf (by have := h.2.2.1; omega), Nat.le_refl _, hfoot, fun k hk => by rw [hk]; exact hra.lt, h, by decide⟩, fun k hk => by rw [hk]; exact hr, hb⟩

theorem code_ins {w : World} {x : Nat} {a b p : Int} {cs : List Do.Chg} {F : Nat → Prop} (s : ByteArray) (hl : cs.length ≤ 9000000000000) (h : CIdx w x a b p cs F) :
    Calls Try.prog 21 #[.pointer (some ⟨x, 0, none⟩), .string s] w fun e w' => e = .returned (.tuple #[.int .i64 (insRes cs a s).1, .int .i64 (insRes cs a s).2.1]) ∧ Only F w w' ∧ ∃ G, CIdx w' x a b p (insRes cs a s).2.2 G ∧ ∀ k, G k → F k ∨ w.heap.size ≤ k := by
  have h' := h
  obtain ⟨bx, bf, h1, h2, h3, h4, h5, h6, h7, h8, h9, h10, h11, h12⟩ := h
  have hbf : bf ≤ 80 := by have := h11.2.2.2.1; omega
  unfold insRes
  by_cases c1 : 40 < s.size
  · rw [if_pos c1]
    refine (cInsert_long x s w c1).mono ?_
    rintro e w' ⟨he, hw⟩
    exact ⟨he, h'.stay (by rw [hw]; exact Below.refl _ _)⟩
  · rw [if_neg c1]
    by_cases c2 : a < (Do.size (Do.there cs) : Int) + s.size ∨ 60 ≤ (Do.there cs).length
    · rw [if_pos c2]
      refine (cInsert_full x bx bf _ _ a cs s w hbf h2 h7 h12 (by omega) ⟨h11.1, h11.2.1⟩ h3 c2).mono ?_
      rintro e w' ⟨he, hb⟩
      exact ⟨he, h'.stay hb⟩
    · rw [if_neg c2]
      have hit := insTo_le cs cs.length
      refine (cInsert_ok x bx bf _ (insTo cs cs.length) cs.length a cs s w hbf h2 h7 (by omega) (by omega) ⟨h11.1, h11.2.1⟩ h3 (by omega) h5 (by omega) (by omega) h6 (by omega)).mono ?_
      rintro e w' ⟨he, b', q1, q2, q3, q4⟩
      refine ⟨he, q3.mono h9, fun k => sfoot x b' k, ⟨b', bf, h1, ?_, q2.1.trans h3, q2.2.2.1.trans h4, ?_, ?_, ?_, ?_, fun k hk => hk, fun k hk => q1.lt k hk, h11, ?_⟩, fun k hk => (q4 k hk).imp (h9 k) (fun h => h)⟩
      · rw [Pa.parts_more]; exact q1
      · rw [insTo_more]
        simpa using q2.2.2.2.1
      · simpa using q2.2.2.2.2
      · have := h7.insert hbf (by omega) s (by omega)
        rw [insTo_more]
        simpa using this
      · rw [Pa.parts_more]
        have := hand_more bf (Pa.parts bf cs) ⟨true, s, insTo cs cs.length⟩
        simp only [List.length_append, List.length_singleton]
        omega
      · rw [Do.there_ins _ _ rfl]; simp; omega

theorem code_del {w : World} {x : Nat} {a b p : Int} {cs : List Do.Chg} {F : Nat → Prop} (id : Int) (hl : cs.length ≤ 9000000000000) (h : CIdx w x a b p cs F) :
    Calls Try.prog 23 #[.pointer (some ⟨x, 0, none⟩), .int .i64 id] w fun e w' => e = .returned (.int .i64 (delRes cs id).1) ∧ Only F w w' ∧ ∃ G, CIdx w' x a b p (delRes cs id).2 G ∧ ∀ k, G k → F k ∨ w.heap.size ≤ k := by
  have h' := h
  obtain ⟨bx, bf, h1, h2, h3, h4, h5, h6, h7, h8, h9, h10, h11, h12⟩ := h
  have hbf : bf ≤ 80 := by have := h11.2.2.2.1; omega
  have hit := insTo_le cs cs.length
  unfold delRes
  cases hat : Do.at? (Do.there cs) id with
  | none =>
    refine (cDelete_none x bx (tag (Pa.parts bf cs)) id w (tag_few h7 hbf h12) h2.lex.box h2.docs (by rw [tag_there h7]; unfold fdRes; rw [hat])).mono ?_
    rintro e w' ⟨he, hb⟩
    exact ⟨he, h'.stay hb⟩
  | some k =>
    obtain ⟨c, hc, hid⟩ := at_get _ _ _ hat
    subst hid
    simp only [hc]
    have hcd := there_doc h7 c (List.mem_of_getElem? hc)
    refine (cDelete_ok x bx bf _ (insTo cs cs.length) cs.length cs c.id c.doc w hbf h2 h7 h12 hcd (by rw [tag_there h7]; unfold fdRes; rw [hat]; simp only [hc]) (by omega) (by omega) h6 (by omega)).mono ?_
    rintro e w' ⟨he, b', q1, q2, q3, q4⟩
    have ht : ((c.id : Int)).toNat = c.id := Int.toNat_natCast _
    rw [ht]
    refine ⟨he, q3.mono h9, fun k => sfoot x b' k, ⟨b', bf, h1, ?_, q2.1.trans h3, q2.2.2.1.trans h4, ?_, ?_, ?_, ?_, fun k hk => hk, fun k hk => q1.lt k hk, h11, ?_⟩, fun k hk => (q4 k hk).imp (h9 k) (fun h => h)⟩
    · rw [Pa.parts_more]; exact q1
    · rw [insTo_more]
      have := q2.2.2.2.1.trans h5
      simpa using this
    · simpa using q2.2.2.2.2
    · have := h7.delete hbf h12 c.doc hcd c.id
      rw [insTo_more]
      simpa using this
    · rw [Pa.parts_more]
      have := hand_more bf (Pa.parts bf cs) ⟨false, c.doc, c.id⟩
      simp only [List.length_append, List.length_singleton]
      omega
    · rw [Do.there_del _ _ rfl]; exact Nat.le_trans (List.length_filter_le _ _) h12

theorem code_ext {w : World} {x : Nat} {a b p : Int} {cs : List Do.Chg} {F : Nat → Prop} (id f t : Int) (h : CIdx w x a b p cs F) :
    Calls Try.prog 60 #[.pointer (some ⟨x, 0, none⟩), .int .i64 id, .int .i64 f, .int .i64 t] w fun e w' => e = .returned (.tuple #[.string (exRes (Do.there cs) id f t).1, .int .i64 (exRes (Do.there cs) id f t).2]) ∧ Below w.heap.size w w' := by
  obtain ⟨bx, bf, h1, h2, h3, h4, h5, h6, h7, h8, h9, h10, h11, h12⟩ := h
  have hbf : bf ≤ 80 := by have := h11.2.2.2.1; omega
  unfold exRes
  cases hat : Do.at? (Do.there cs) id with
  | none => exact cExtract_none x bx _ id f t w (tag_few h7 hbf h12) h2.lex.box h2.docs (by rw [tag_there h7]; exact hat)
  | some k =>
    obtain ⟨c, hc, hid⟩ := at_get _ _ _ hat
    simp only [hc]
    refine (cExtract_some x bx _ id f t k c w (tag_few h7 hbf h12) h2.lex.box h2.docs (by rw [tag_there h7]; exact hat) (by rw [tag_there h7]; exact hc) (there_doc h7 c (List.mem_of_getElem? hc))).mono ?_
    rintro e w' ⟨he, hb⟩
    refine ⟨?_, hb⟩
    rw [he]
    split <;> rfl

theorem code_cnt {w : World} {x : Nat} {a b p : Int} {cs : List Do.Chg} {F : Nat → Prop} (s : ByteArray) (h : CIdx w x a b p cs F) :
    Calls Try.prog 62 #[.pointer (some ⟨x, 0, none⟩), .string s] w fun e w' => e = .returned (.tuple #[.int .i64 (cntRes cs s).1, .int .i64 (cntRes cs s).2]) ∧ Below w.heap.size w w' := by
  obtain ⟨bx, bf, h1, h2, h3, h4, h5, h6, h7, h8, h9, h10, h11, h12⟩ := h
  have hbf : bf ≤ 80 := by have := h11.2.2.2.1; omega
  unfold cntRes
  by_cases c1 : s.size < 1 ∨ 16 < s.size
  · rw [if_pos c1]
    exact (cxCount_no x s w c1).mono fun e w' ⟨he, hw⟩ => ⟨he, by rw [hw]; exact Below.refl _ _⟩
  · rw [if_neg c1]
    exact cxCount_ok x bx _ s w (h2.occ h7 hbf h12 s (by omega)) (by omega)

theorem code_loc {w : World} {x : Nat} {a b p : Int} {cs : List Do.Chg} {F : Nat → Prop} (s : ByteArray) (n i t : Int) (h : CIdx w x a b p cs F) :
    Calls Try.prog 20 #[.pointer (some ⟨x, 0, none⟩), .string s, .int .i64 n, .int .i64 i, .int .i64 t] w fun e w' => ∃ v, e = .returned (.tuple #[v, .bool (locRes cs p s n i t).2.1, .int .i64 (locRes cs p s n i t).2.2]) ∧ OwnO w' w.heap.size v (locRes cs p s n i t).1 ∧ Below w.heap.size w w' := by
  obtain ⟨bx, bf, h1, h2, h3, h4, h5, h6, h7, h8, h9, h10, h11, h12⟩ := h
  have hbf : bf ≤ 80 := by have := h11.2.2.2.1; omega
  unfold locRes
  by_cases c1 : s.size < 1 ∨ 16 < s.size
  · rw [if_pos c1]
    exact (cLocate_no x s n i t w c1).mono fun e w' ⟨he, hw⟩ => ⟨_, he, World.ownsRow_nil _ _ _ _, by rw [hw]; exact Below.refl _ _⟩
  · rw [if_neg c1]
    by_cases c2 : n ≠ (cs.length : Int)
    · rw [if_pos c2]
      exact (cLocate_stale x bx _ s n i t w h2.lex.box h6 (by omega) c2).mono fun e w' ⟨he, hw⟩ => ⟨_, he, World.ownsRow_nil _ _ _ _, by rw [hw]; exact Below.refl _ _⟩
    · rw [if_neg c2]
      have hn : n = (cs.length : Int) := by omega
      subst hn
      obtain ⟨q, rfl⟩ := Int.eq_ofNat_of_zero_le (show 0 ≤ p by have := h11.2.2.2.2.1; omega)
      exact cLocate_ok x bx q _ _ s i t w (h2.occ h7 hbf h12 s (by omega)) (hits_small h7 _) h2.lex.box h4 h6 (by have := h11.2.2.2.2; omega) (by omega)

theorem code_lst {w : World} {x : Nat} {a b p : Int} {cs : List Do.Chg} {F : Nat → Prop} (t n : Int) (h : CIdx w x a b p cs F) :
    Calls Try.prog 58 #[.pointer (some ⟨x, 0, none⟩), .int .i64 t, .int .i64 n] w fun e w' => ∃ v, e = .returned (.tuple #[v, .int .i64 (lstRes cs t n).2]) ∧ OwnV w' w.heap.size v (lstRes cs t n).1 ∧ Below w.heap.size w w' := by
  obtain ⟨bx, bf, h1, h2, h3, h4, h5, h6, h7, h8, h9, h10, h11, h12⟩ := h
  have hbf : bf ≤ 80 := by have := h11.2.2.2.1; omega
  unfold lstRes
  by_cases c1 : n < 1 ∨ 8 < n
  · rw [if_pos c1]
    exact (cList_arg x t n w c1).mono fun e w' ⟨he, hw⟩ => ⟨_, he, World.ownsRow_nil _ _ _ _, by rw [hw]; exact Below.refl _ _⟩
  · rw [if_neg c1]
    obtain ⟨q, rfl⟩ := Int.eq_ofNat_of_zero_le (show 0 ≤ n by omega)
    have := cList_ok x bx _ t q w (tag_few h7 hbf h12) h2.lex.box h2.docs (by omega)
    rw [tag_there h7] at this
    exact this

theorem code_ver {w : World} {x : Nat} {a b p : Int} {cs : List Do.Chg} {F : Nat → Prop} (h : CIdx w x a b p cs F) :
    Calls Try.prog 11 #[.pointer (some ⟨x, 0, none⟩)] w fun e w' => e = .returned (.int .i64 (cs.length : Int)) ∧ Below w.heap.size w w' := by
  obtain ⟨bx, bf, h1, h2, h3, h4, h5, h6, _⟩ := h
  exact (cVersion_any x bx _ w h2.lex.box h6).mono fun e w' ⟨he, hw⟩ => ⟨he, by rw [hw]; exact Below.refl _ _⟩

theorem CIdx.lt {w : World} {x : Nat} {a b p : Int} {cs : List Do.Chg} {F : Nat → Prop} (h : CIdx w x a b p cs F) : ∀ k, F k → k < w.heap.size := by
  obtain ⟨bx, bf, _, _, _, _, _, _, _, _, _, h10, _⟩ := h
  exact h10
theorem CIdx.frame {w w' : World} {x : Nat} {a b p : Int} {cs : List Do.Chg} {F : Nat → Prop} (h : CIdx w x a b p cs F) (hsz : w.heap.size ≤ w'.heap.size) (hfr : ∀ k, F k → w'.heap[k]? = w.heap[k]?) : CIdx w' x a b p cs F := by
  obtain ⟨bx, bf, h1, h2, h3, h4, h5, h6, h7, h8, h9, h10, h11, h12⟩ := h
  exact ⟨bx, bf, h1, h2.frame hsz (fun k hk => hfr k (h9 k hk)), h3, h4, h5, h6, h7, h8, h9, fun k hk => Nat.lt_of_lt_of_le (h10 k hk) hsz, h11, h12⟩
theorem CIdx.wide {w : World} {x : Nat} {a b p : Int} {cs : List Do.Chg} {F G : Nat → Prop} (h : CIdx w x a b p cs F) (hfg : ∀ k, F k → G k) (hg : ∀ k, G k → k < w.heap.size) : CIdx w x a b p cs G := by
  obtain ⟨bx, bf, h1, h2, h3, h4, h5, h6, h7, h8, h9, h10, h11, h12⟩ := h
  exact ⟨bx, bf, h1, h2, h3, h4, h5, h6, h7, h8, fun k hk => hfg k (h9 k hk), hg, h11, h12⟩

theorem code_serves : Serves CIdx 28 21 23 60 62 20 58 11 where
  lt := CIdx.lt
  frame := CIdx.frame
  wide := CIdx.wide
  new_ok := code_new
  new_no := cNew_no
  insert := fun s hl _ h => code_ins s (by omega) h
  delete := fun id hl _ h => code_del id (by omega) h
  extract := fun id f t _ _ _ _ h => code_ext id f t h
  count := fun s _ _ h => code_cnt s h
  locate := fun s n i t _ _ _ _ _ h => code_loc s n i t h
  list := fun t n _ _ _ h => code_lst t n h
  version := fun _ h => code_ver h

end Go.Proofs.Ythkndfkkgncjfab
