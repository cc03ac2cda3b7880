/- RefG, RefH, DocD, ArgA, RefS. -/
import Derived.Test.YthkndfkkgncjfabRefSJB
import Derived.Test.YthkndfkkgncjfabRefSJA
import Derived.Test.YthkndfkkgncjfabProg
import Derived.ProofKit
import Derived.OpenShut
import Derived.Deep.Slices
import Derived.KernelRfl
namespace Go.Proofs.Ythkndfkkgncjfab
open Go.RowKit
set_option maxRecDepth 100000

theorem Try.info44 : (Try.prog.info? 44).map (fun i => (i.zero, i.size, i.bytes)) = some (some (.agg #[.int .i64 0, .int .i64 0]), 2, 16) := by kernel_rfl

/-- occurrences as cells -/
def OC1 (o : Do.Oc) : List Value := [.int .i64 (o.id : Int), .int .i64 (o.at' : Int)]
def OC (l : List Do.Oc) : List Value := l.flatMap OC1
theorem OC_append (a b : List Do.Oc) : OC (a ++ b) = OC a ++ OC b := by simp [OC]
theorem OC_get (l : List Do.Oc) (k j : Nat) (o : Do.Oc) (ho : l[k]? = some o) (hj : j < 2) : (OC l)[k * 2 + j]? = (OC1 o)[j]? := by
  induction l generalizing k with
  | nil => simp at ho
  | cons d r ih =>
    cases k with
    | zero =>
      simp at ho; subst ho
      show (OC1 d ++ OC r)[0 * 2 + j]? = _
      rw [Nat.zero_mul, Nat.zero_add, List.getElem?_append_left (by show j < 2; exact hj)]
    | succ k =>
      simp at ho
      show (OC1 d ++ OC r)[(k + 1) * 2 + j]? = _
      rw [List.getElem?_append_right (by show 2 ≤ _; omega), ← ih k ho]
      congr 1
      show (k + 1) * 2 + j - 2 = _; omega
/-- a row of occurrences -/
def OwnO (w : World) (B : Nat) (v : Value) (l : List Do.Oc) : Prop := w.ownsRow B 44 2 v l.length (OC l)
theorem OwnO.below {w w' : World} {B : Nat} {v : Value} {l : List Do.Oc} (h : OwnO w B v l) (hb : Below w.heap.size w w') : OwnO w' B v l := row_below h hb
theorem OwnO.shape {w : World} {B : Nat} {v : Value} {l : List Do.Oc} (h : OwnO w B v l) : (v = .slice none 0 0 ∧ l = []) ∨ (∃ g cap, v = .slice (some ⟨g, 0, none⟩) l.length cap ∧ B ≤ g ∧ g < w.heap.size) := by
  rcases h.2 with ⟨e, hn⟩ | ⟨g, cap, cur, e, hB, hg, _⟩
  · left
    refine ⟨e, ?_⟩
    cases l with
    | nil => rfl
    | cons c r => simp at hn
  · right
    exact ⟨g, cap, e, hB, lt_of_block hg⟩
theorem OwnO.shape2 {w : World} {B : Nat} {v : Value} {l : List Do.Oc} (h : OwnO w B v l) : ∃ ao cap, v = .slice ao l.length cap := by
  rcases h.shape with ⟨rfl, rfl⟩ | ⟨g, cap, rfl, _, _⟩
  · exact ⟨none, 0, rfl⟩
  · exact ⟨_, cap, rfl⟩
theorem OwnO.cell {w : World} {B g cap n : Nat} {l : List Do.Oc} (h : OwnO w B (.slice (some ⟨g, 0, none⟩) n cap) l) (hn : l.length = n) (k : Nat) (o : Do.Oc) (ho : l[k]? = some o) :
    w.cell? ⟨g, k * 2, none⟩ = some (.int .i64 (o.id : Int)) ∧ w.cell? ⟨g, k * 2 + 1, none⟩ = some (.int .i64 (o.at' : Int)) := by
  subst hn
  have hk : k < l.length := by
    rcases Nat.lt_or_ge k l.length with h | h
    · exact h
    · rw [List.getElem?_eq_none h] at ho; cases ho
  refine ⟨?_, ?_⟩
  · rw [World.ownsRow.cellAt h (k * 2) (by omega)]
    have := OC_get l k 0 o ho (by omega)
    simpa [OC1] using this
  · rw [World.ownsRow.cellAt h (k * 2 + 1) (by omega)]
    have := OC_get l k 1 o ho (by omega)
    simpa [OC1] using this
theorem kinds_apartO {w : World} {B C : Nat} {v1 v2 : Value} {n1 n2 : Nat} {x1 x2 : List Value} (h1 : w.ownsRow B 149 3 v1 n1 x1) (h2 : w.ownsRow C 44 2 v2 n2 x2) : v1.ownBlock = none ∨ v1.ownBlock ≠ v2.ownBlock := by
  rcases h1.2 with ⟨e1, _⟩ | ⟨g1, cap1, cur1, e1, _, hg1, _⟩
  · left; rw [e1]; rfl
  · right
    rcases h2.2 with ⟨e2, _⟩ | ⟨g2, cap2, cur2, e2, _, hg2, _⟩
    · rw [e1, e2]; simp [Value.ownBlock]
    · rw [e1, e2]
      intro e
      simp [Value.ownBlock] at e
      rw [e, hg2] at hg1
      simp at hg1
theorem oc_step {w w1 w0 : World} {B C : Nat} {v v' f : Value} {m : List Do.Oc} {cs : List Do.Chg} {b : Do.Oc} {o : Obj} (hf : OwnC w C f cs) (hu : OwnO w B v m) (hbl : Below B w0 w) (hB : B ≤ w.heap.size)
    (h1 : w1.ownsRow B 44 2 v' (m.length + 1) (OC m ++ OC1 b)) (h2 : (w.alloc o).grownBy w1 v.ownBlock) : OwnC w1 C f cs ∧ OwnO w1 B v' (m ++ [b]) ∧ Below B w0 w1 := by
  have hf' : OwnC (w.alloc o) C f cs := World.ownsRow.alloc hf o
  have hu' : OwnO (w.alloc o) B v m := World.ownsRow.alloc hu o
  refine ⟨World.ownsRow.kept hf' h2 (kinds_apartO hf' hu'), ?_, (hbl.alloc hB o).grown h2 (by simp; omega) (fun k hk => (World.ownsRow.lt hu k hk).1)⟩
  unfold OwnO
  rw [OC_append, List.length_append]
  have : OC [b] = OC1 b := by simp [OC]
  rw [this]; exact h1

set_option maxHeartbeats 2000000 in
theorem hits_any (r : Nat) (a b p : Int) (cs : List Do.Chg) (s : ByteArray) (w : World) (hl : cs.length ≤ 2000000000000) (hth : (Do.there cs).length ≤ 1000) (hd : ∀ c ∈ cs, c.doc.size ≤ 40) (h : IdxAt w r a b p cs) (hs : s.size ≤ 1000000) :
    Calls Try.prog 89 #[.pointer (some ⟨r, 0, none⟩), .string s] w fun e w' => ∃ v, e = .returned v ∧ OwnO w' w.heap.size v (Do.hits (Do.there cs) s.data.toList) ∧ Below w.heap.size w w' := by
  obtain ⟨i0, hi, hz0, hz1, hz2⟩ := info_parts Try.info44
  have hlen : (Do.there cs).length ≤ 1000 := hth
  obtain ⟨L, hL⟩ : ∃ L, Do.there cs = L := ⟨_, rfl⟩
  have HTH : Hid (Do.there cs = L) := hL
  have hdL : Hid (∀ c ∈ L, c.doc.size ≤ 40) := fun c hc => hd c (there_mem cs _ c (by rw [← hL] at hc; exact hc))
  rw [hL] at hlen
  clear hth
  rw [hL]
  clear hL hd
  go_enter Try.func89, Try.ntmps89
  go_wp2_with fail
  refine (there_any r a b p cs _ (by omega) h).mono ?_
  rintro e w1 ⟨u, rfl, hu, hb1⟩
  rw [HTH.out] at hu
  clear HTH h
  rcases hu.shape with ⟨rfl, rfl⟩ | ⟨g, cap, rfl, _, _⟩
  · go_wp2
    refine wp_loop_rounds 1 ?_
    rw [rounds_succ]
    go_wp2
    go_ret
    exact ⟨_, rfl, World.ownsRow_nil _ _ _ _, hb1⟩
  · go_wp2
    go_loopw [6, 7] (fun v i wr => ∃ k : Nat, k ≤ L.length ∧ i = .int .i64 k ∧ OwnO wr w.heap.size v (Do.hitsTo L s.data.toList k) ∧ OwnC wr w.heap.size (.slice (some ⟨g, 0, none⟩) L.length cap) L ∧ Below w.heap.size w wr) (fun _ i _ => L.length - (intOf i).toNat)
    case atStart => exact ⟨0, Nat.zero_le _, rfl, World.ownsRow_nil _ _ _ _, hu, hb1⟩
    case round =>
      obtain ⟨k, hk, rfl, ho, hc, hb⟩ := hrel
      clear hu hb1
      obtain ⟨wo, hwo⟩ : ∃ wo, wo = wr := ⟨_, rfl⟩
      subst hwo
      by_cases hlt : k < L.length
      · obtain ⟨c, hck⟩ : ∃ c, L[k]? = some c := ⟨L[k], List.getElem?_eq_getElem hlt⟩
        have hc40 := hdL.out c (List.mem_of_getElem? hck)
        have hto := Do.hitsTo_len L s.data.toList hdL.out k
        have HC : Hid (L[k]? = some c) := hck
        clear hck
        have hkd : decide ((k : Int) < (L.length : Int)) = true := by rw [decide_eq_true_eq]; omega
        go_wp2
        go_loopw [6, 8] (fun v i wr => ∃ j : Nat, j ≤ c.doc.size ∧ i = .int .i64 j ∧ OwnO wr w.heap.size v (Do.hitsTo L s.data.toList k ++ Do.hitsIn c s.data.toList j) ∧ OwnC wr w.heap.size (.slice (some ⟨g, 0, none⟩) L.length cap) L ∧ Below w.heap.size w wr) (fun _ i _ => c.doc.size - (intOf i).toNat)
        case atStart => exact ⟨0, Nat.zero_le _, rfl, by simpa [Do.hitsIn] using ho, hc, hb⟩
        case round =>
          obtain ⟨j, hj, rfl, ho2, hc2, hb2⟩ := hrel
          clear ho hc hb
          obtain ⟨_, x1, x2⟩ := hc2.cell rfl k c HC.out
          have hin := Do.hitsIn_len c s.data.toList j
          have hal : (Do.hitsTo L s.data.toList k ++ Do.hitsIn c s.data.toList j).length ≤ 40 * k + j := by rw [List.length_append]; omega
          by_cases hjd : j < c.doc.size
          · obtain ⟨q, hq⟩ : ∃ q, Fo.pre c.doc.data.toList s.data.toList j = q := ⟨_, rfl⟩
            have HQ : Hid (Fo.pre (c.doc.extract j c.doc.size).data.toList s.data.toList 0 = q) := by show Fo.pre (c.doc.extract j c.doc.size).data.toList s.data.toList 0 = q; rw [Lib.extract_to_end, pre_drop]; exact hq
            have HP : Hid (Fo.pre c.doc.data.toList s.data.toList j = q) := hq
            clear hq
            cases q
            · go_wp2_with fail
              refine (begins_at _ _ false HQ.out _ (ext_le c.doc j (by omega)) (by omega)).mono ?_
              rintro e w2 ⟨rfl, hw2⟩; rw [hw2]; clear hw2
              go_wp2
              go_roundw
              case rel => exact ⟨j + 1, by omega, by go_num, by rw [Do.hitsIn_miss c _ j HP.out]; exact ho2, hc2, hb2⟩
              case measure => simp [intOf]; omega
            · go_wp2_with fail
              refine (begins_at _ _ true HQ.out _ (ext_le c.doc j (by omega)) (by omega)).mono ?_
              rintro e w2 ⟨rfl, hw2⟩; rw [hw2]; clear hw2
              go_wp2_with (at_builtin; refine wpList_append_own _ rfl _ _ 31 rfl w.heap.size 44 i0 (.agg #[.int .i64 0, .int .i64 0]) 2 16 Try.underlying31 hi hz0 hz1 hz2 rfl (by decide) _ _ _ rfl (World.ownsRow.alloc ho2 _) ⟨wr.heap.size, 0, none⟩ 1 1 (OC1 ⟨c.id, j⟩) rfl rfl (World.news_of_block (cs := #[.int .i64 (c.id : Int), .int .i64 (j : Int)]) (heap_alloc_new wr _)) (by intro u hu2; simp [OC1] at hu2; rcases hu2 with rfl | rfl <;> rfl) (by unfold maxLen; omega) (by omega) (by have := hb2.size; simp; omega) ?_; intro v' w3 hown3 hgrow3 _)
              have R := oc_step hc2 ho2 hb2 hb2.size hown3 hgrow3
              clear hown3 hgrow3 ho2 hb2 hc2
              go_wp2
              go_roundw
              case rel => exact ⟨j + 1, by omega, by go_num, by rw [Do.hitsIn_hit c _ j HP.out, ← List.append_assoc]; exact R.2.1, R.1, R.2.2⟩
              case measure => simp [intOf]; omega
          · have hje : j = c.doc.size := by omega
            subst hje
            go_wp2
            go_roundw
            case rel => exact ⟨k + 1, by omega, by go_num, by rw [Do.hitsTo_succ L _ k c HC.out]; exact ho2, hc2, hb2⟩
            case measure => simp [intOf]; omega
      · have hke : k = L.length := by omega
        subst hke
        go_wp2
        go_ret
        exact ⟨_, rfl, ho, hb⟩

end Go.Proofs.Ythkndfkkgncjfab

namespace Go.Proofs.Ythkndfkkgncjfab
open Go.RowKit
set_option maxRecDepth 100000

set_option maxHeartbeats 400000 in
theorem rCount_no (r : Nat) (s : ByteArray) (w : World) (h : s.size < 1 ∨ 16 < s.size) :
    Calls Try.prog 63 #[.pointer (some ⟨r, 0, none⟩), .string s] w fun e w' => e = .returned (.tuple #[.int .i64 0, .int .i64 5]) ∧ w' = w := by
  rcases h with h | h
  · have h0 : decide ((s.size : Int) < 1) = true := by rw [decide_eq_true_eq]; omega
    go_enter Try.func63, Try.ntmps63
    go_wp2
    go_ret2
    exact ⟨rfl, rfl⟩
  · have h0 : ¬ s.size < 1 := by omega
    go_enter Try.func63, Try.ntmps63
    go_wp2
    go_ret2
    exact ⟨rfl, rfl⟩

set_option maxHeartbeats 400000 in
theorem rCount_ok (r : Nat) (a b p : Int) (cs : List Do.Chg) (s : ByteArray) (w : World) (hl : cs.length ≤ 2000000000000) (hth : (Do.there cs).length ≤ 1000) (hd : ∀ c ∈ cs, c.doc.size ≤ 40) (h : IdxAt w r a b p cs) (hs : 1 ≤ s.size ∧ s.size ≤ 16) :
    Calls Try.prog 63 #[.pointer (some ⟨r, 0, none⟩), .string s] w fun e w' => e = .returned (.tuple #[.int .i64 ((Do.hits (Do.there cs) s.data.toList).length : Int), .int .i64 0]) ∧ Below w.heap.size w w' := by
  obtain ⟨hs1, hs2⟩ := hs
  have HD : Hid (∀ c ∈ cs, c.doc.size ≤ 40) := hd
  clear hd
  go_enter Try.func63, Try.ntmps63
  go_wp2_with fail
  refine (hits_any r a b p cs s _ hl hth HD.out h (by omega)).mono ?_
  rintro e w1 ⟨v, rfl, ho, hb⟩
  obtain ⟨ao, cap, rfl⟩ := ho.shape2
  go_wp2_with fail
  go_ret2
  exact ⟨rfl, hb⟩

set_option maxHeartbeats 400000 in
theorem rLocate_no (r : Nat) (s : ByteArray) (n i t : Int) (w : World) (h : s.size < 1 ∨ 16 < s.size) :
    Calls Try.prog 64 #[.pointer (some ⟨r, 0, none⟩), .string s, .int .i64 n, .int .i64 i, .int .i64 t] w fun e w' => e = .returned (.tuple #[.slice none 0 0, .bool false, .int .i64 5]) ∧ w' = w := by
  rcases h with h | h
  · have h0 : decide ((s.size : Int) < 1) = true := by rw [decide_eq_true_eq]; omega
    go_enter Try.func64, Try.ntmps64
    go_wp2
    go_ret3
    exact ⟨rfl, rfl⟩
  · have h0 : ¬ s.size < 1 := by omega
    go_enter Try.func64, Try.ntmps64
    go_wp2
    go_ret3
    exact ⟨rfl, rfl⟩

set_option maxHeartbeats 400000 in
theorem rLocate_stale (r : Nat) (a b p : Int) (cs : List Do.Chg) (s : ByteArray) (n i t : Int) (w : World) (h : IdxAt w r a b p cs) (hs : 1 ≤ s.size ∧ s.size ≤ 16) (hn : n ≠ (cs.length : Int)) :
    Calls Try.prog 64 #[.pointer (some ⟨r, 0, none⟩), .string s, .int .i64 n, .int .i64 i, .int .i64 t] w fun e w' => e = .returned (.tuple #[.slice none 0 0, .bool false, .int .i64 6]) ∧ w' = w := by
  obtain ⟨hs1, hs2⟩ := hs
  obtain ⟨v, h1, h2⟩ := h
  obtain ⟨ao, cap, rfl⟩ := h2.shape2
  have c3 := h1.c3
  have hb : (n != (cs.length : Int)) = true := by rw [bne_iff_ne]; exact hn
  clear hn
  go_enter Try.func64, Try.ntmps64
  go_wp2
  go_ret3
  exact ⟨rfl, rfl⟩

theorem OwnO.weaken {w : World} {B C : Nat} {v : Value} {l : List Do.Oc} (h : OwnO w B v l) (hc : C ≤ B) : OwnO w C v l := by
  refine ⟨h.1, ?_⟩
  rcases h.2 with hn | ⟨g1, cap, cur, e, hB, rest⟩
  · exact .inl hn
  · exact .inr ⟨g1, cap, cur, e, Nat.le_trans hc hB, rest⟩
theorem before_eq (o : Do.Oc) (i t : Int) : Do.before o i t = (decide ((o.id : Int) < i) || ((o.id : Int) == i && decide ((o.at' : Int) < t))) := rfl

theorem oc_apart {w : World} {B C g : Nat} {v1 v2 : Value} {n1 n2 : Nat} {x1 x2 : List Value} (_h1 : w.ownsRow B 44 2 v1 n1 x1) (h2 : w.ownsRow C 44 2 v2 n2 x2) (hg : v1.ownBlock = some g) (hlt : g < C) : v1.ownBlock ≠ v2.ownBlock := by
  intro e
  rw [hg] at e
  have := (World.ownsRow.lt h2 g e.symm).1
  omega
/-- one occurrence more on a page, the whole list beside it, below -/
theorem page_step {w w1 w0 : World} {B C g cap : Nat} {v v' : Value} {m l : List Do.Oc} {b : Do.Oc} {o : Obj} {n : Nat} (hf : OwnO w C (.slice (some ⟨g, 0, none⟩) n cap) l) (hgB : g < B) (hu : OwnO w B v m) (hbl : Below B w0 w) (hB : B ≤ w.heap.size)
    (h1 : w1.ownsRow B 44 2 v' (m.length + 1) (OC m ++ OC1 b)) (h2 : (w.alloc o).grownBy w1 v.ownBlock) : OwnO w1 C (.slice (some ⟨g, 0, none⟩) n cap) l ∧ OwnO w1 B v' (m ++ [b]) ∧ Below B w0 w1 := by
  have hf' : OwnO (w.alloc o) C (.slice (some ⟨g, 0, none⟩) n cap) l := World.ownsRow.alloc hf o
  have hu' : OwnO (w.alloc o) B v m := World.ownsRow.alloc hu o
  refine ⟨World.ownsRow.kept hf' h2 (.inr (oc_apart hf' hu' rfl hgB)), ?_, (hbl.alloc hB o).grown h2 (by simp; omega) (fun k hk => (World.ownsRow.lt hu k hk).1)⟩
  unfold OwnO
  rw [OC_append, List.length_append]
  have : OC [b] = OC1 b := by simp [OC]
  rw [this]; exact h1

set_option maxHeartbeats 4000000 in
theorem rLocate_ok (r : Nat) (a b : Int) (p : Nat) (cs : List Do.Chg) (s : ByteArray) (i t : Int) (w : World) (hl : cs.length ≤ 2000000000000) (hth : (Do.there cs).length ≤ 1000) (hd : ∀ c ∈ cs, c.doc.size ≤ 40) (h : IdxAt w r a b (p : Int) cs) (hp : p ≤ 8) (hs : 1 ≤ s.size ∧ s.size ≤ 16) :
    Calls Try.prog 64 #[.pointer (some ⟨r, 0, none⟩), .string s, .int .i64 (cs.length : Int), .int .i64 i, .int .i64 t] w fun e w' => ∃ v, e = .returned (.tuple #[v, .bool (Do.page (Do.hits (Do.there cs) s.data.toList) i t p).2, .int .i64 0]) ∧ OwnO w' w.heap.size v (Do.page (Do.hits (Do.there cs) s.data.toList) i t p).1 ∧ Below w.heap.size w w' := by
  obtain ⟨i0, hi, hz0, hz1, hz2⟩ := info_parts Try.info44
  obtain ⟨hs1, hs2⟩ := hs
  have HD : Hid (∀ c ∈ cs, c.doc.size ≤ 40) := hd
  have hhl : (Do.hits (Do.there cs) s.data.toList).length ≤ 40000 := by
    have h1 := Do.hitsTo_len (Do.there cs) s.data.toList (fun c hc => hd c (there_mem cs _ c hc)) (Do.there cs).length
    show (Do.hitsTo _ _ _).length ≤ _
    omega
  clear hd
  obtain ⟨v, h1, h2⟩ := h
  obtain ⟨ao, capv, rfl⟩ := h2.shape2
  have c3 := h1.c3
  have hnb : ((cs.length : Int) != (cs.length : Int)) = false := by simp
  obtain ⟨L, hL⟩ : ∃ L, Do.hits (Do.there cs) s.data.toList = L := ⟨_, rfl⟩
  have HTH : Hid (Do.hits (Do.there cs) s.data.toList = L) := hL
  rw [hL] at hhl
  rw [hL]
  clear hL
  go_enter Try.func64, Try.ntmps64
  go_wp2_with fail
  refine (hits_any r a b p cs s _ hl hth HD.out ⟨_, h1, h2⟩ (by omega)).mono ?_
  rintro e w1 ⟨u, rfl, hu, hb1⟩
  rw [HTH.out] at hu
  have hr1 := h1.below hb1
  clear HTH c3 h1 h2
  rcases hu.shape with ⟨rfl, rfl⟩ | ⟨g, cap, rfl, hg1, hg2⟩
  · go_wp2
    refine wp_loop_rounds 1 ?_
    rw [rounds_succ]
    go_wp2
    go_ret3
    exact ⟨_, rfl, World.ownsRow_nil _ _ _ _, hb1⟩
  · have hz1' := hb1.size
    go_wp2
    go_loopw [14, 15, 16] (fun v q i' wr => ∃ k : Nat, k ≤ L.length ∧ i' = .int .i64 k ∧ q = .bool (Do.pageTo L i t p k).2 ∧ OwnO wr w1.heap.size v (Do.pageTo L i t p k).1 ∧ OwnO wr w.heap.size (.slice (some ⟨g, 0, none⟩) L.length cap) L ∧ Below w1.heap.size w1 wr) (fun _ _ i' _ => L.length - (intOf i').toNat)
    case atStart => exact ⟨0, Nat.zero_le _, rfl, rfl, World.ownsRow_nil _ _ _ _, hu, Below.refl _ _⟩
    case round =>
      obtain ⟨k, hk, rfl, rfl, ho, hc, hb⟩ := hrel
      clear hu
      have hpl := Do.pageTo_len L i t p k
      obtain ⟨av, capo, rfl⟩ := ho.shape2
      have c2 := (hr1.below hb).c2
      by_cases hlt : k < L.length
      · obtain ⟨o, hok⟩ : ∃ o, L[k]? = some o := ⟨L[k], List.getElem?_eq_getElem hlt⟩
        obtain ⟨x0, x1⟩ := hc.cell rfl k o hok
        have HO : Hid (L[k]? = some o) := hok
        clear hok
        obtain ⟨M, hM⟩ : ∃ M, Do.pageTo L i t p k = M := ⟨_, rfl⟩
        have HM : Hid (Do.pageTo L i t p k = M) := hM
        rw [hM] at hpl ho
        rw [hM]
        clear hM
        obtain ⟨ml, mb⟩ := M
        dsimp only at *
        by_cases q1 : (o.id : Int) < i
        · have HB : Hid (Do.before o i t = true) := by show Do.before o i t = true; rw [before_eq]; simp [q1]
          have HN : Hid (Do.pageTo L i t p (k + 1) = (ml, mb)) := by show Do.pageTo L i t p (k + 1) = (ml, mb); rw [Do.pageTo_skip L i t p k o HO.out HB.out, HM.out]
          skip
          go_wp2
          go_roundw
          case rel => exact ⟨k + 1, by omega, by go_num, by rw [HN.out], by rw [HN.out]; exact ho, hc, hb⟩
          case measure => simp [intOf]; omega
        · have d1 : decide ((o.id : Int) < i) = false := by rw [decide_eq_false_iff_not]; exact q1
          by_cases q2 : (o.id : Int) = i
          · have d2 : ((o.id : Int) == i) = true := by rw [beq_iff_eq]; exact q2
            by_cases q3 : (o.at' : Int) < t
            · have HB : Hid (Do.before o i t = true) := by show Do.before o i t = true; rw [before_eq]; simp [d1, d2, q3]
              have HN : Hid (Do.pageTo L i t p (k + 1) = (ml, mb)) := by show Do.pageTo L i t p (k + 1) = (ml, mb); rw [Do.pageTo_skip L i t p k o HO.out HB.out, HM.out]
              clear q2
              go_wp2
              go_roundw
              case rel => exact ⟨k + 1, by omega, by go_num, by rw [HN.out], by rw [HN.out]; exact ho, hc, hb⟩
              case measure => simp [intOf]; omega
            · have d3 : decide ((o.at' : Int) < t) = false := by rw [decide_eq_false_iff_not]; exact q3
              have HB : Hid (Do.before o i t = false) := by show Do.before o i t = false; rw [before_eq]; simp [d1, d2, d3]
              clear q2
              by_cases hm : ml.length = p
              · have HN : Hid (Do.pageTo L i t p (k + 1) = (ml, true)) := by show Do.pageTo L i t p (k + 1) = (ml, true); rw [Do.pageTo_more L i t p k o HO.out HB.out (by rw [HM.out]; exact hm), HM.out]
                have hm1 : ((ml.length : Int) == (p : Int)) = true := by rw [beq_iff_eq]; omega
                clear hm
                go_wp2
                go_roundw
                case rel => exact ⟨k + 1, by omega, by go_num, by rw [HN.out], by rw [HN.out]; exact ho, hc, hb⟩
                case measure => simp [intOf]; omega
              · have HN : Hid (Do.pageTo L i t p (k + 1) = (ml ++ [o], mb)) := by show Do.pageTo L i t p (k + 1) = (ml ++ [o], mb); rw [Do.pageTo_put L i t p k o HO.out HB.out (by rw [HM.out]; exact hm), HM.out]
                have hm1 : ((ml.length : Int) == (p : Int)) = false := by rw [beq_eq_false_iff_ne]; omega
                clear hm
                go_wp2_with (at_builtin; refine wpList_append_own _ rfl _ _ 31 rfl w1.heap.size 44 i0 (.agg #[.int .i64 0, .int .i64 0]) 2 16 Try.underlying31 hi hz0 hz1 hz2 rfl (by decide) _ _ _ rfl (World.ownsRow.alloc ho _) ⟨wr.heap.size, 0, none⟩ 1 1 (OC1 o) rfl rfl (World.news_of_block (cs := #[.int .i64 (o.id : Int), .int .i64 (o.at' : Int)]) (heap_alloc_new wr _)) (by intro u hu2; simp [OC1] at hu2; rcases hu2 with rfl | rfl <;> rfl) (by unfold maxLen; omega) (by omega) (by have := hb.size; simp; omega) ?_; intro v' w3 hown3 hgrow3 _)
                have R := page_step hc hg2 ho hb hb.size hown3 hgrow3
                clear hown3 hgrow3 ho hb hc
                go_wp2
                go_roundw
                case rel => exact ⟨k + 1, by omega, by go_num, by rw [HN.out], by rw [HN.out]; exact R.2.1, R.1, R.2.2⟩
                case measure => simp [intOf]; omega
          · have d2 : ((o.id : Int) == i) = false := by rw [beq_eq_false_iff_ne]; exact q2
            have HB : Hid (Do.before o i t = false) := by show Do.before o i t = false; rw [before_eq]; simp [d1, d2]
            clear q2
            by_cases hm : ml.length = p
            · have HN : Hid (Do.pageTo L i t p (k + 1) = (ml, true)) := by show Do.pageTo L i t p (k + 1) = (ml, true); rw [Do.pageTo_more L i t p k o HO.out HB.out (by rw [HM.out]; exact hm), HM.out]
              have hm1 : ((ml.length : Int) == (p : Int)) = true := by rw [beq_iff_eq]; omega
              clear hm
              go_wp2
              go_roundw
              case rel => exact ⟨k + 1, by omega, by go_num, by rw [HN.out], by rw [HN.out]; exact ho, hc, hb⟩
              case measure => simp [intOf]; omega
            · have HN : Hid (Do.pageTo L i t p (k + 1) = (ml ++ [o], mb)) := by show Do.pageTo L i t p (k + 1) = (ml ++ [o], mb); rw [Do.pageTo_put L i t p k o HO.out HB.out (by rw [HM.out]; exact hm), HM.out]
              have hm1 : ((ml.length : Int) == (p : Int)) = false := by rw [beq_eq_false_iff_ne]; omega
              clear hm
              go_wp2_with (at_builtin; refine wpList_append_own _ rfl _ _ 31 rfl w1.heap.size 44 i0 (.agg #[.int .i64 0, .int .i64 0]) 2 16 Try.underlying31 hi hz0 hz1 hz2 rfl (by decide) _ _ _ rfl (World.ownsRow.alloc ho _) ⟨wr.heap.size, 0, none⟩ 1 1 (OC1 o) rfl rfl (World.news_of_block (cs := #[.int .i64 (o.id : Int), .int .i64 (o.at' : Int)]) (heap_alloc_new wr _)) (by intro u hu2; simp [OC1] at hu2; rcases hu2 with rfl | rfl <;> rfl) (by unfold maxLen; omega) (by omega) (by have := hb.size; simp; omega) ?_; intro v' w3 hown3 hgrow3 _)
              have R := page_step hc hg2 ho hb hb.size hown3 hgrow3
              clear hown3 hgrow3 ho hb hc
              go_wp2
              go_roundw
              case rel => exact ⟨k + 1, by omega, by go_num, by rw [HN.out], by rw [HN.out]; exact R.2.1, R.1, R.2.2⟩
              case measure => simp [intOf]; omega
      · have hke : k = L.length := by omega
        subst hke
        go_wp2
        go_ret3
        exact ⟨_, rfl, ho.weaken (by omega), hb1.trans (hb.mono (by omega))⟩

end Go.Proofs.Ythkndfkkgncjfab

namespace Go.Proofs.Ythkndfkkgncjfab.Do

theorem gone_append (cs : List Chg) (c : Chg) (id : Nat) : gone (cs ++ [c]) id = (gone cs id || (!c.ins && c.id == id)) := by
  simp [gone, List.any_append]
theorem keep_append (cs : List Chg) (c d : Chg) (i : Nat) (hd : cs[i]? = some d) : keep (cs ++ [c]) i = (keep cs i && !(!c.ins && c.id == d.id)) := by
  have hi : i < cs.length := by
    rcases Nat.lt_or_ge i cs.length with h | h
    · exact h
    · rw [List.getElem?_eq_none h] at hd; cases hd
  unfold keep
  rw [List.getElem?_append_left hi, hd]
  have : (cs ++ [c]).drop (i + 1) = cs.drop (i + 1) ++ [c] := by rw [List.drop_append_of_le_length (by omega)]
  simp only [this, gone_append, Bool.not_or, Bool.and_assoc]
theorem thereTo_ins (cs : List Chg) (c : Chg) (hc : c.ins = true) : ∀ i, i ≤ cs.length → thereTo (cs ++ [c]) i = thereTo cs i
  | 0, _ => rfl
  | i + 1, hi => by
    have hd : cs[i]? = some cs[i] := List.getElem?_eq_getElem (by omega)
    rw [thereTo, thereTo, thereTo_ins cs c hc i (by omega), keep_append cs c _ i hd, List.getElem?_append_left (by omega), hc]
    simp
/-- an Insert puts its document behind the others -/
theorem there_ins (cs : List Chg) (c : Chg) (hc : c.ins = true) : there (cs ++ [c]) = there cs ++ [c] := by
  unfold there
  rw [List.length_append, List.length_singleton, thereTo_hit (cs ++ [c]) cs.length c (by simp) ?_, thereTo_ins cs c hc _ (Nat.le_refl _)]
  rw [keep_eq _ _ c (by simp), hc]
  rw [List.drop_eq_nil_of_le (by simp)]
  rfl
theorem thereTo_del (cs : List Chg) (c : Chg) (hc : c.ins = false) : ∀ i, i ≤ cs.length → thereTo (cs ++ [c]) i = (thereTo cs i).filter fun d => !(c.id == d.id)
  | 0, _ => rfl
  | i + 1, hi => by
    have hd : cs[i]? = some cs[i] := List.getElem?_eq_getElem (by omega)
    rw [thereTo, thereTo, thereTo_del cs c hc i (by omega), keep_append cs c _ i hd, List.getElem?_append_left (by omega), hc, List.filter_append, hd]
    congr 1
    cases keep cs i
    · simp
    · by_cases h : c.id = cs[i].id <;> simp [h]
/-- a Delete takes away all that bear its id -/
theorem there_del (cs : List Chg) (c : Chg) (hc : c.ins = false) : there (cs ++ [c]) = (there cs).filter fun d => !(c.id == d.id) := by
  unfold there
  rw [List.length_append, List.length_singleton, thereTo_miss _ _ ?_, thereTo_del cs c hc _ (Nat.le_refl _)]
  rw [keep_eq _ _ c (by simp), hc]
  rfl

end Go.Proofs.Ythkndfkkgncjfab.Do

namespace Go.Proofs.Ythkndfkkgncjfab
open Go.ChangeShapes Go.WideShapes Go.ChangeAt Go.RowKit Go.Deep
set_option maxRecDepth 100000

/-- a step of a script -/
structure OpV where
  k : Int
  on : Int
  a : Int
  b : Int
  c : Int
  s : ByteArray
  f0 : Int
  f1 : Int
  f2 : Int
def inR (x : Int) : Prop := -9223372036854775808 ≤ x ∧ x ≤ 9223372036854775807
/-- its numbers are ints -/
def OpV.ok (o : OpV) : Prop := inR o.k ∧ inR o.on ∧ inR o.a ∧ inR o.b ∧ inR o.c ∧ inR o.f0 ∧ inR o.f1 ∧ inR o.f2 ∧ o.s.size ≤ maxLen
def opCells (o : OpV) : List Value := [.int .i64 o.k, .int .i64 o.on, .int .i64 o.a, .int .i64 o.b, .int .i64 o.c, .string o.s, .int .i64 o.f0, .int .i64 o.f1, .int .i64 o.f2]

theorem Try.cells82 : Try.prog.cellsOf 82 = 9 := by kernel_rfl
theorem Try.cells23 : Try.prog.cellsOf 23 = 3 := by kernel_rfl
theorem Try.cells3 : Try.prog.cellsOf 3 = 1 := by kernel_rfl
theorem Try.cells9 : Try.prog.cellsOf 9 = 1 := by kernel_rfl

section
variable {H : Type} {enc : TypeId × Value → H} {w : World} {base : Nat} {spare : Nat → Bool} {held : Bool}

theorem drop_take1 (cs : List Value) (i : Nat) (h : i < cs.length) : (cs.drop i).take 1 = [cs[i]] := by
  rw [List.drop_eq_getElem_cons h]; rfl

theorem int_field {n i : Nat} {cs : List Value} {y : DataW H × List MemPlace} (hi : i < cs.length) (h : DataW.trod enc Try.prog w base spare held n 3 ((cs.drop i).take 1) = some y) : ∃ m, cs[i]? = some (.int .i64 m) ∧ inR m := by
  rw [drop_take1 cs i hi] at h
  obtain ⟨m, e, _, wf⟩ := DataW.trod_int Try.underlying3 h
  refine ⟨m, ?_, bounds_i64 wf⟩
  rw [List.getElem?_eq_getElem hi]
  simp only [List.cons.injEq, and_true] at e
  rw [e]
theorem str_field {n i : Nat} {cs : List Value} {y : DataW H × List MemPlace} (hi : i < cs.length) (h : DataW.trod enc Try.prog w base spare held n 9 ((cs.drop i).take 1) = some y) : ∃ s, cs[i]? = some (.string s) ∧ s.size ≤ maxLen := by
  rw [drop_take1 cs i hi] at h
  obtain ⟨s, e, _, hs⟩ := DataW.trod_string Try.underlying9 h
  refine ⟨s, ?_, hs⟩
  rw [List.getElem?_eq_getElem hi]
  simp only [List.cons.injEq, and_true] at e
  rw [e]

theorem conf_cells {n : Nat} {cs : List Value} {x : DataW H × List MemPlace} (h : DataW.trod enc Try.prog w base spare held n 23 cs = some x) :
    cs.length = 3 ∧ ∃ a b p : Int, cs[0]? = some (.int .i64 a) ∧ cs[1]? = some (.int .i64 b) ∧ cs[2]? = some (.int .i64 p) ∧ inR a ∧ inR b ∧ inR p := by
  obtain ⟨xs, m, _, _, hl, hxl, hf⟩ := DataW.trod_struct Try.underlying23 h
  rw [Try.cells23] at hl
  have hsz : xs.length = 3 := hxl
  have get : ∀ i, i < 3 → ∃ y, xs[i]? = some y := fun i hi => ⟨xs[i], List.getElem?_eq_getElem (by omega)⟩
  obtain ⟨y0, e0⟩ := get 0 (by omega)
  obtain ⟨y1, e1⟩ := get 1 (by omega)
  obtain ⟨y2, e2⟩ := get 2 (by omega)
  have g0 : DataW.trod enc Try.prog w base spare held m 3 ((cs.drop 0).take (Try.prog.cellsOf 3)) = xs[0]? := hf 0 _ rfl
  rw [Try.cells3] at g0
  have g1 : DataW.trod enc Try.prog w base spare held m 3 ((cs.drop 1).take (Try.prog.cellsOf 3)) = xs[1]? := hf 1 _ rfl
  rw [Try.cells3] at g1
  have g2 : DataW.trod enc Try.prog w base spare held m 3 ((cs.drop 2).take (Try.prog.cellsOf 3)) = xs[2]? := hf 2 _ rfl
  rw [Try.cells3] at g2
  rw [e0] at g0
  rw [e1] at g1
  rw [e2] at g2
  obtain ⟨a, ha, ra⟩ := int_field (by omega) g0
  obtain ⟨b, hb, rb⟩ := int_field (by omega) g1
  obtain ⟨p, hp, rp⟩ := int_field (by omega) g2
  exact ⟨hl, a, b, p, ha, hb, hp, ra, rb, rp⟩

theorem op_cells {n : Nat} {cs : List Value} {x : DataW H × List MemPlace} (h : DataW.trod enc Try.prog w base spare held n 82 cs = some x) :
    ∃ o : OpV, cs = opCells o ∧ o.ok := by
  obtain ⟨xs, m, _, _, hl, hxl, hf⟩ := DataW.trod_struct Try.underlying82 h
  rw [Try.cells82] at hl
  have hsz : xs.length = 7 := hxl
  have get : ∀ i, i < 7 → ∃ y, xs[i]? = some y := fun i hi => ⟨xs[i], List.getElem?_eq_getElem (by omega)⟩
  obtain ⟨y0, e0⟩ := get 0 (by omega)
  obtain ⟨y1, e1⟩ := get 1 (by omega)
  obtain ⟨y2, e2⟩ := get 2 (by omega)
  obtain ⟨y3, e3⟩ := get 3 (by omega)
  obtain ⟨y4, e4⟩ := get 4 (by omega)
  obtain ⟨y5, e5⟩ := get 5 (by omega)
  obtain ⟨y6, e6⟩ := get 6 (by omega)
  have g0 : DataW.trod enc Try.prog w base spare held m 3 ((cs.drop 0).take (Try.prog.cellsOf 3)) = xs[0]? := hf 0 _ rfl
  rw [Try.cells3] at g0
  have g1 : DataW.trod enc Try.prog w base spare held m 3 ((cs.drop 1).take (Try.prog.cellsOf 3)) = xs[1]? := hf 1 _ rfl
  rw [Try.cells3] at g1
  have g2 : DataW.trod enc Try.prog w base spare held m 3 ((cs.drop 2).take (Try.prog.cellsOf 3)) = xs[2]? := hf 2 _ rfl
  rw [Try.cells3] at g2
  have g3 : DataW.trod enc Try.prog w base spare held m 3 ((cs.drop 3).take (Try.prog.cellsOf 3)) = xs[3]? := hf 3 _ rfl
  rw [Try.cells3] at g3
  have g4 : DataW.trod enc Try.prog w base spare held m 3 ((cs.drop 4).take (Try.prog.cellsOf 3)) = xs[4]? := hf 4 _ rfl
  rw [Try.cells3] at g4
  have g5 : DataW.trod enc Try.prog w base spare held m 9 ((cs.drop 5).take (Try.prog.cellsOf 9)) = xs[5]? := hf 5 _ rfl
  rw [Try.cells9] at g5
  have g6 : DataW.trod enc Try.prog w base spare held m 23 ((cs.drop 6).take (Try.prog.cellsOf 23)) = xs[6]? := hf 6 _ rfl
  rw [Try.cells23] at g6
  rw [e0] at g0
  rw [e1] at g1
  rw [e2] at g2
  rw [e3] at g3
  rw [e4] at g4
  rw [e5] at g5
  rw [e6] at g6
  obtain ⟨k, hk, rk⟩ := int_field (by omega) g0
  obtain ⟨on, hon, ron⟩ := int_field (by omega) g1
  obtain ⟨a, ha, ra⟩ := int_field (by omega) g2
  obtain ⟨b, hb, rb⟩ := int_field (by omega) g3
  obtain ⟨c, hc, rc⟩ := int_field (by omega) g4
  obtain ⟨s, hs, hss⟩ := str_field (by omega) g5
  obtain ⟨_, f0, f1, f2, h0, h1, h2, r0, r1, r2⟩ := conf_cells g6
  refine ⟨⟨k, on, a, b, c, s, f0, f1, f2⟩, ?_, rk, ron, ra, rb, rc, r0, r1, r2, hss⟩
  have q0 : cs[6]? = some (.int .i64 f0) := by simpa [List.getElem?_take, List.getElem?_drop] using h0
  have q1 : cs[7]? = some (.int .i64 f1) := by simpa [List.getElem?_take, List.getElem?_drop] using h1
  have q2 : cs[8]? = some (.int .i64 f2) := by simpa [List.getElem?_take, List.getElem?_drop] using h2
  refine List.ext_getElem? (fun i => ?_)
  rcases (show i = 0 ∨ i = 1 ∨ i = 2 ∨ i = 3 ∨ i = 4 ∨ i = 5 ∨ i = 6 ∨ i = 7 ∨ i = 8 ∨ 9 ≤ i by omega) with rfl | rfl | rfl | rfl | rfl | rfl | rfl | rfl | rfl | hi
  · exact hk
  · exact hon
  · exact ha
  · exact hb
  · exact hc
  · exact hs
  · exact q0
  · exact q1
  · exact q2
  · rw [List.getElem?_eq_none (by omega), List.getElem?_eq_none (by show 9 ≤ i; exact hi)]

/-- a script's cells, step by step -/
def Script (w : World) (v : Value) (len : Nat) (os : Nat → OpV) : Prop :=
  (v = .slice none 0 0 ∧ len = 0) ∨ ∃ a cap, v = .slice (some a) len cap ∧ len ≤ maxLen ∧ ∀ i, i < len → (os i).ok ∧ ∀ j u, (opCells (os i))[j]? = some u → w.cell? (a.add (i * 9 + j)) = some u

theorem open_script {n : Nat} {v : Value} {x : DataW H × List MemPlace} (h : DataW.trod enc Try.prog w base spare held n 46 [v] = some x) : ∃ len os, Script w v len os := by
  rcases open_slice Try.underlying46 h with ⟨h0, _⟩ | ⟨a, len, cap, m, n2, D, Pl, hv, hb, hl, hm, hmm, _, hx⟩
  · simp only [List.cons.injEq, and_true] at h0
    exact ⟨0, fun _ => ⟨0, 0, 0, 0, 0, ⟨#[]⟩, 0, 0, 0⟩, .inl ⟨h0, rfl⟩⟩
  · simp only [List.cons.injEq, and_true] at hv
    have hlm : len ≤ m := by rw [hmm]; split <;> omega
    have each : ∀ i, i < len → ∃ o : OpV, o.ok ∧ ∀ j u, (opCells o)[j]? = some u → w.cell? (a.add (i * 9 + j)) = some u := by
      intro i hi
      obtain ⟨cs', h1, h2⟩ := hx i (by omega)
      rw [Try.cells82] at h1
      obtain ⟨_, hlen, hcell⟩ := World.cells?_some h1
      obtain ⟨o, rfl, hs⟩ := op_cells h2
      refine ⟨o, hs, fun j u hu => ?_⟩
      have hj : j < 9 := by
        rcases Nat.lt_or_ge j 9 with h | h
        · exact h
        · rw [List.getElem?_eq_none (show (opCells o).length ≤ j from h)] at hu; cases hu
      rw [← Deep.add_add, hcell j hj, hu]
    obtain ⟨os, hos⟩ := @choose_lt OpV ⟨⟨0, 0, 0, 0, 0, ⟨#[]⟩, 0, 0, 0⟩⟩ len _ each
    exact ⟨len, os, .inr ⟨a, cap, hv, by omega, hos⟩⟩
end

end Go.Proofs.Ythkndfkkgncjfab

namespace Go.Proofs.Ythkndfkkgncjfab
open Go.RowKit
set_option maxRecDepth 100000

/-- Insert's answer: the id, the error, the changes behind it -/
def insRes (cs : List Do.Chg) (a : Int) (s : ByteArray) : Int × Int × List Do.Chg :=
  if 40 < s.size then (0, 2, cs) else if a < (Do.size (Do.there cs) : Int) + s.size ∨ 60 ≤ (Do.there cs).length then (0, 3, cs) else ((insTo cs cs.length : Nat), 0, cs ++ [⟨true, s, insTo cs cs.length⟩])
/-- Delete's answer -/
def delRes (cs : List Do.Chg) (id : Int) : Int × List Do.Chg := match Do.at? (Do.there cs) id with
  | none => (4, cs)
  | some k => match (Do.there cs)[k]? with
    | none => (4, cs)
    | some c => (0, cs ++ [⟨false, c.doc, id.toNat⟩])
def cntRes (cs : List Do.Chg) (s : ByteArray) : Int × Int :=
  if s.size < 1 ∨ 16 < s.size then (0, 5) else ((Do.hits (Do.there cs) s.data.toList).length, 0)
def locRes (cs : List Do.Chg) (p : Int) (s : ByteArray) (n i t : Int) : List Do.Oc × Bool × Int :=
  if s.size < 1 ∨ 16 < s.size then ([], false, 5) else if n ≠ (cs.length : Int) then ([], false, 6) else ((Do.page (Do.hits (Do.there cs) s.data.toList) i t p.toNat).1, (Do.page (Do.hits (Do.there cs) s.data.toList) i t p.toNat).2, 0)
def lstRes (cs : List Do.Chg) (t n : Int) : List Nat × Int :=
  if n < 1 ∨ 8 < n then ([], 9) else (Do.ids (Do.there cs) t n.toNat, 0)
def okc (a b p : Int) : Prop := 1 ≤ a ∧ a ≤ 400 ∧ 1 ≤ b ∧ b ≤ 80 ∧ 1 ≤ p ∧ p ≤ 8

/-- a kind of index: how it lies in memory (the world, its block, its configuration, its changes, all its blocks), and that its calls answer as the document says -/
structure Serves (At : World → Nat → Int → Int → Int → List Do.Chg → (Nat → Prop) → Prop) (new ins del ext cnt loc lst ver : Nat) : Prop where
  lt : ∀ {w x a b p cs F}, At w x a b p cs F → ∀ k, F k → k < w.heap.size
  frame : ∀ {w w' x a b p cs F}, At w x a b p cs F → w.heap.size ≤ w'.heap.size → (∀ k, F k → w'.heap[k]? = w.heap[k]?) → At w' x a b p cs F
  wide : ∀ {w x a b p cs F G}, At w x a b p cs F → (∀ k, F k → G k) → (∀ k, G k → k < w.heap.size) → At w x a b p cs G
  new_ok : ∀ (a b p : Int) (w : World), okc a b p → Calls Try.prog new #[.agg #[.int .i64 a, .int .i64 b, .int .i64 p]] w fun e w' => ∃ x F, e = .returned (.tuple #[.pointer (some ⟨x, 0, none⟩), .int .i64 0]) ∧ At w' x a b p [] F ∧ (∀ k, F k → w.heap.size ≤ k) ∧ Below w.heap.size w w'
  new_no : ∀ (a b p : Int) (w : World), ¬ okc a b p → Calls Try.prog new #[.agg #[.int .i64 a, .int .i64 b, .int .i64 p]] w fun e w' => e = .returned (.tuple #[.pointer none, .int .i64 1]) ∧ Below w.heap.size w w'
  insert : ∀ {w x a b p cs F} (s : ByteArray), cs.length ≤ 2000000000000 → s.size ≤ 9223372036854775807 → At w x a b p cs F → Calls Try.prog ins #[.pointer (some ⟨x, 0, none⟩), .string s] w fun e w' => e = .returned (.tuple #[.int .i64 (insRes cs a s).1, .int .i64 (insRes cs a s).2.1]) ∧ Only F w w' ∧ ∃ G, At w' x a b p (insRes cs a s).2.2 G ∧ ∀ k, G k → F k ∨ w.heap.size ≤ k
  delete : ∀ {w x a b p cs F} (id : Int), cs.length ≤ 2000000000000 → inR id → At w x a b p cs F → Calls Try.prog del #[.pointer (some ⟨x, 0, none⟩), .int .i64 id] w fun e w' => e = .returned (.int .i64 (delRes cs id).1) ∧ Only F w w' ∧ ∃ G, At w' x a b p (delRes cs id).2 G ∧ ∀ k, G k → F k ∨ w.heap.size ≤ k
  extract : ∀ {w x a b p cs F} (id f t : Int), cs.length ≤ 2000000000000 → inR id → inR f → inR t → At w x a b p cs F → Calls Try.prog ext #[.pointer (some ⟨x, 0, none⟩), .int .i64 id, .int .i64 f, .int .i64 t] w fun e w' => e = .returned (.tuple #[.string (exRes (Do.there cs) id f t).1, .int .i64 (exRes (Do.there cs) id f t).2]) ∧ Below w.heap.size w w'
  count : ∀ {w x a b p cs F} (s : ByteArray), cs.length ≤ 2000000000000 → s.size ≤ 9223372036854775807 → At w x a b p cs F → Calls Try.prog cnt #[.pointer (some ⟨x, 0, none⟩), .string s] w fun e w' => e = .returned (.tuple #[.int .i64 (cntRes cs s).1, .int .i64 (cntRes cs s).2]) ∧ Below w.heap.size w w'
  locate : ∀ {w x a b p cs F} (s : ByteArray) (n i t : Int), cs.length ≤ 2000000000000 → s.size ≤ 9223372036854775807 → inR n → inR i → inR t → At w x a b p cs F → Calls Try.prog loc #[.pointer (some ⟨x, 0, none⟩), .string s, .int .i64 n, .int .i64 i, .int .i64 t] w fun e w' => ∃ v, e = .returned (.tuple #[v, .bool (locRes cs p s n i t).2.1, .int .i64 (locRes cs p s n i t).2.2]) ∧ OwnO w' w.heap.size v (locRes cs p s n i t).1 ∧ Below w.heap.size w w'
  list : ∀ {w x a b p cs F} (t n : Int), cs.length ≤ 2000000000000 → inR t → inR n → At w x a b p cs F → Calls Try.prog lst #[.pointer (some ⟨x, 0, none⟩), .int .i64 t, .int .i64 n] w fun e w' => ∃ v, e = .returned (.tuple #[v, .int .i64 (lstRes cs t n).2]) ∧ OwnV w' w.heap.size v (lstRes cs t n).1 ∧ Below w.heap.size w w'
  version : ∀ {w x a b p cs F}, cs.length ≤ 2000000000000 → At w x a b p cs F → Calls Try.prog ver #[.pointer (some ⟨x, 0, none⟩)] w fun e w' => e = .returned (.int .i64 (cs.length : Int)) ∧ Below w.heap.size w w'

/-- the document's index, its blocks told -/
def RIdx (w : World) (r : Nat) (a b p : Int) (cs : List Do.Chg) (F : Nat → Prop) : Prop :=
  ∃ v, RefAt w r a b p v ∧ OwnC w 0 v cs ∧ (∀ k, foot r v k → F k) ∧ (∀ k, F k → k < w.heap.size) ∧ (∀ c ∈ cs, c.doc.size ≤ 40) ∧ okc a b p ∧ (Do.there cs).length ≤ 60

theorem RIdx.idx {w : World} {r : Nat} {a b p : Int} {cs : List Do.Chg} {F : Nat → Prop} (h : RIdx w r a b p cs F) : IdxAt w r a b p cs := by
  obtain ⟨v, h1, h2, _⟩ := h; exact ⟨v, h1, h2⟩
theorem RIdx.docs {w : World} {r : Nat} {a b p : Int} {cs : List Do.Chg} {F : Nat → Prop} (h : RIdx w r a b p cs F) : ∀ c ∈ cs, c.doc.size ≤ 40 := by
  obtain ⟨v, _, _, _, _, h5, _⟩ := h; exact h5
theorem RIdx.few {w : World} {r : Nat} {a b p : Int} {cs : List Do.Chg} {F : Nat → Prop} (h : RIdx w r a b p cs F) : (Do.there cs).length ≤ 60 := by
  obtain ⟨v, _, _, _, _, _, _, h7⟩ := h; exact h7
theorem RIdx.conf {w : World} {r : Nat} {a b p : Int} {cs : List Do.Chg} {F : Nat → Prop} (h : RIdx w r a b p cs F) : okc a b p := by
  obtain ⟨v, _, _, _, _, _, h6, _⟩ := h; exact h6

/-- what a change leaves -/
theorem RIdx.next {w w' : World} {r : Nat} {a b p : Int} {cs' : List Do.Chg} {F : Nat → Prop} {v v' : Value} (h6 : okc a b p) (hf : ∀ k, foot r v k → F k) (h1 : RefAt w' r a b p v') (h2 : OwnC w' 0 v' cs') (h3 : Only (foot r v) w w') (h4 : ∀ k, foot r v' k → foot r v k ∨ w.heap.size ≤ k)
    (h5 : ∀ c ∈ cs', c.doc.size ≤ 40) (h7 : (Do.there cs').length ≤ 60) : Only F w w' ∧ ∃ G, RIdx w' r a b p cs' G ∧ ∀ k, G k → F k ∨ w.heap.size ≤ k := by
  refine ⟨h3.mono hf, foot r v', ⟨v', h1, h2, fun _ h => h, fun k hk => ?_, h5, h6, h7⟩, fun k hk => (h4 k hk).imp (hf k) (fun h => h)⟩
  rcases hk with rfl | hk
  · exact h1.lt
  · exact (World.ownsRow.lt h2 k hk).2
theorem RIdx.stay {w w' : World} {r : Nat} {a b p : Int} {cs : List Do.Chg} {F : Nat → Prop} (h : RIdx w r a b p cs F) (hb : Below w.heap.size w w') : Only F w w' ∧ ∃ G, RIdx w' r a b p cs G ∧ ∀ k, G k → F k ∨ w.heap.size ≤ k := by
  obtain ⟨v, h1, h2, h3, h4, h5, h6, h7⟩ := h
  refine ⟨Only.of_below hb, F, ⟨v, h1.below hb, h2.below hb, h3, fun k hk => Nat.lt_of_lt_of_le (h4 k hk) hb.size, h5, h6, h7⟩, fun k hk => .inl hk⟩

theorem at_get (cs : List Do.Chg) (id : Int) (k : Nat) (h : Do.at? cs id = some k) : ∃ c, cs[k]? = some c ∧ (c.id : Int) = id := by
  unfold Do.at? at h
  rw [List.findIdx?_eq_some_iff_getElem] at h
  obtain ⟨hk, h1, _⟩ := h
  exact ⟨cs[k], List.getElem?_eq_getElem hk, by simpa using h1⟩

theorem ref_serves : Serves RIdx 32 55 56 61 63 64 59 57 where
  lt := by rintro w x a b p cs F ⟨v, _, _, _, h4, _⟩; exact h4
  frame := by
    rintro w w' x a b p cs F ⟨v, h1, h2, h3, h4, h5, h6, h7⟩ hsz hfr
    refine ⟨v, (hfr x (h3 x (.inl rfl))).trans h1, ?_, h3, fun k hk => Nat.lt_of_lt_of_le (h4 k hk) hsz, h5, h6, h7⟩
    refine ⟨h2.1, ?_⟩
    rcases h2.2 with hn | ⟨g, cap, cur, rfl, hB, hg, rest⟩
    · exact .inl hn
    · exact .inr ⟨g, cap, cur, rfl, hB, by rw [hfr g (h3 g (.inr rfl))]; exact hg, rest⟩
  wide := by
    rintro w x a b p cs F G ⟨v, h1, h2, h3, h4, h5, h6, h7⟩ hfg hg
    exact ⟨v, h1, h2, fun k hk => hfg k (h3 k hk), hg, h5, h6, h7⟩
  new_ok := by
    intro a b p w h
    refine (rNew_ok a b p w ⟨h.1, h.2.1⟩ ⟨h.2.2.1, h.2.2.2.1⟩ h.2.2.2.2).mono ?_
    rintro e w' ⟨r, he, hr, hra, hb⟩
    refine ⟨r, fun k => k = r, he, ⟨_, hra, World.ownsRow_nil _ _ _ _, fun k hk => ?_, fun k hk => by rw [hk]; exact hra.lt, by simp, h, by decide⟩, fun k hk => by rw [hk]; exact hr, hb⟩
    rcases hk with rfl | hk
    · rfl
    · simp [Value.ownBlock] at hk
  new_no := by
    intro a b p w h
    exact rNew_no a b p w h
  insert := by
    intro w x a b p cs F s hl hs h
    have h' := h
    obtain ⟨v, h1, h2, h3, h4, h5, h6, h7⟩ := h
    unfold insRes
    by_cases c1 : 40 < s.size
    · rw [if_pos c1]
      refine (rInsert_long x a b p v cs s w (by omega) h1 h2 c1).mono ?_
      rintro e w' ⟨he, hb⟩
      exact ⟨he, h'.stay hb⟩
    · rw [if_neg c1]
      by_cases c2 : a < (Do.size (Do.there cs) : Int) + s.size ∨ 60 ≤ (Do.there cs).length
      · rw [if_pos c2]
        refine (rInsert_full x a b p v cs s w (by omega) h5 ⟨h6.1, h6.2.1⟩ h1 h2 (by omega) c2).mono ?_
        rintro e w' ⟨he, hb⟩
        exact ⟨he, h'.stay hb⟩
      · rw [if_neg c2]
        refine (rInsert_ok x a b p v cs s w (by omega) h5 ⟨h6.1, h6.2.1⟩ h1 h2 (by omega) c2).mono ?_
        rintro e w' ⟨he, v', q1, q2, q3, q4⟩
        refine ⟨he, RIdx.next h6 h3 q1 q2 q3 q4 (fun c hc => ?_) (by rw [Do.there_ins _ _ rfl]; simp; omega)⟩
        rw [List.mem_append] at hc
        rcases hc with hc | hc
        · exact h5 c hc
        · simp at hc; subst hc; show s.size ≤ 40; omega
  delete := by
    intro w x a b p cs F id hl _ h
    have h' := h
    obtain ⟨v, h1, h2, h3, h4, h5, h6, h7⟩ := h
    unfold delRes
    cases hat : Do.at? (Do.there cs) id with
    | none =>
      refine (rDelete_none x a b p v cs id w (by omega) h1 h2 hat).mono ?_
      rintro e w' ⟨he, hb⟩
      exact ⟨he, h'.stay hb⟩
    | some k =>
      obtain ⟨c, hc, hid⟩ := at_get _ _ _ hat
      subst hid
      simp only [hc]
      refine (rDelete_ok x a b p v cs c.id k c w (by omega) h1 h2 hat hc).mono ?_
      rintro e w' ⟨he, v', q1, q2, q3, q4⟩
      refine ⟨he, RIdx.next h6 h3 q1 q2 q3 q4 (fun d hd => ?_) (by rw [Do.there_del _ _ rfl]; exact Nat.le_trans (List.length_filter_le _ _) h7)⟩
      rw [List.mem_append] at hd
      rcases hd with hd | hd
      · exact h5 d hd
      · simp at hd; subst hd
        exact h5 c (there_mem cs _ c (List.mem_of_getElem? hc))
  extract := by
    intro w x a b p cs F id f t hl _ _ _ h
    unfold exRes
    cases hat : Do.at? (Do.there cs) id with
    | none => exact rExtract_none x a b p cs id f t w (by omega) h.idx hat
    | some k =>
      obtain ⟨c, hc, hid⟩ := at_get _ _ _ hat
      simp only [hc]
      refine (rExtract_some x a b p cs id f t k c w (by omega) h.idx hat hc (h.docs c (there_mem cs _ c (List.mem_of_getElem? hc)))).mono ?_
      rintro e w' ⟨he, hb⟩
      refine ⟨?_, hb⟩
      rw [he]
      split <;> rfl
  count := by
    intro w x a b p cs F s hl hs h
    unfold cntRes
    by_cases c1 : s.size < 1 ∨ 16 < s.size
    · rw [if_pos c1]
      exact (rCount_no x s w c1).mono fun e w' ⟨he, hw⟩ => ⟨he, by rw [hw]; exact Below.refl _ _⟩
    · rw [if_neg c1]
      exact rCount_ok x a b p cs s w (by omega) (by have := h.few; omega) h.docs h.idx (by omega)
  locate := by
    intro w x a b p cs F s n i t hl hs _ _ _ h
    unfold locRes
    by_cases c1 : s.size < 1 ∨ 16 < s.size
    · rw [if_pos c1]
      refine (rLocate_no x s n i t w c1).mono fun e w' ⟨he, hw⟩ => ⟨_, he, World.ownsRow_nil _ _ _ _, by rw [hw]; exact Below.refl _ _⟩
    · rw [if_neg c1]
      by_cases c2 : n ≠ (cs.length : Int)
      · rw [if_pos c2]
        exact (rLocate_stale x a b p cs s n i t w h.idx (by omega) c2).mono fun e w' ⟨he, hw⟩ => ⟨_, he, World.ownsRow_nil _ _ _ _, by rw [hw]; exact Below.refl _ _⟩
      · rw [if_neg c2]
        have hn : n = (cs.length : Int) := by omega
        subst hn
        have ho := h.conf
        obtain ⟨q, rfl⟩ := Int.eq_ofNat_of_zero_le (show 0 ≤ p by have := ho.2.2.2.2.1; omega)
        exact rLocate_ok x a b q cs s i t w (by omega) (by have := h.few; omega) h.docs h.idx (by have := ho.2.2.2.2.2; omega) (by omega)
  list := by
    intro w x a b p cs F t n hl _ _ h
    unfold lstRes
    by_cases c1 : n < 1 ∨ 8 < n
    · rw [if_pos c1]
      exact (rList_arg x t n w c1).mono fun e w' ⟨he, hw⟩ => ⟨_, he, World.ownsRow_nil _ _ _ _, by rw [hw]; exact Below.refl _ _⟩
    · rw [if_neg c1]
      obtain ⟨q, rfl⟩ := Int.eq_ofNat_of_zero_le (show 0 ≤ n by omega)
      exact rList_ok x a b p cs t q w (by omega) h.idx (by omega)
  version := by
    intro w x a b p cs F _ h
    exact (rVersion_any x a b p cs w h.idx).mono fun e w' ⟨he, hw⟩ => ⟨he, by rw [hw]; exact Below.refl _ _⟩

end Go.Proofs.Ythkndfkkgncjfab
