/- Walks over the document's index: hits, Count, Locate. -/
import Derived.Test.YtpikkedeoebiaaaRefF
import Derived.Test.YtpikkedeoebiaaaDocC
import Derived.Test.YtpikkedeoebiaaaWalkK
namespace Go.Proofs.Ytpikkedeoebiaaa
open Go.RowKit
set_option maxRecDepth 100000

theorem Try.info77 : (Try.prog.info? 77).map (fun i => (i.zero, i.size, i.bytes)) = some (some (.agg #[.int .i64 0, .int .i64 0]), 2, 16) := by kernel_rfl

/-- occurrences as cells -/
def OC1 (o : Do.Oc) : List Value := [.int .i64 (o.id : Int), .int .i64 (o.at' : Int)]
def OC (l : List Do.Oc) : List Value := l.flatMap OC1
theorem OC_append (a b : List Do.Oc) : OC (a ++ b) = OC a ++ OC b := by simp [OC]
theorem OC_get (l : List Do.Oc) (k j : Nat) (o : Do.Oc) (ho : l[k]? = some o) (hj : j < 2) : (OC l)[k * 2 + j]? = (OC1 o)[j]? := by
  induction l generalizing k with
  | nil => simp at ho
  | cons d r ih =>
    cases k with
    | zero =>
      simp at ho; subst ho
      show (OC1 d ++ OC r)[0 * 2 + j]? = _
      rw [Nat.zero_mul, Nat.zero_add, List.getElem?_append_left (by show j < 2; exact hj)]
    | succ k =>
      simp at ho
      show (OC1 d ++ OC r)[(k + 1) * 2 + j]? = _
      rw [List.getElem?_append_right (by show 2 ≤ _; omega), ← ih k ho]
      congr 1
      show (k + 1) * 2 + j - 2 = _; omega
/-- a row of occurrences -/
def OwnO (w : World) (B : Nat) (v : Value) (l : List Do.Oc) : Prop := w.ownsRow B 77 2 v l.length (OC l)
theorem OwnO.below {w w' : World} {B : Nat} {v : Value} {l : List Do.Oc} (h : OwnO w B v l) (hb : Below w.heap.size w w') : OwnO w' B v l := row_below h hb
theorem OwnO.shape {w : World} {B : Nat} {v : Value} {l : List Do.Oc} (h : OwnO w B v l) : (v = .slice none 0 0 ∧ l = []) ∨ (∃ g cap, v = .slice (some ⟨g, 0, none⟩) l.length cap ∧ B ≤ g ∧ g < w.heap.size) := by
  rcases h.2 with ⟨e, hn⟩ | ⟨g, cap, cur, e, hB, hg, _⟩
  · left
    refine ⟨e, ?_⟩
    cases l with
    | nil => rfl
    | cons c r => simp at hn
  · right
    exact ⟨g, cap, e, hB, lt_of_block hg⟩
theorem OwnO.shape2 {w : World} {B : Nat} {v : Value} {l : List Do.Oc} (h : OwnO w B v l) : ∃ ao cap, v = .slice ao l.length cap := by
  rcases h.shape with ⟨rfl, rfl⟩ | ⟨g, cap, rfl, _, _⟩
  · exact ⟨none, 0, rfl⟩
  · exact ⟨_, cap, rfl⟩
theorem OwnO.cell {w : World} {B g cap n : Nat} {l : List Do.Oc} (h : OwnO w B (.slice (some ⟨g, 0, none⟩) n cap) l) (hn : l.length = n) (k : Nat) (o : Do.Oc) (ho : l[k]? = some o) :
    w.cell? ⟨g, k * 2, none⟩ = some (.int .i64 (o.id : Int)) ∧ w.cell? ⟨g, k * 2 + 1, none⟩ = some (.int .i64 (o.at' : Int)) := by
  subst hn
  have hk : k < l.length := by
    rcases Nat.lt_or_ge k l.length with h | h
    · exact h
    · rw [List.getElem?_eq_none h] at ho; cases ho
  refine ⟨?_, ?_⟩
  · rw [World.ownsRow.cellAt h (k * 2) (by omega)]
    have := OC_get l k 0 o ho (by omega)
    simpa [OC1] using this
  · rw [World.ownsRow.cellAt h (k * 2 + 1) (by omega)]
    have := OC_get l k 1 o ho (by omega)
    simpa [OC1] using this
theorem kinds_apartO {w : World} {B C : Nat} {v1 v2 : Value} {n1 n2 : Nat} {x1 x2 : List Value} (h1 : w.ownsRow B 147 3 v1 n1 x1) (h2 : w.ownsRow C 77 2 v2 n2 x2) : v1.ownBlock = none ∨ v1.ownBlock ≠ v2.ownBlock := by
  rcases h1.2 with ⟨e1, _⟩ | ⟨g1, cap1, cur1, e1, _, hg1, _⟩
  · left; rw [e1]; rfl
  · right
    rcases h2.2 with ⟨e2, _⟩ | ⟨g2, cap2, cur2, e2, _, hg2, _⟩
    · rw [e1, e2]; simp [Value.ownBlock]
    · rw [e1, e2]
      intro e
      simp [Value.ownBlock] at e
      rw [e, hg2] at hg1
      simp at hg1
theorem oc_step {w w1 w0 : World} {B C : Nat} {v v' f : Value} {m : List Do.Oc} {cs : List Do.Chg} {b : Do.Oc} {o : Obj} (hf : OwnC w C f cs) (hu : OwnO w B v m) (hbl : Below B w0 w) (hB : B ≤ w.heap.size)
    (h1 : w1.ownsRow B 77 2 v' (m.length + 1) (OC m ++ OC1 b)) (h2 : (w.alloc o).grownBy w1 v.ownBlock) : OwnC w1 C f cs ∧ OwnO w1 B v' (m ++ [b]) ∧ Below B w0 w1 := by
  have hf' : OwnC (w.alloc o) C f cs := World.ownsRow.alloc hf o
  have hu' : OwnO (w.alloc o) B v m := World.ownsRow.alloc hu o
  refine ⟨World.ownsRow.kept hf' h2 (kinds_apartO hf' hu'), ?_, (hbl.alloc hB o).grown h2 (by simp; omega) (fun k hk => (World.ownsRow.lt hu k hk).1)⟩
  unfold OwnO
  rw [OC_append, List.length_append]
  have : OC [b] = OC1 b := by simp [OC]
  rw [this]; exact h1

set_option maxHeartbeats 2000000 in
theorem hits_any (r : Nat) (a b p : Int) (cs : List Do.Chg) (s : ByteArray) (w : World) (hl : cs.length ≤ 2000000000000) (hth : (Do.there cs).length ≤ 1000) (hd : ∀ c ∈ cs, c.doc.size ≤ 40) (h : IdxAt w r a b p cs) (hs : s.size ≤ 1000000) :
    Calls Try.prog 96 #[.pointer (some ⟨r, 0, none⟩), .string s] w fun e w' => ∃ v, e = .returned v ∧ OwnO w' w.heap.size v (Do.hits (Do.there cs) s.data.toList) ∧ Below w.heap.size w w' := by
  obtain ⟨i0, hi, hz0, hz1, hz2⟩ := info_parts Try.info77
  have hlen : (Do.there cs).length ≤ 1000 := hth
  obtain ⟨L, hL⟩ : ∃ L, Do.there cs = L := ⟨_, rfl⟩
  have HTH : Hid (Do.there cs = L) := hL
  have hdL : Hid (∀ c ∈ L, c.doc.size ≤ 40) := fun c hc => hd c (there_mem cs _ c (by rw [← hL] at hc; exact hc))
  rw [hL] at hlen
  clear hth
  rw [hL]
  clear hL hd
  go_enter Try.func96, Try.ntmps96
  go_wp2_with fail
  refine (there_any r a b p cs _ (by omega) h).mono ?_
  rintro e w1 ⟨u, rfl, hu, hb1⟩
  rw [HTH.out] at hu
  clear HTH h
  rcases hu.shape with ⟨rfl, rfl⟩ | ⟨g, cap, rfl, _, _⟩
  · go_wp2
    refine wp_loop_rounds 1 ?_
    rw [rounds_succ]
    go_wp2
    go_ret
    exact ⟨_, rfl, World.ownsRow_nil _ _ _ _, hb1⟩
  · go_wp2
    go_loopw [6, 7] (fun v i wr => ∃ k : Nat, k ≤ L.length ∧ i = .int .i64 k ∧ OwnO wr w.heap.size v (Do.hitsTo L s.data.toList k) ∧ OwnC wr w.heap.size (.slice (some ⟨g, 0, none⟩) L.length cap) L ∧ Below w.heap.size w wr) (fun _ i _ => L.length - (intOf i).toNat)
    case atStart => exact ⟨0, Nat.zero_le _, rfl, World.ownsRow_nil _ _ _ _, hu, hb1⟩
    case round =>
      obtain ⟨k, hk, rfl, ho, hc, hb⟩ := hrel
      clear hu hb1
      obtain ⟨wo, hwo⟩ : ∃ wo, wo = wr := ⟨_, rfl⟩
      subst hwo
      by_cases hlt : k < L.length
      · obtain ⟨c, hck⟩ : ∃ c, L[k]? = some c := ⟨L[k], List.getElem?_eq_getElem hlt⟩
        have hc40 := hdL.out c (List.mem_of_getElem? hck)
        have hto := Do.hitsTo_len L s.data.toList hdL.out k
        have HC : Hid (L[k]? = some c) := hck
        clear hck
        have hkd : decide ((k : Int) < (L.length : Int)) = true := by rw [decide_eq_true_eq]; omega
        go_wp2
        go_loopw [6, 8] (fun v i wr => ∃ j : Nat, j ≤ c.doc.size ∧ i = .int .i64 j ∧ OwnO wr w.heap.size v (Do.hitsTo L s.data.toList k ++ Do.hitsIn c s.data.toList j) ∧ OwnC wr w.heap.size (.slice (some ⟨g, 0, none⟩) L.length cap) L ∧ Below w.heap.size w wr) (fun _ i _ => c.doc.size - (intOf i).toNat)
        case atStart => exact ⟨0, Nat.zero_le _, rfl, by simpa [Do.hitsIn] using ho, hc, hb⟩
        case round =>
          obtain ⟨j, hj, rfl, ho2, hc2, hb2⟩ := hrel
          clear ho hc hb
          obtain ⟨_, x1, x2⟩ := hc2.cell rfl k c HC.out
          have hin := Do.hitsIn_len c s.data.toList j
          have hal : (Do.hitsTo L s.data.toList k ++ Do.hitsIn c s.data.toList j).length ≤ 40 * k + j := by rw [List.length_append]; omega
          by_cases hjd : j < c.doc.size
          · obtain ⟨q, hq⟩ : ∃ q, Fo.pre c.doc.data.toList s.data.toList j = q := ⟨_, rfl⟩
            have HQ : Hid (Fo.pre (c.doc.extract j c.doc.size).data.toList s.data.toList 0 = q) := by show Fo.pre (c.doc.extract j c.doc.size).data.toList s.data.toList 0 = q; rw [Lib.extract_to_end, pre_drop]; exact hq
            have HP : Hid (Fo.pre c.doc.data.toList s.data.toList j = q) := hq
            clear hq
            cases q
            · go_wp2_with fail
              refine (begins_at _ _ false HQ.out _ (ext_le c.doc j (by omega)) (by omega)).mono ?_
              rintro e w2 ⟨rfl, hw2⟩; rw [hw2]; clear hw2
              go_wp2
              go_roundw
              case rel => exact ⟨j + 1, by omega, by go_num, by rw [Do.hitsIn_miss c _ j HP.out]; exact ho2, hc2, hb2⟩
              case measure => simp [intOf]; omega
            · go_wp2_with fail
              refine (begins_at _ _ true HQ.out _ (ext_le c.doc j (by omega)) (by omega)).mono ?_
              rintro e w2 ⟨rfl, hw2⟩; rw [hw2]; clear hw2
              go_wp2_with (at_builtin; refine wpList_append_own _ rfl _ _ 66 rfl w.heap.size 77 i0 (.agg #[.int .i64 0, .int .i64 0]) 2 16 Try.underlying66 hi hz0 hz1 hz2 rfl (by decide) _ _ _ rfl (World.ownsRow.alloc ho2 _) ⟨wr.heap.size, 0, none⟩ 1 1 (OC1 ⟨c.id, j⟩) rfl rfl (World.news_of_block (cs := #[.int .i64 (c.id : Int), .int .i64 (j : Int)]) (heap_alloc_new wr _)) (by intro u hu2; simp [OC1] at hu2; rcases hu2 with rfl | rfl <;> rfl) (by unfold maxLen; omega) (by omega) (by have := hb2.size; simp; omega) ?_; intro v' w3 hown3 hgrow3 _)
              have R := oc_step hc2 ho2 hb2 hb2.size hown3 hgrow3
              clear hown3 hgrow3 ho2 hb2 hc2
              go_wp2
              go_roundw
              case rel => exact ⟨j + 1, by omega, by go_num, by rw [Do.hitsIn_hit c _ j HP.out, ← List.append_assoc]; exact R.2.1, R.1, R.2.2⟩
              case measure => simp [intOf]; omega
          · have hje : j = c.doc.size := by omega
            subst hje
            go_wp2
            go_roundw
            case rel => exact ⟨k + 1, by omega, by go_num, by rw [Do.hitsTo_succ L _ k c HC.out]; exact ho2, hc2, hb2⟩
            case measure => simp [intOf]; omega
      · have hke : k = L.length := by omega
        subst hke
        go_wp2
        go_ret
        exact ⟨_, rfl, ho, hb⟩

end Go.Proofs.Ytpikkedeoebiaaa
