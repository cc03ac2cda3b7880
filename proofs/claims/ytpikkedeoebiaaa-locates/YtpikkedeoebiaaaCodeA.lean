/- The code's index in memory. -/
import Derived.Test.YtpikkedeoebiaaaWalkK
import Derived.Test.YtpikkedeoebiaaaRefS
import Derived.Test.YtpikkedeoebiaaaDocE
namespace Go.Proofs.Ytpikkedeoebiaaa
open Go.RowKit
set_option maxRecDepth 100000

theorem Try.info126 : (Try.prog.info? 126).map (fun i => (i.zero, i.size, i.bytes)) = some (some (.agg #[.int .i64 0, .string ⟨#[]⟩]), 2, 24) := by kernel_rfl

/-- a document's cells -/
def DD1 (c : Do.Chg) : List Value := [.int .i64 (c.id : Int), .string c.doc]
def DD (cs : List Do.Chg) : List Value := cs.flatMap DD1
theorem DD_append (a b : List Do.Chg) : DD (a ++ b) = DD a ++ DD b := by simp [DD]
theorem DD_get (cs : List Do.Chg) (k j : Nat) (c : Do.Chg) (hc : cs[k]? = some c) (hj : j < 2) : (DD cs)[k * 2 + j]? = (DD1 c)[j]? := by
  induction cs generalizing k with
  | nil => simp at hc
  | cons d r ih =>
    cases k with
    | zero =>
      simp at hc; subst hc
      show (DD1 d ++ DD r)[0 * 2 + j]? = _
      rw [Nat.zero_mul, Nat.zero_add, List.getElem?_append_left (by show j < 2; exact hj)]
    | succ k =>
      simp at hc
      show (DD1 d ++ DD r)[(k + 1) * 2 + j]? = _
      rw [List.getElem?_append_right (by show 2 ≤ _; omega), ← ih k hc]
      congr 1
      show (k + 1) * 2 + j - 2 = _; omega

/-- a row of documents -/
def OwnD (w : World) (B : Nat) (v : Value) (cs : List Do.Chg) : Prop := w.ownsRow B 126 2 v cs.length (DD cs)
theorem OwnD.below {w w' : World} {B : Nat} {v : Value} {cs : List Do.Chg} (h : OwnD w B v cs) (hb : Below w.heap.size w w') : OwnD w' B v cs := row_below h hb
theorem OwnD.cell {w : World} {B g cap n : Nat} {cs : List Do.Chg} (h : OwnD w B (.slice (some ⟨g, 0, none⟩) n cap) cs) (hn : cs.length = n) (k : Nat) (c : Do.Chg) (hc : cs[k]? = some c) :
    w.cell? ⟨g, k * 2, none⟩ = some (.int .i64 (c.id : Int)) ∧ w.cell? ⟨g, k * 2 + 1, none⟩ = some (.string c.doc) := by
  subst hn
  have hk : k < cs.length := by
    rcases Nat.lt_or_ge k cs.length with h | h
    · exact h
    · rw [List.getElem?_eq_none h] at hc; cases hc
  refine ⟨?_, ?_⟩
  · rw [World.ownsRow.cellAt h (k * 2) (by omega)]
    have := DD_get cs k 0 c hc (by omega)
    simpa [DD1] using this
  · rw [World.ownsRow.cellAt h (k * 2 + 1) (by omega)]
    have := DD_get cs k 1 c hc (by omega)
    simpa [DD1] using this
theorem OwnD.shape {w : World} {B : Nat} {v : Value} {cs : List Do.Chg} (h : OwnD w B v cs) : (v = .slice none 0 0 ∧ cs = []) ∨ (∃ g cap, v = .slice (some ⟨g, 0, none⟩) cs.length cap ∧ B ≤ g ∧ g < w.heap.size) := by
  rcases h.2 with ⟨e, hn⟩ | ⟨g, cap, cur, e, hB, hg, _⟩
  · left
    refine ⟨e, ?_⟩
    cases cs with
    | nil => rfl
    | cons c r => simp at hn
  · right
    exact ⟨g, cap, e, hB, lt_of_block hg⟩
theorem OwnD.shape2 {w : World} {B : Nat} {v : Value} {cs : List Do.Chg} (h : OwnD w B v cs) : ∃ ao cap, v = .slice ao cs.length cap ∧ ∀ k c, cs[k]? = some c → ∃ g, ao = some ⟨g, 0, none⟩ ∧ w.cell? ⟨g, k * 2, none⟩ = some (.int .i64 (c.id : Int)) ∧ w.cell? ⟨g, k * 2 + 1, none⟩ = some (.string c.doc) := by
  rcases h.shape with ⟨rfl, rfl⟩ | ⟨g, cap, rfl, _, _⟩
  · exact ⟨none, 0, rfl, fun k c hc => by simp at hc⟩
  · exact ⟨_, cap, rfl, fun k c hc => ⟨g, rfl, h.cell rfl k c hc⟩⟩
theorem OwnD.weaken {w : World} {B C : Nat} {v : Value} {cs : List Do.Chg} (h : OwnD w B v cs) (hc : C ≤ B) : OwnD w C v cs := by
  refine ⟨h.1, ?_⟩
  rcases h.2 with hn | ⟨g1, cap, cur, e, hB, rest⟩
  · exact .inl hn
  · exact .inr ⟨g1, cap, cur, e, Nat.le_trans hc hB, rest⟩

/-- the code's index, whole: its configuration, its documents, the next id, the version -/
def CodeAt (w : World) (x : Nat) (a b p : Int) (v : Value) (n m : Int) : Prop := w.heap[x]? = some (.cells #[.int .i64 a, .int .i64 b, .int .i64 p, v, .int .i64 n, .int .i64 m] 107 (0, 0))
section
variable {w w' : World} {x : Nat} {a b p : Int} {v : Value} {n m : Int}
theorem CodeAt.lt (h : CodeAt w x a b p v n m) : x < w.heap.size := lt_of_block h
theorem CodeAt.below (h : CodeAt w x a b p v n m) (hb : Below w.heap.size w w') : CodeAt w' x a b p v n m := (hb.block x h.lt).trans h
theorem CodeAt.c0 (h : CodeAt w x a b p v n m) : w.cell? ⟨x, 0, none⟩ = some (.int .i64 a) := by rw [cell_of_row w x 0 _ 107 (0, 0) h]; rfl
theorem CodeAt.c2 (h : CodeAt w x a b p v n m) : w.cell? ⟨x, 2, none⟩ = some (.int .i64 p) := by rw [cell_of_row w x 2 _ 107 (0, 0) h]; rfl
theorem CodeAt.c3 (h : CodeAt w x a b p v n m) : w.cell? ⟨x, 3, none⟩ = some v := by rw [cell_of_row w x 3 _ 107 (0, 0) h]; rfl
theorem CodeAt.c4 (h : CodeAt w x a b p v n m) : w.cell? ⟨x, 4, none⟩ = some (.int .i64 n) := by rw [cell_of_row w x 4 _ 107 (0, 0) h]; rfl
theorem CodeAt.c5 (h : CodeAt w x a b p v n m) : w.cell? ⟨x, 5, none⟩ = some (.int .i64 m) := by rw [cell_of_row w x 5 _ 107 (0, 0) h]; rfl
theorem CodeAt.free (h : CodeAt w x a b p v n m) (j : Nat) : w.frozen? ⟨x, j, none⟩ = false := frozen_of_row w x j _ 107 h
theorem CodeAt.set3 (h : CodeAt w x a b p v n m) (u : Value) : CodeAt (w.setCell ⟨x, 3, none⟩ u) x a b p u n m := (heap_setCell_same w x 3 _ 107 _ h).trans rfl
theorem CodeAt.set4 (h : CodeAt w x a b p v n m) (u : Int) : CodeAt (w.setCell ⟨x, 4, none⟩ (.int .i64 u)) x a b p v u m := (heap_setCell_same w x 4 _ 107 _ h).trans rfl
theorem CodeAt.set5 (h : CodeAt w x a b p v n m) (u : Int) : CodeAt (w.setCell ⟨x, 5, none⟩ (.int .i64 u)) x a b p v n u := (heap_setCell_same w x 5 _ 107 _ h).trans rfl
theorem CodeAt.kept {row : Option Nat} (h : CodeAt w x a b p v n m) (hg : w.grownBy w' row) (hne : row ≠ some x) : CodeAt w' x a b p v n m := (hg.block x h.lt (fun e => hne e.symm)).trans h
theorem OwnD.apart {B : Nat} {u : Value} {cs : List Do.Chg} (h : CodeAt w x a b p u n m) (k : OwnD w B v cs) : v.ownBlock ≠ some x := by
  intro e
  rcases k.2 with ⟨h2, _⟩ | ⟨g2, cap2, cur2, h2, _, hg2, _⟩
  · rw [h2] at e; simp [Value.ownBlock] at e
  · rw [h2] at e
    simp [Value.ownBlock] at e
    rw [e, h] at hg2
    simp at hg2
end

set_option maxHeartbeats 400000 in
theorem cBytes_any (x : Nat) (B : Nat) (v : Value) (cs : List Do.Chg) (z : Nat) (w : World) (hz : Do.size cs = z) (hl : cs.length ≤ 1000) (hd : ∀ c ∈ cs, c.doc.size ≤ 40) (h3 : w.cell? ⟨x, 3, none⟩ = some v) (h : OwnD w B v cs) :
    Calls Try.prog 89 #[.pointer (some ⟨x, 3, none⟩)] w fun e w' => e = .returned (.int .i64 (z : Int)) ∧ Below w.heap.size w w' := by
  obtain ⟨ao, cap, rfl, hc⟩ := h.shape2
  have HC : Hid (∀ k c, cs[k]? = some c → ∃ g, ao = some ⟨g, 0, none⟩ ∧ w.cell? ⟨g, k * 2, none⟩ = some (.int .i64 (c.id : Int)) ∧ w.cell? ⟨g, k * 2 + 1, none⟩ = some (.string c.doc)) := hc
  have HD : Hid (∀ c ∈ cs, c.doc.size ≤ 40) := hd
  have HZ : Hid (Do.sizeTo cs cs.length = z) := hz
  clear hc hd hz
  go_enter Try.func89, Try.ntmps89
  go_wp2
  go_loopw [3, 11] (fun s i wr => ∃ k : Nat, k ≤ cs.length ∧ i = .int .i64 k ∧ s = .int .i64 (Do.sizeTo cs k : Nat) ∧ Below w.heap.size w wr) (fun _ i _ => cs.length - (intOf i).toNat)
  case atStart => exact ⟨0, Nat.zero_le _, rfl, rfl, Below.refl _ _⟩
  case round =>
    obtain ⟨k, hk, rfl, rfl, hb⟩ := hrel
    have hle := Do.sizeTo_le cs HD.out k
    by_cases hlt : k < cs.length
    · obtain ⟨c, hck⟩ : ∃ c, cs[k]? = some c := ⟨cs[k], List.getElem?_eq_getElem hlt⟩
      obtain ⟨g, rfl, x0, x1⟩ := HC.out k c hck
      have hg : g < w.heap.size := World.block_lt_of_cell? w _ x0
      have y0 := (hb.cell (p := ⟨g, k * 2, none⟩) hg).trans x0
      have y1 := (hb.cell (p := ⟨g, k * 2 + 1, none⟩) hg).trans x1
      have HS : Hid (Do.sizeTo cs (k + 1) = Do.sizeTo cs k + c.doc.size) := Do.sizeTo_succ cs k c hck
      have hcd := HD.out c (List.mem_of_getElem? hck)
      clear hck x0 x1
      generalize Do.sizeTo cs k = sk at *
      go_wp2
      go_roundw
      case rel => exact ⟨k + 1, by omega, by go_num, by rw [HS.out]; go_num, hb.alloc hb.size _⟩
      case measure => simp [intOf]; omega
    · have hke : k = cs.length := by omega
      subst hke
      go_wp2
      go_ret
      exact ⟨ret_int (by rw [HZ.out]), hb⟩

set_option maxHeartbeats 400000 in
theorem cDocs_any (x : Nat) (ao : Option Addr) (n cap : Nat) (w : World) (h3 : w.cell? ⟨x, 3, none⟩ = some (.slice ao n cap)) :
    Calls Try.prog 90 #[.pointer (some ⟨x, 3, none⟩)] w fun e w' => e = .returned (.int .i64 (n : Int)) ∧ w' = w := by
  go_enter Try.func90, Try.ntmps90
  go_wp2
  go_ret
  exact ⟨rfl, rfl⟩

/-- what Find answers -/
def fdRes (cs : List Do.Chg) (id : Int) : ByteArray × Bool := match Do.at? cs id with
  | none => (⟨#[]⟩, false)
  | some k => match cs[k]? with
    | none => (⟨#[]⟩, false)
    | some c => (c.doc, true)

set_option maxHeartbeats 400000 in
theorem cFind_any (x : Nat) (B : Nat) (v : Value) (cs : List Do.Chg) (id : Int) (r : ByteArray × Bool) (w : World) (hr : fdRes cs id = r) (hl : cs.length ≤ 1000) (h3 : w.cell? ⟨x, 3, none⟩ = some v) (h : OwnD w B v cs) :
    Calls Try.prog 55 #[.pointer (some ⟨x, 3, none⟩), .int .i64 id] w fun e w' => e = .returned (.tuple #[.string r.1, .bool r.2]) ∧ Below w.heap.size w w' := by
  obtain ⟨ao, cap, rfl, hc⟩ := h.shape2
  have HC : Hid (∀ k c, cs[k]? = some c → ∃ g, ao = some ⟨g, 0, none⟩ ∧ w.cell? ⟨g, k * 2, none⟩ = some (.int .i64 (c.id : Int)) ∧ w.cell? ⟨g, k * 2 + 1, none⟩ = some (.string c.doc)) := hc
  have HR : Hid (fdRes cs id = r) := hr
  clear hc hr
  go_enter Try.func55, Try.ntmps55
  go_wp2
  go_loopw [13] (fun i wr => ∃ k : Nat, k ≤ cs.length ∧ i = .int .i64 k ∧ Hid (∀ (j : Nat) (d : Do.Chg), j < k → cs[j]? = some d → ((d.id : Int) == id) = false) ∧ Below w.heap.size w wr) (fun i _ => cs.length - (intOf i).toNat)
  case atStart => exact ⟨0, Nat.zero_le _, rfl, fun j _ hj => by omega, Below.refl _ _⟩
  case round =>
    obtain ⟨k, hk, rfl, HN, hb⟩ := hrel
    by_cases hlt : k < cs.length
    · obtain ⟨c, hck⟩ : ∃ c, cs[k]? = some c := ⟨cs[k], List.getElem?_eq_getElem hlt⟩
      obtain ⟨g, rfl, x0, x1⟩ := HC.out k c hck
      have hg : g < w.heap.size := World.block_lt_of_cell? w _ x0
      have y0 := (hb.cell (p := ⟨g, k * 2, none⟩) hg).trans x0
      have y1 := (hb.cell (p := ⟨g, k * 2 + 1, none⟩) hg).trans x1
      have HK : Hid (cs[k]? = some c) := hck
      clear hck x0 x1
      by_cases he : (c.id : Int) = id
      · have he1 : ((c.id : Int) == id) = true := by rw [beq_iff_eq]; exact he
        have HE : Hid (r = (c.doc, true)) := by
          show r = (c.doc, true)
          rw [← HR.out]
          unfold fdRes
          rw [Do.at_some cs id k c HK.out he1 HN.out]
          simp only [HK.out]
        clear he HN HK
        go_wp2
        go_ret2
        exact ⟨by rw [HE.out]; rfl, hb.alloc hb.size _⟩
      · have he1 : ((c.id : Int) == id) = false := by rw [beq_eq_false_iff_ne]; exact he
        have HN2 : Hid (∀ (j : Nat) (d : Do.Chg), j < k + 1 → cs[j]? = some d → ((d.id : Int) == id) = false) := fun j d hj hd => by
          rcases Nat.lt_or_ge j k with h | h
          · exact HN.out j d h hd
          · have : j = k := by omega
            subst this
            rw [HK.out] at hd; cases hd; exact he1
        clear he HN HK
        go_wp2
        go_roundw
        case rel => exact ⟨k + 1, by omega, by go_num, HN2, hb.alloc hb.size _⟩
        case measure => simp [intOf]; omega
    · have hke : k = cs.length := by omega
      subst hke
      have HE : Hid (r = (⟨#[]⟩, false)) := by
        show r = (⟨#[]⟩, false)
        rw [← HR.out]
        unfold fdRes
        rw [Do.at_none cs id (fun j d hd => HN.out j d (by
          rcases Nat.lt_or_ge j cs.length with h | h
          · exact h
          · rw [List.getElem?_eq_none h] at hd; cases hd) hd)]
      clear HN
      go_wp2
      go_ret2
      exact ⟨by rw [HE.out]; rfl, hb⟩

set_option maxHeartbeats 400000 in
theorem cCount_any (x : Nat) (B : Nat) (v : Value) (cs : List Do.Chg) (s : ByteArray) (z : Nat) (w : World) (hz : (Do.hits cs s.data.toList).length = z) (hl : cs.length ≤ 1000) (hd : ∀ c ∈ cs, c.doc.size ≤ 40) (hs : 1 ≤ s.size ∧ s.size ≤ 16) (h3 : w.cell? ⟨x, 3, none⟩ = some v) (h : OwnD w B v cs) :
    Calls Try.prog 57 #[.pointer (some ⟨x, 3, none⟩), .string s] w fun e w' => e = .returned (.int .i64 (z : Int)) ∧ Below w.heap.size w w' := by
  obtain ⟨ao, cap, rfl, hc⟩ := h.shape2
  have HC : Hid (∀ k c, cs[k]? = some c → ∃ g, ao = some ⟨g, 0, none⟩ ∧ w.cell? ⟨g, k * 2, none⟩ = some (.int .i64 (c.id : Int)) ∧ w.cell? ⟨g, k * 2 + 1, none⟩ = some (.string c.doc)) := hc
  have HD : Hid (∀ c ∈ cs, c.doc.size ≤ 40) := hd
  have HZ : Hid ((Do.hitsTo cs s.data.toList cs.length).length = z) := hz
  have hp : Hid (s.data.toList ≠ []) := fun e => by have h1 := size_len s; rw [e] at h1; simp at h1; omega
  clear hc hd hz
  go_enter Try.func57, Try.ntmps57
  go_wp2
  go_loopw [5, 13] (fun q i wr => ∃ k : Nat, k ≤ cs.length ∧ i = .int .i64 k ∧ q = .int .i64 ((Do.hitsTo cs s.data.toList k).length : Nat) ∧ Below w.heap.size w wr) (fun _ i _ => cs.length - (intOf i).toNat)
  case atStart => exact ⟨0, Nat.zero_le _, rfl, rfl, Below.refl _ _⟩
  case round =>
    obtain ⟨k, hk, rfl, rfl, hb⟩ := hrel
    have hle := Do.hitsTo_len cs s.data.toList HD.out k
    by_cases hlt : k < cs.length
    · obtain ⟨c, hck⟩ : ∃ c, cs[k]? = some c := ⟨cs[k], List.getElem?_eq_getElem hlt⟩
      obtain ⟨g, rfl, x0, x1⟩ := HC.out k c hck
      have hg : g < w.heap.size := World.block_lt_of_cell? w _ x0
      have y0 := (hb.cell (p := ⟨g, k * 2, none⟩) hg).trans x0
      have y1 := (hb.cell (p := ⟨g, k * 2 + 1, none⟩) hg).trans x1
      have HS : Hid ((Do.hitsTo cs s.data.toList (k + 1)).length = (Do.hitsTo cs s.data.toList k).length + Fo.begun c.doc.data.toList s.data.toList) := by
        show (Do.hitsTo cs s.data.toList (k + 1)).length = _
        rw [Do.hitsTo_succ cs _ k c hck, List.length_append, Do.hitsIn_begun c _ hp.out]
      have hbl : Fo.begun c.doc.data.toList s.data.toList ≤ 41 := by
        have h1 := Fo.cnt_le (Fo.pre c.doc.data.toList s.data.toList) (c.doc.data.toList.length + 1)
        rw [size_len] at h1
        have h2 := HD.out c (List.mem_of_getElem? hck)
        show Fo.cnt _ (c.doc.data.toList.length + 1) ≤ _
        rw [size_len]; omega
      have hcd := HD.out c (List.mem_of_getElem? hck)
      have HB : Hid (∀ w, Calls Try.prog 66 #[.string c.doc, .string s] w fun e w' => e = .returned (.int .i64 (Fo.begun c.doc.data.toList s.data.toList : Nat)) ∧ w' = w) := fun w => begun_any c.doc s w (by omega) (by omega)
      clear hck x0 x1
      generalize (Do.hitsTo cs s.data.toList k).length = sk at *
      generalize Fo.begun c.doc.data.toList s.data.toList = bk at *
      go_wp2_with fail
      refine (HB.out _).mono ?_
      rintro e w1 ⟨rfl, hw1⟩; rw [hw1]; clear hw1
      go_wp2_with fail
      go_roundw
      case rel => exact ⟨k + 1, by omega, by go_num, by rw [HS.out]; go_num, hb.alloc hb.size _⟩
      case measure => simp [intOf]; omega
    · have hke : k = cs.length := by omega
      subst hke
      go_wp2
      go_ret
      exact ⟨ret_int (by rw [HZ.out]), hb⟩

/-- a row of documents and one of numbers -/
theorem kinds_apartD {w : World} {B C : Nat} {v1 v2 : Value} {n1 n2 : Nat} {x1 x2 : List Value} {e : TypeId} {sz : Nat} (h1 : w.ownsRow B 126 2 v1 n1 x1) (h2 : w.ownsRow C e sz v2 n2 x2) (he : 126 ≠ e) : v1.ownBlock = none ∨ v1.ownBlock ≠ v2.ownBlock := by
  rcases h1.2 with ⟨e1, _⟩ | ⟨g1, cap1, cur1, e1, _, hg1, _⟩
  · left; rw [e1]; rfl
  · right
    rcases h2.2 with ⟨e2, _⟩ | ⟨g2, cap2, cur2, e2, _, hg2, _⟩
    · rw [e1, e2]; simp [Value.ownBlock]
    · rw [e1, e2]
      intro e
      simp [Value.ownBlock] at e
      rw [e, hg2] at hg1
      simp at hg1
      exact he hg1.2.symm

theorem news_two (w : World) (o : Obj) (cs : Array Value) (t : TypeId) : ∀ (j : Nat) (u : Value), cs.toList[j]? = some u → ((w.alloc o).alloc (.cells cs t)).cell? ((⟨w.heap.size + 1, 0, none⟩ : Addr).add j) = some u := by
  have h := World.news_of_block (cs := cs) (heap_alloc_new (w.alloc o) (.cells cs t))
  rw [show (w.alloc o).heap.size = w.heap.size + 1 from by simp] at h
  exact h

set_option maxHeartbeats 400000 in
theorem cIds_any (x : Nat) (B : Nat) (v : Value) (cs : List Do.Chg) (t : Int) (n : Nat) (w : World) (hl : cs.length ≤ 1000) (hn : 1 ≤ n ∧ n ≤ 8) (h3 : w.cell? ⟨x, 3, none⟩ = some v) (h : OwnD w B v cs) :
    Calls Try.prog 75 #[.pointer (some ⟨x, 3, none⟩), .int .i64 t, .int .i64 (n : Int)] w fun e w' => ∃ u, e = .returned u ∧ OwnV w' w.heap.size u (Do.ids cs t n) ∧ Below w.heap.size w w' := by
  obtain ⟨i0, hi, hz0, hz1, hz2⟩ := info_parts Try.info3
  obtain ⟨ao, cap, rfl, hc⟩ := h.shape2
  have HC : Hid (∀ k c, cs[k]? = some c → ∃ g, ao = some ⟨g, 0, none⟩ ∧ w.cell? ⟨g, k * 2, none⟩ = some (.int .i64 (c.id : Int)) ∧ w.cell? ⟨g, k * 2 + 1, none⟩ = some (.string c.doc)) := hc
  clear hc
  go_enter Try.func75, Try.ntmps75
  go_wp2
  go_loopw [7, 15] (fun u i wr => ∃ k : Nat, k ≤ cs.length ∧ i = .int .i64 k ∧ OwnV wr w.heap.size u (Do.idsTo cs t n k) ∧ Below w.heap.size w wr) (fun _ i _ => cs.length - (intOf i).toNat)
  case atStart => exact ⟨0, Nat.zero_le _, rfl, World.ownsRow_nil _ _ _ _, Below.refl _ _⟩
  case round =>
    obtain ⟨k, hk, rfl, ho, hb⟩ := hrel
    have hil := Do.idsTo_len cs t n k
    obtain ⟨av, capo, rfl⟩ := ho.shape2
    by_cases hlt : k < cs.length
    · obtain ⟨c, hck⟩ : ∃ c, cs[k]? = some c := ⟨cs[k], List.getElem?_eq_getElem hlt⟩
      obtain ⟨g, rfl, x0, x1⟩ := HC.out k c hck
      have hg : g < w.heap.size := World.block_lt_of_cell? w _ x0
      have y0 := (hb.cell (p := ⟨g, k * 2, none⟩) hg).trans x0
      have y1 := (hb.cell (p := ⟨g, k * 2 + 1, none⟩) hg).trans x1
      have HK : Hid (cs[k]? = some c) := hck
      clear hck x0 x1
      obtain ⟨M, hM⟩ : ∃ M, Do.idsTo cs t n k = M := ⟨_, rfl⟩
      have HM : Hid (Do.idsTo cs t n k = M) := hM
      rw [hM] at hil ho
      rw [hM]
      clear hM
      by_cases h1 : t < (c.id : Int)
      · by_cases h2 : M.length < n
        · have h2i : (M.length : Int) < (n : Int) := by omega
          have HN : Hid (Do.idsTo cs t n (k + 1) = M ++ [c.id]) := by show Do.idsTo cs t n (k + 1) = _; rw [Do.idsTo_hit cs t n k c HK.out h1 (by rw [HM.out]; exact h2), HM.out]
          have ho2 : OwnV (wr.alloc (.cells #[.int .i64 (c.id : Int), .string c.doc] 126)) w.heap.size (.slice av M.length capo) M := World.ownsRow.alloc ho _
          have hb2 : Below w.heap.size w (wr.alloc (.cells #[.int .i64 (c.id : Int), .string c.doc] 126)) := hb.alloc hb.size _
          go_wp2_with (at_builtin; refine wpList_append_own _ rfl _ _ 26 rfl w.heap.size 3 i0 (.int .i64 0) 1 8 Try.underlying26 hi hz0 hz1 hz2 rfl (by decide) _ _ _ rfl (World.ownsRow.alloc ho2 _) ⟨wr.heap.size + 1, 0, none⟩ 1 1 [.int .i64 (c.id : Int)] rfl rfl (news_two wr _ #[.int .i64 (c.id : Int)] _) (by intro u hu2; simp at hu2; subst hu2; rfl) (by unfold maxLen; omega) (by omega) (by have := hb2.size; simp at this ⊢; omega) ?_; intro v' w3 hown3 hgrow3 _)
          have R1 : OwnV w3 w.heap.size v' (M ++ [c.id]) := by
            rw [I_append] at hown3
            unfold OwnV
            simpa using hown3
          have R2 : Below w.heap.size w w3 := (hb2.alloc hb2.size _).grown hgrow3 (by have := hb2.size; simp at this ⊢; omega) (fun q hq => (World.ownsRow.lt ho2 q hq).1)
          clear hown3 hgrow3 ho2 hb2 ho hb
          go_wp2
          go_roundw
          case rel => exact ⟨k + 1, by omega, by go_num, by rw [HN.out]; exact R1, R2⟩
          case measure => simp [intOf]; omega
        · have h2i : decide ((M.length : Int) < (n : Int)) = false := by rw [decide_eq_false_iff_not]; omega
          have HMI : Hid (Do.idsTo cs t n (k + 1) = M) := by show Do.idsTo cs t n (k + 1) = M; rw [Do.idsTo_miss cs t n k c HK.out (by rw [HM.out]; omega), HM.out]
          go_wp2
          go_roundw
          case rel => exact ⟨k + 1, by omega, by go_num, by rw [HMI.out]; exact World.ownsRow.alloc ho _, hb.alloc hb.size _⟩
          case measure => simp [intOf]; omega
      · have h1i : decide (t < (c.id : Int)) = false := by rw [decide_eq_false_iff_not]; omega
        have HMI : Hid (Do.idsTo cs t n (k + 1) = M) := by show Do.idsTo cs t n (k + 1) = M; rw [Do.idsTo_miss cs t n k c HK.out (by omega), HM.out]
        go_wp2
        go_roundw
        case rel => exact ⟨k + 1, by omega, by go_num, by rw [HMI.out]; exact World.ownsRow.alloc ho _, hb.alloc hb.size _⟩
        case measure => simp [intOf]; omega
    · have hke : k = cs.length := by omega
      subst hke
      go_wp2
      go_ret
      exact ⟨_, rfl, ho, hb⟩

end Go.Proofs.Ytpikkedeoebiaaa
