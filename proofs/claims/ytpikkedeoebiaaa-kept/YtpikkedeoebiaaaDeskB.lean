/- Walks of the desk: inserts. -/
import Derived.Test.YtpikkedeoebiaaaDeskA
namespace Go.Proofs.Ytpikkedeoebiaaa
open Go.RowKit
set_option maxRecDepth 100000

theorem Try.info9 : (Try.prog.info? 9).map (fun i => (i.zero, i.size, i.bytes)) = some (some (.string ⟨#[]⟩), 1, 16) := by kernel_rfl

section
variable {M : Nat} {At : World → Nat → Int → Int → Int → List Do.Chg → (Nat → Prop) → Prop} {w w' : World} {dk x : Nat} {a b p : Int} {cs : List Do.Chg} {mv : Int} {vi vd : Value} {F G : Nat → Prop}

/-- the index has turned, and not the desk -/
theorem DeskIn.turned (h : DeskIn At w dk x a b p cs mv vi vd F G) (ho : Only F w w') : DeskAt w' dk x a b p vi vd (insTo cs cs.length : Nat) (Do.size (Do.there cs) : Nat) mv ∧ w'.ownsRow 0 3 1 vi (Do.there cs).length (ID (Do.there cs)) ∧ w'.ownsRow 0 9 1 vd (Do.there cs).length (SD (Do.there cs)) :=
  ⟨h.blk.same (ho.block dk (h.lt dk h.gd) h.nd), row_kept h.ri fun g hg => ho.block g (h.lt g (h.gi g hg)) (h.ni g hg), row_kept h.rd fun g hg => ho.block g (h.lt g (h.gv g hg)) (h.nv g hg)⟩

/-- an index that has turned, with the same changes -/
theorem DeskIn.refused (h : DeskIn At w dk x a b p cs mv vi vd F G) (ho : Only F w w') {Fn : Nat → Prop} (hi : At w' x a b p cs Fn) (hF : ∀ k, Fn k → F k ∨ w.heap.size ≤ k) (hl : ∀ k, Fn k → k < w'.heap.size) : Moved At dk a b p cs mv G w w' := by
  obtain ⟨t1, t2, t3⟩ := h.turned ho
  refine ⟨ho.mono h.gf, fun k => Fn k ∨ k = dk ∨ vi.ownBlock = some k ∨ vd.ownBlock = some k, ⟨x, vi, vd, Fn, ?_⟩, ?_⟩
  · have hn : ∀ k, k < w.heap.size → ¬ F k → ¬ Fn k := fun k h1 h2 h3 => by
      rcases hF k h3 with h4 | h4
      · exact h2 h4
      · omega
    exact {
      blk := t1
      ri := t2
      rd := t3
      idx := hi
      fair := h.fair
      conf := h.conf
      nd := hn dk (h.lt dk h.gd) h.nd
      ni := fun g hg => hn g (h.lt g (h.gi g hg)) (h.ni g hg)
      nv := fun g hg => hn g (h.lt g (h.gv g hg)) (h.nv g hg)
      gd := .inr (.inl rfl)
      gf := fun k hk => .inl hk
      gi := fun g hg => .inr (.inr (.inl hg))
      gv := fun g hg => .inr (.inr (.inr hg))
      lt := fun k hk => by
        rcases hk with hk | rfl | hk | hk
        · exact hl k hk
        · exact t1.lt
        · exact (World.ownsRow.lt t2 k hk).2
        · exact (World.ownsRow.lt t3 k hk).2 }
  · intro k hk
    rcases hk with hk | rfl | hk | hk
    · exact (hF k hk).imp (h.gf k) (fun h => h)
    · exact .inl h.gd
    · exact .inl (h.gi k hk)
    · exact .inl (h.gv k hk)

set_option maxHeartbeats 1000000 in
theorem dInserts_long (hC : Keeps M At 67 73 74 28 34 36 56 35) (s : ByteArray) (hm : cs.length ≤ M) (hs : s.size ≤ 9223372036854775807) (h : DeskIn At w dk x a b p cs mv vi vd F G) (h1 : 40 < s.size) :
    Calls Try.prog 53 #[.pointer (some ⟨dk, 0, none⟩), .string s] w fun e w' => e = .returned (.bool true) ∧ Moved At dk a b p cs mv G w w' := by
  have hI := hC.insert s hm hs h.idx
  have e1 : insRes cs a s = (0, 2, cs) := by unfold insRes; rw [if_pos h1]
  rw [e1] at hI
  have HI : Hid (Calls Try.prog 73 #[.pointer (some ⟨x, 0, none⟩), .string s] w fun e w' => e = .returned (.tuple #[.int .i64 0, .int .i64 2]) ∧ Only F w w' ∧ ∃ G, At w' x a b p cs G ∧ ∀ k, G k → F k ∨ w.heap.size ≤ k) := hI
  have c0 := h.blk.c0
  have d1 : decide ((40 : Int) < (s.size : Int)) = true := by rw [decide_eq_true_eq]; omega
  clear hI e1
  go_enter Try.func53, Try.ntmps53
  go_wp2_with fail
  refine HI.out.mono ?_
  rintro e w1 ⟨rfl, ho, Fn, hFn, hFm⟩
  have R := h.refused ho hFn hFm (hC.lt hFn)
  clear HI c0
  go_wp2_with fail
  go_ret
  exact ⟨rfl, R⟩

set_option maxHeartbeats 1000000 in
theorem dInserts_full (hC : Keeps M At 67 73 74 28 34 36 56 35) (s : ByteArray) (hm : cs.length ≤ M) (h : DeskIn At w dk x a b p cs mv vi vd F G) (h1 : s.size ≤ 40) (h2 : a < (Do.size (Do.there cs) : Int) + s.size ∨ 60 ≤ (Do.there cs).length) :
    Calls Try.prog 53 #[.pointer (some ⟨dk, 0, none⟩), .string s] w fun e w' => e = .returned (.bool true) ∧ Moved At dk a b p cs mv G w w' := by
  have hI := hC.insert s hm (by omega) h.idx
  have e1 : insRes cs a s = (0, 3, cs) := by unfold insRes; rw [if_neg (by omega), if_pos h2]
  rw [e1] at hI
  have HI : Hid (Calls Try.prog 73 #[.pointer (some ⟨x, 0, none⟩), .string s] w fun e w' => e = .returned (.tuple #[.int .i64 0, .int .i64 3]) ∧ Only F w w' ∧ ∃ G, At w' x a b p cs G ∧ ∀ k, G k → F k ∨ w.heap.size ≤ k) := hI
  have c0 := h.blk.c0
  have d1 : decide ((40 : Int) < (s.size : Int)) = false := by rw [decide_eq_false_iff_not]; omega
  have hsz : Do.size (Do.there cs) ≤ 40 * (Do.there cs).length := Do.sizeTo_le _ h.fair.docs _
  have hfew := h.fair.few
  clear hI e1
  go_enter Try.func53, Try.ntmps53
  go_wp2_with fail
  refine HI.out.mono ?_
  rintro e w1 ⟨rfl, ho, Fn, hFn, hFm⟩
  have HR : Hid (Moved At dk a b p cs mv G w w1) := h.refused ho hFn hFm (hC.lt hFn)
  obtain ⟨t1, t2, _⟩ := h.turned ho
  have HQ : Hid (∀ m, Moved At dk a b p cs mv G w (w1.drewN m)) := fun m => by
    have ho' : Only F w (w1.drewN m) := ho.trans (Only.of_below (below_drewN (Below.refl _ _) m))
    exact h.refused ho' (hC.frame hFn (Nat.le_refl _) (fun _ _ => rfl)) hFm (fun k hk => hC.lt hFn k hk)
  have c7 := t1.c7
  have c1 := t1.c1
  have c4 := t1.c4
  obtain ⟨ai, ci, rfl⟩ : ∃ ai ci, vi = .slice ai (Do.there cs).length ci := by
    rcases t2.2 with ⟨q1, q2⟩ | ⟨g, cap, cur, q1, _⟩
    · exact ⟨none, 0, by rw [q1, q2]⟩
    · exact ⟨_, cap, q1⟩
  clear HI c0 t1 t2 HR h ho hFn hFm
  generalize Do.size (Do.there cs) = z at *
  generalize (Do.there cs).length = len at *
  go_wp2_with fail
  by_cases h3 : a < (z : Int) + s.size
  · have d2 : decide (a < (z : Int) + (s.size : Int)) = true := by rw [decide_eq_true_eq]; exact h3
    go_quiet (fail)
    go_wp2
    go_ret
    exact ⟨rfl, HQ.out _⟩
  · have d2 : decide (a < (z : Int) + (s.size : Int)) = false := by rw [decide_eq_false_iff_not]; exact h3
    have d3 : decide ((60 : Int) ≤ (len : Int)) = true := by rw [decide_eq_true_eq]; omega
    go_quiet (fail)
    go_wp2
    go_ret
    exact ⟨rfl, HQ.out _⟩

theorem kinds_apartE {w : World} {v1 v2 : Value} {n1 n2 g b1 b2 s1 s2 : Nat} {x1 x2 : List Value} {t1 t2 : TypeId} (h1 : w.ownsRow b1 t1 s1 v1 n1 x1) (h2 : w.ownsRow b2 t2 s2 v2 n2 x2) (hne : t1 ≠ t2) (e1 : v1.ownBlock = some g) (e2 : v2.ownBlock = some g) : False := by
  rcases h1.2 with ⟨rfl, _⟩ | ⟨g1, _, _, rfl, _, hg1, _⟩
  · simp [Value.ownBlock] at e1
  · rcases h2.2 with ⟨rfl, _⟩ | ⟨g2, _, _, rfl, _, hg2, _⟩
    · simp [Value.ownBlock] at e2
    · simp [Value.ownBlock] at e1 e2
      rw [e1] at hg1
      rw [e2, hg1] at hg2
      simp at hg2
      exact hne hg2.2

theorem DeskAt.grown {W W' : World} {dk x : Nat} {a b p : Int} {vi vd : Value} {n z mv : Int} {o : Obj} {r : Option Nat} (h : DeskAt W dk x a b p vi vd n z mv) (hg : (W.alloc o).grownBy W' r) (hr : r ≠ some dk) : DeskAt W' dk x a b p vi vd n z mv :=
  h.same ((hg.block dk (by have := h.lt; simp; omega) (fun e => hr e.symm)).trans (Below.heap_alloc W o dk h.lt))

theorem size_append (L : List Do.Chg) (c : Do.Chg) : Do.size (L ++ [c]) = Do.size L + c.doc.size := by
  have h : ∀ k, k ≤ L.length → Do.sizeTo (L ++ [c]) k = Do.sizeTo L k := by
    intro k
    induction k with
    | zero => intro _; rfl
    | succ k ih =>
      intro hk
      rw [Do.sizeTo, Do.sizeTo, ih (by omega), List.getElem?_append_left (by omega)]
  unfold Do.size
  rw [List.length_append, List.length_singleton, Do.sizeTo_succ _ _ c (by simp), h _ (Nat.le_refl _)]

/-- behind an Insert that was taken: the desk's own book is kept -/
theorem DeskIn.laid {w2 w3 w5 : World} {Fn : Nat → Prop} {s : ByteArray} {o o5 : Obj} {g1 k1 g2 k2 : Nat} (hC : Keeps M At 67 73 74 28 34 36 56 35) (h : DeskIn At w dk x a b p cs mv vi vd F G) (hf : Fair (cs ++ [⟨true, s, insTo cs cs.length⟩]))
    (uo : Only F w w2) (u1 : DeskAt w2 dk x a b p vi vd (insTo cs cs.length : Nat) (Do.size (Do.there cs) : Nat) mv) (u2 : w2.ownsRow 0 3 1 vi (Do.there cs).length (ID (Do.there cs))) (u3 : w2.ownsRow 0 9 1 vd (Do.there cs).length (SD (Do.there cs)))
    (uF : At w2 x a b p (cs ++ [⟨true, s, insTo cs cs.length⟩]) Fn) (hFm : ∀ k, Fn k → F k ∨ w.heap.size ≤ k)
    (n1 : w3.ownsRow 0 3 1 (.slice (some ⟨g1, 0, none⟩) ((Do.there cs).length + 1) k1) ((Do.there cs).length + 1) (ID (Do.there cs) ++ [.int .i64 (insTo cs cs.length : Nat)])) (n2 : (w2.alloc o).grownBy w3 vi.ownBlock) (n3 : vi.ownBlock = some g1 ∨ g1 = w2.heap.size + 1)
    (m1 : w5.ownsRow 0 9 1 (.slice (some ⟨g2, 0, none⟩) ((Do.there cs).length + 1) k2) ((Do.there cs).length + 1) (SD (Do.there cs) ++ [.string s])) (m2 : ((w3.setCell ⟨dk, 4, none⟩ (.slice (some ⟨g1, 0, none⟩) ((Do.there cs).length + 1) k1)).alloc o5).grownBy w5 vd.ownBlock) (m3 : vd.ownBlock = some g2 ∨ g2 = w3.heap.size + 1) :
    Moved At dk a b p (cs ++ [⟨true, s, insTo cs cs.length⟩]) ((s.size : Int) + 1) G w ((((w5.setCell ⟨dk, 5, none⟩ (.slice (some ⟨g2, 0, none⟩) ((Do.there cs).length + 1) k2)).setCell ⟨dk, 6, none⟩ (.int .i64 ((insTo cs cs.length : Nat) + 1))).setCell ⟨dk, 7, none⟩ (.int .i64 ((Do.size (Do.there cs) : Nat) + (s.size : Int)))).setCell ⟨dk, 8, none⟩ (.int .i64 ((s.size : Int) + 1))) := by
  have hvi : vi.ownBlock ≠ some dk := u1.apart u2 (by decide)
  have hvd : vd.ownBlock ≠ some dk := u1.apart u3 (by decide)
  have B3 := u1.grown n2 hvi
  have B4 := B3.set4 (.slice (some ⟨g1, 0, none⟩) ((Do.there cs).length + 1) k1)
  have hg1 : g1 ≠ dk := fun e => B3.apart n1 (by decide) (by rw [e]; rfl)
  have s3 := n2.size
  have s5 := m2.size
  simp at s3 s5
  have hdl := u1.lt
  have B5 := B4.grown m2 hvd
  have hg2 : g2 ≠ dk := fun e => B5.apart m1 (by decide) (by rw [e]; rfl)
  have B9 := (((B5.set5 (.slice (some ⟨g2, 0, none⟩) ((Do.there cs).length + 1) k2)).set6 ((insTo cs cs.length : Nat) + 1)).set7 ((Do.size (Do.there cs) : Nat) + (s.size : Int))).set8 ((s.size : Int) + 1)
  have keep : ∀ k, k ≠ dk → ((((w5.setCell ⟨dk, 5, none⟩ (.slice (some ⟨g2, 0, none⟩) ((Do.there cs).length + 1) k2)).setCell ⟨dk, 6, none⟩ (.int .i64 ((insTo cs cs.length : Nat) + 1))).setCell ⟨dk, 7, none⟩ (.int .i64 ((Do.size (Do.there cs) : Nat) + (s.size : Int)))).setCell ⟨dk, 8, none⟩ (.int .i64 ((s.size : Int) + 1))).heap[k]? = w5.heap[k]? := fun k hk => by
    rw [Below.heap_setCell _ ⟨dk, 8, none⟩ _ k hk, Below.heap_setCell _ ⟨dk, 7, none⟩ _ k hk, Below.heap_setCell _ ⟨dk, 6, none⟩ _ k hk, Below.heap_setCell _ ⟨dk, 5, none⟩ _ k hk]
  have zz : ((((w5.setCell ⟨dk, 5, none⟩ (.slice (some ⟨g2, 0, none⟩) ((Do.there cs).length + 1) k2)).setCell ⟨dk, 6, none⟩ (.int .i64 ((insTo cs cs.length : Nat) + 1))).setCell ⟨dk, 7, none⟩ (.int .i64 ((Do.size (Do.there cs) : Nat) + (s.size : Int)))).setCell ⟨dk, 8, none⟩ (.int .i64 ((s.size : Int) + 1))).heap.size = w5.heap.size := by simp
  have wos : (((((w5.setCell ⟨dk, 5, none⟩ (.slice (some ⟨g2, 0, none⟩) ((Do.there cs).length + 1) k2)).setCell ⟨dk, 6, none⟩ (.int .i64 ((insTo cs cs.length : Nat) + 1))).setCell ⟨dk, 7, none⟩ (.int .i64 ((Do.size (Do.there cs) : Nat) + (s.size : Int)))).setCell ⟨dk, 8, none⟩ (.int .i64 ((s.size : Int) + 1)))).os = w5.os := rfl
  have wta : (((((w5.setCell ⟨dk, 5, none⟩ (.slice (some ⟨g2, 0, none⟩) ((Do.there cs).length + 1) k2)).setCell ⟨dk, 6, none⟩ (.int .i64 ((insTo cs cs.length : Nat) + 1))).setCell ⟨dk, 7, none⟩ (.int .i64 ((Do.size (Do.there cs) : Nat) + (s.size : Int)))).setCell ⟨dk, 8, none⟩ (.int .i64 ((s.size : Int) + 1)))).tape = w5.tape := rfl
  have wou : (((((w5.setCell ⟨dk, 5, none⟩ (.slice (some ⟨g2, 0, none⟩) ((Do.there cs).length + 1) k2)).setCell ⟨dk, 6, none⟩ (.int .i64 ((insTo cs cs.length : Nat) + 1))).setCell ⟨dk, 7, none⟩ (.int .i64 ((Do.size (Do.there cs) : Nat) + (s.size : Int)))).setCell ⟨dk, 8, none⟩ (.int .i64 ((s.size : Int) + 1)))).output = w5.output := rfl
  generalize ((((w5.setCell ⟨dk, 5, none⟩ (.slice (some ⟨g2, 0, none⟩) ((Do.there cs).length + 1) k2)).setCell ⟨dk, 6, none⟩ (.int .i64 ((insTo cs cs.length : Nat) + 1))).setCell ⟨dk, 7, none⟩ (.int .i64 ((Do.size (Do.there cs) : Nat) + (s.size : Int)))).setCell ⟨dk, 8, none⟩ (.int .i64 ((s.size : Int) + 1))) = W at *
  -- the ids' row goes on
  have n1' : (w3.setCell ⟨dk, 4, none⟩ (.slice (some ⟨g1, 0, none⟩) ((Do.there cs).length + 1) k1)).ownsRow 0 3 1 (.slice (some ⟨g1, 0, none⟩) ((Do.there cs).length + 1) k1) ((Do.there cs).length + 1) (ID (Do.there cs) ++ [.int .i64 (insTo cs cs.length : Nat)]) := ownsRow_setCell_other n1 (by show some g1 ≠ some dk; simpa using hg1) _
  have u3' : (w3.setCell ⟨dk, 4, none⟩ (.slice (some ⟨g1, 0, none⟩) ((Do.there cs).length + 1) k1)).ownsRow 0 9 1 vd (Do.there cs).length (SD (Do.there cs)) := row_kept u3 fun g hg => by
    have hgl := (World.ownsRow.lt u3 g hg).2
    rw [Below.heap_setCell w3 ⟨dk, 4, none⟩ _ g (fun e => hvd (by have e' : g = dk := e; rw [← e']; exact hg)), n2.block g (by simp; omega) (fun e => kinds_apartE u2 u3 (by decide) e.symm hg), Below.heap_alloc w2 o g hgl]
  have hg1l : g1 < w3.heap.size := (World.ownsRow.lt n1 g1 rfl).2
  have hg12 : vd.ownBlock ≠ some g1 := fun e => kinds_apartE n1' u3' (by decide) rfl e
  have same : ∀ k, k < w2.heap.size → k ≠ dk → vi.ownBlock ≠ some k → vd.ownBlock ≠ some k → W.heap[k]? = w2.heap[k]? := fun k hk h1 h2 h3 => by
    rw [keep k h1, m2.block k (by simp; omega) (fun e => h3 e.symm), Below.heap_alloc _ o5 k (by simp; omega), Below.heap_setCell w3 ⟨dk, 4, none⟩ _ k h1, n2.block k (by simp; omega) (fun e => h2 e.symm), Below.heap_alloc w2 o k hk]
  have hn : ∀ k, k < w.heap.size → ¬ F k → ¬ Fn k := fun k h1 h2 h3 => by
    rcases hFm k h3 with h4 | h4
    · exact h2 h4
    · omega
  have ndk := hn dk (h.lt dk h.gd) h.nd
  have nvi : ∀ g, vi.ownBlock = some g → ¬ Fn g := fun g hg => hn g (h.lt g (h.gi g hg)) (h.ni g hg)
  have nvd : ∀ g, vd.ownBlock = some g → ¬ Fn g := fun g hg => hn g (h.lt g (h.gv g hg)) (h.nv g hg)
  have hFl := hC.lt uF
  have so := uo.size
  refine ⟨?_, fun k => Fn k ∨ k = dk ∨ k = g1 ∨ k = g2, ⟨x, .slice (some ⟨g1, 0, none⟩) ((Do.there cs).length + 1) k1, .slice (some ⟨g2, 0, none⟩) ((Do.there cs).length + 1) k2, Fn, ?_⟩, ?_⟩
  · refine ⟨?_, ?_, ?_, by omega, fun k hk hg => ?_⟩
    · exact (wos.trans m2.os).trans (n2.os.trans uo.os)
    · exact (wta.trans m2.tape).trans (n2.tape.trans uo.tape)
    · exact (wou.trans m2.output).trans (n2.output.trans uo.output)
    · have e1 : k ≠ dk := fun e => hg (by rw [e]; exact h.gd)
      have e2 : vi.ownBlock ≠ some k := fun e => hg (h.gi k e)
      have e3 : vd.ownBlock ≠ some k := fun e => hg (h.gv k e)
      rw [same k (by omega) e1 e2 e3]
      exact uo.block k hk (fun hf => hg (h.gf k hf))
  · have hth : Do.there (cs ++ [⟨true, s, insTo cs cs.length⟩]) = Do.there cs ++ [⟨true, s, insTo cs cs.length⟩] := Do.there_ins _ _ rfl
    exact {
      blk := by
        rw [hth, size_append, insTo_more']
        simpa using B9
      ri := by
        rw [hth, List.length_append]
        have e : ID (Do.there cs ++ [⟨true, s, insTo cs cs.length⟩]) = ID (Do.there cs) ++ [.int .i64 (insTo cs cs.length : Nat)] := by simp [ID]
        rw [e]
        refine row_kept n1' fun g hg => ?_
        have e' : g = g1 := by simpa [Value.ownBlock] using hg.symm
        subst e'
        rw [keep g hg1, m2.block g (by simp; omega) (fun e => hg12 e.symm), Below.heap_alloc _ o5 g (by simp; omega)]
      rd := by
        rw [hth, List.length_append]
        have e : SD (Do.there cs ++ [⟨true, s, insTo cs cs.length⟩]) = SD (Do.there cs) ++ [.string s] := by simp [SD]
        rw [e]
        refine row_kept m1 fun g hg => ?_
        have e' : g = g2 := by simpa [Value.ownBlock] using hg.symm
        subst e'
        exact keep g hg2
      idx := hC.frame uF (by omega) fun k hk => same k (hFl k hk) (fun e => ndk (by rw [← e]; exact hk)) (fun e => nvi k e hk) (fun e => nvd k e hk)
      fair := hf
      conf := h.conf
      nd := ndk
      ni := fun g hg hfn => by
        have e' : g = g1 := by simpa [Value.ownBlock] using hg.symm
        subst e'
        rcases n3 with e | e
        · exact nvi g e hfn
        · have := hFl g hfn; omega
      nv := fun g hg hfn => by
        have e' : g = g2 := by simpa [Value.ownBlock] using hg.symm
        subst e'
        rcases m3 with e | e
        · exact nvd g e hfn
        · have := hFl g hfn; omega
      gd := .inr (.inl rfl)
      gf := fun k hk => .inl hk
      gi := fun g hg => .inr (.inr (.inl (by simpa [Value.ownBlock] using hg.symm)))
      gv := fun g hg => .inr (.inr (.inr (by simpa [Value.ownBlock] using hg.symm)))
      lt := fun k hk => by
        rw [zz]
        rcases hk with hk | rfl | rfl | rfl
        · have := hFl k hk; omega
        · exact B5.lt
        · omega
        · exact (World.ownsRow.lt m1 k rfl).2 }
  · intro k hk
    rcases hk with hk | rfl | rfl | rfl
    · exact (hFm k hk).imp (h.gf k) (fun h => h)
    · exact .inl h.gd
    · rcases n3 with e | e
      · exact .inl (h.gi k e)
      · right; omega
    · rcases m3 with e | e
      · exact .inl (h.gv k e)
      · right; omega

set_option maxHeartbeats 1000000 in
theorem dInserts_ok (hC : Keeps M At 67 73 74 28 34 36 56 35) (s : ByteArray) (hm : cs.length ≤ M) (hM : M ≤ 9000000000000000) (h : DeskIn At w dk x a b p cs mv vi vd F G) (h1 : s.size ≤ 40) (h2 : ¬ (a < (Do.size (Do.there cs) : Int) + s.size ∨ 60 ≤ (Do.there cs).length)) :
    Calls Try.prog 53 #[.pointer (some ⟨dk, 0, none⟩), .string s] w fun e w' => e = .returned (.bool true) ∧ Moved At dk a b p (insRes cs a s).2.2 ((s.size : Int) + 1) G w w' := by
  obtain ⟨i0, hi, hz0, hz1, hz2⟩ := info_parts Try.info3
  have hI := hC.insert s hm (by omega) h.idx
  have hfair := h.fair.ins a s
  have e1 : insRes cs a s = (((insTo cs cs.length : Nat) : Int), 0, cs ++ [⟨true, s, insTo cs cs.length⟩]) := by unfold insRes; rw [if_neg (by omega), if_neg h2]
  rw [e1] at hI hfair
  rw [e1]
  have HI : Hid (Calls Try.prog 73 #[.pointer (some ⟨x, 0, none⟩), .string s] w fun e w' => e = .returned (.tuple #[.int .i64 (insTo cs cs.length : Nat), .int .i64 0]) ∧ Only F w w' ∧ ∃ G, At w' x a b p (cs ++ [⟨true, s, insTo cs cs.length⟩]) G ∧ ∀ k, G k → F k ∨ w.heap.size ≤ k) := hI
  have c0 := h.blk.c0
  have d1 : decide ((40 : Int) < (s.size : Int)) = false := by rw [decide_eq_false_iff_not]; omega
  have hsz : Do.size (Do.there cs) ≤ 40 * (Do.there cs).length := Do.sizeTo_le _ h.fair.docs _
  have hfew := h.fair.few
  have hit := insTo_le cs cs.length
  clear hI e1
  go_enter Try.func53, Try.ntmps53
  go_wp2_with fail
  refine HI.out.mono ?_
  rintro e w1 ⟨rfl, ho, Fn, hFn, hFm⟩
  obtain ⟨t1, t2, t3⟩ := h.turned ho
  have c7 := t1.c7
  have c1 := t1.c1
  have c4 := t1.c4
  obtain ⟨ai, ci, hvi⟩ : ∃ ai ci, vi = .slice ai (Do.there cs).length ci := by
    rcases t2.2 with ⟨q1, q2⟩ | ⟨g, cap, cur, q1, _⟩
    · exact ⟨none, 0, by rw [q1, q2]⟩
    · exact ⟨_, cap, q1⟩
  rw [hvi] at c4
  have d2 : decide (a < (Do.size (Do.there cs) : Int) + (s.size : Int)) = false := by rw [decide_eq_false_iff_not]; omega
  have d3 : decide ((60 : Int) ≤ ((Do.there cs).length : Int)) = false := by rw [decide_eq_false_iff_not]; omega
  have hnn : (((insTo cs cs.length : Nat) : Int) != ((insTo cs cs.length : Nat) : Int)) = false := by simp
  clear HI c0
  go_wp2_with fail
  go_quiet (fail)
  have u1 : DeskAt (w1.drewN nq) dk x a b p vi vd (insTo cs cs.length : Nat) (Do.size (Do.there cs) : Nat) mv := t1
  have u2 : (w1.drewN nq).ownsRow 0 3 1 vi (Do.there cs).length (ID (Do.there cs)) := t2
  have u3 : (w1.drewN nq).ownsRow 0 9 1 vd (Do.there cs).length (SD (Do.there cs)) := t3
  have uF : At (w1.drewN nq) x a b p (cs ++ [⟨true, s, insTo cs cs.length⟩]) Fn := hC.frame hFn (Nat.le_refl _) (fun _ _ => rfl)
  have uo : Only F w (w1.drewN nq) := ho.trans (Only.of_below (below_drewN (Below.refl _ _) _))
  generalize w1.drewN nq = w2 at *
  clear t1 t2 t3 c7 c1 c4 hFn ho
  have c6 := u1.c6
  have c4 := u1.c4
  have hvi' : vi.ownBlock ≠ some dk := u1.apart u2 (by decide)
  have hvd' : vd.ownBlock ≠ some dk := u1.apart u3 (by decide)
  obtain ⟨j0, hj, hy0, hy1, hy2⟩ := info_parts Try.info9
  have HU3 : Hid (∀ w3 g1 k1, (w2.alloc (.cells #[.int .i64 (insTo cs cs.length : Nat)] 3)).grownBy w3 vi.ownBlock → (w3.setCell ⟨dk, 4, none⟩ (.slice (some ⟨g1, 0, none⟩) ((Do.there cs).length + 1) k1)).ownsRow 0 9 1 vd (Do.there cs).length (SD (Do.there cs))) := fun w3 g1 k1 n2 => row_kept u3 fun g hg => by
    have hgl := (World.ownsRow.lt u3 g hg).2
    rw [Below.heap_setCell w3 ⟨dk, 4, none⟩ _ g (fun e => hvd' (by have e' : g = dk := e; rw [← e']; exact hg)), n2.block g (by simp; omega) (fun e => kinds_apartE u2 u3 (by decide) e.symm hg), Below.heap_alloc w2 _ g hgl]
  subst hvi
  go_wp2_with (at_builtin; first | (refine wpList_append_lies _ rfl _ _ 26 rfl 0 3 i0 (.int .i64 0) 1 8 Try.underlying26 hi hz0 hz1 hz2 rfl (by decide) _ _ _ rfl (World.ownsRow.alloc u2 _) ⟨w2.heap.size, 0, none⟩ 1 1 [.int .i64 (insTo cs cs.length : Nat)] rfl rfl (cell_one_new _ _ _) (by intro u hu2; simp at hu2; subst hu2; rfl) (by decide) (by unfold maxLen; omega) (by omega) (Nat.zero_le _) (w2.heap.size + 1) (by simp) ?_; intro g1 k1 w3 n1 n2 n3 n4; have B3 := u1.grown n2 hvi'; have c43 := B3.c4; have f43 := B3.free 4; have B4 := B3.set4 (.slice (some ⟨g1, 0, none⟩) ((Do.there cs).length + 1) k1); have c54 := B4.c5; have V4 := HU3.out w3 g1 k1 n2) | (refine wpList_append_lies _ rfl _ _ 59 rfl 0 9 j0 (.string ⟨#[]⟩) 1 16 Try.underlying59 hj hy0 hy1 hy2 rfl (by decide) _ _ _ rfl (World.ownsRow.alloc V4 _) ⟨w3.heap.size, 0, none⟩ 1 1 [.string s] rfl rfl (by have := cell_one_new (w3.setCell ⟨dk, 4, none⟩ (.slice (some ⟨g1, 0, none⟩) ((Do.there cs).length + 1) k1)) (.string s) 9; simpa using this) (by intro u hu2; simp at hu2; subst hu2; rfl) (by decide) (by unfold maxLen; omega) (by omega) (Nat.zero_le _) (w3.heap.size + 1) (by simp) ?_; intro g2 k2 w5 m1 m2 m3 m4; have B5 := B4.grown m2 hvd'; have c55 := B5.c5; have f55 := B5.free 5; have B6 := B5.set5 (.slice (some ⟨g2, 0, none⟩) ((Do.there cs).length + 1) k2); have c66 := B6.c6; have f66 := B6.free 6; have B7 := B6.set6 ((insTo cs cs.length : Nat) + 1); have c77 := B7.c7; have f77 := B7.free 7; have B8 := B7.set7 ((Do.size (Do.there cs) : Nat) + (s.size : Int)); have c88 := B8.c8; have f88 := B8.free 8))
  go_ret
  exact ⟨rfl, DeskIn.laid hC h hfair uo u1 u2 u3 uF hFm n1 n2 n3 m1 m2 m3⟩

/-- what came is told -/
def insMv (cs : List Do.Chg) (a : Int) (s : ByteArray) (mv : Int) : Int :=
  if 40 < s.size then mv else if a < (Do.size (Do.there cs) : Int) + s.size ∨ 60 ≤ (Do.there cs).length then mv else (s.size : Int) + 1

theorem dInserts_any (hC : Keeps M At 67 73 74 28 34 36 56 35) (s : ByteArray) (hm : cs.length ≤ M) (hM : M ≤ 9000000000000000) (hs : s.size ≤ 9223372036854775807) (h : Desk At w dk a b p cs mv G) :
    Calls Try.prog 53 #[.pointer (some ⟨dk, 0, none⟩), .string s] w fun e w' => e = .returned (.bool true) ∧ Moved At dk a b p (insRes cs a s).2.2 (insMv cs a s mv) G w w' := by
  obtain ⟨x, vi, vd, F, h⟩ := h
  by_cases h1 : 40 < s.size
  · have e1 : insRes cs a s = (0, 2, cs) := by unfold insRes; rw [if_pos h1]
    have e2 : insMv cs a s mv = mv := by unfold insMv; rw [if_pos h1]
    rw [e1, e2]
    exact dInserts_long hC s hm hs h h1
  · by_cases h2 : a < (Do.size (Do.there cs) : Int) + s.size ∨ 60 ≤ (Do.there cs).length
    · have e1 : insRes cs a s = (0, 3, cs) := by unfold insRes; rw [if_neg h1, if_pos h2]
      have e2 : insMv cs a s mv = mv := by unfold insMv; rw [if_neg h1, if_pos h2]
      rw [e1, e2]
      exact dInserts_full hC s hm h (by omega) h2
    · have e2 : insMv cs a s mv = (s.size : Int) + 1 := by unfold insMv; rw [if_neg h1, if_neg h2]
      rw [e2]
      exact dInserts_ok hC s hm hM h (by omega) h2
end

end Go.Proofs.Ytpikkedeoebiaaa
