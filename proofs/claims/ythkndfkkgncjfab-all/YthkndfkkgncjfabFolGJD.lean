/- TagM, LexE, LexF. -/
import Derived.Test.YthkndfkkgncjfabFolGJC
import Derived.Test.YthkndfkkgncjfabFolGJB
namespace Go.Proofs.Ythkndfkkgncjfab
open Go.RowKit
set_option maxRecDepth 100000

/-- the parts' documents, each with its part's number -/
def tag (p : Pa.Pt) : List Dc := p.main.map (fun g => (0, g)) ++ p.frozen.map (fun g => (1, g)) ++ p.live.map (fun g => (2, g))
theorem tag_snd (p : Pa.Pt) : (tag p).map (·.2) = p.docs := by
  unfold tag Pa.Pt.docs
  simp [List.map_append, List.map_map, Function.comp_def]
theorem tag_len (p : Pa.Pt) : (tag p).length = p.docs.length := by rw [← tag_snd, List.length_map]
theorem tag_mem (p : Pa.Pt) (d : Dc) (h : d ∈ tag p) : d.2 ∈ p.docs ∧ d.1 ≤ 2 := by
  refine ⟨by rw [← tag_snd]; exact List.mem_map_of_mem h, ?_⟩
  unfold tag at h
  rw [List.mem_append, List.mem_append, List.mem_map, List.mem_map, List.mem_map] at h
  rcases h with (⟨g, _, rfl⟩ | ⟨g, _, rfl⟩) | ⟨g, _, rfl⟩ <;> simp
theorem al_tag (p : Pa.Pt) : al (tag p) = (Pa.alive p.docs).map Pa.chg := by
  rw [← tag_snd]
  unfold al Pa.alive
  rw [List.filter_map, List.map_map]
  rfl
theorem filter_tag (q n : Nat) (l : List Pa.Pg) : ((l.map fun g => ((n, g) : Dc)).filter fun d => d.1 == q).map (·.2) = if n = q then l else [] := by
  rw [List.filter_map, List.map_map]
  by_cases h : n = q
  · rw [if_pos h]
    have : l.filter ((fun d : Dc => d.1 == q) ∘ fun g => (n, g)) = l := List.filter_eq_self.2 fun g _ => by simp [h]
    rw [this]
    simp [Function.comp_def]
  · rw [if_neg h]
    have : l.filter ((fun d : Dc => d.1 == q) ∘ fun g => (n, g)) = [] := List.filter_eq_nil_iff.2 fun g _ => by simp [h]
    rw [this]; rfl
theorem W_tag (p : Pa.Pt) : W 0 (tag p) = Pa.wt p.main ∧ W 1 (tag p) = Pa.wt p.frozen ∧ W 2 (tag p) = Pa.wt p.live := by
  unfold W tag
  simp only [List.filter_append, List.map_append, filter_tag]
  simp
theorem Wd_tag (p : Pa.Pt) : Wd (tag p) = Pa.wt (Pa.dead p.main) := by
  unfold Wd tag
  have h0 : ∀ (n : Nat) (l : List Pa.Pg), ((l.map fun g => ((n, g) : Dc)).filter fun d => d.1 == 0 && d.2.dead).map (·.2) = if n = 0 then Pa.dead l else [] := by
    intro n l
    rw [List.filter_map, List.map_map]
    by_cases h : n = 0
    · rw [if_pos h]
      have : (fun d : Dc => d.1 == 0 && d.2.dead) ∘ (fun g => ((n, g) : Dc)) = fun g => g.dead := by
        funext g; simp [h]
      rw [this]
      simp [Function.comp_def, Pa.dead]
    · rw [if_neg h]
      have : l.filter ((fun d : Dc => d.1 == 0 && d.2.dead) ∘ fun g => (n, g)) = [] := List.filter_eq_nil_iff.2 fun g _ => by simp [h]
      rw [this]; rfl
  simp only [List.filter_append, List.map_append, h0]
  simp
theorem hoD_tag (p : Pa.Pt) (hf : ∀ g ∈ p.frozen, g.out = false) (hl : ∀ g ∈ p.live, g.out = false) : hoD (tag p) = tag (Pa.handOver p) := by
  unfold hoD tag Pa.handOver
  have h0 : ∀ (n : Nat) (l : List Pa.Pg), ((l.map fun g => ((n, g) : Dc)).filter fun d => !d.2.out).map ho1 = (Pa.next l).map fun g => ((if n = 1 then 0 else n, g) : Dc) := by
    intro n l
    rw [List.filter_map, List.map_map]
    unfold Pa.next
    apply List.map_congr_left
    intro g _
    show ho1 (n, g) = _
    unfold ho1
    by_cases h : n = 1
    · rw [if_pos h, if_pos h]
    · rw [if_neg h, if_neg h]
  simp only [List.filter_append, List.map_append, h0, Pa.next_id _ hf, Pa.next_id _ hl]
  simp
/-- what a rebuild's beginning makes of a document -/
def be1 (d : Dc) : Dc := (if d.1 = 2 then 1 else d.1, { d.2 with out := d.2.dead })
theorem beD_tag (b : Nat) (p : Pa.Pt) (hf : p.frozen = []) (hl : ∀ g ∈ p.live, g.dead = false ∧ g.out = false) : (tag p).map be1 = tag (Pa.begin' b p) := by
  unfold tag Pa.begin'
  rw [hf]
  have h1 : (p.live.map fun g => be1 (2, g)) = p.live.map fun g => ((1, g) : Dc) := by
    apply List.map_congr_left
    intro g hg
    obtain ⟨h2, h3⟩ := hl g hg
    obtain ⟨i, d, dd, o⟩ := g
    simp only at h2 h3
    subst h2 h3
    rfl
  have h2 : (p.main.map fun g => be1 (0, g)) = (Pa.mark p.main).map fun g => ((0, g) : Dc) := by
    unfold Pa.mark
    rw [List.map_map]; rfl
  simp only [List.map_append, List.map_map, List.map_nil, List.append_nil]
  show (p.main.map fun g => be1 (0, g)) ++ (p.live.map fun g => be1 (2, g)) = _
  rw [h1, h2]
/-- what a Delete makes of the documents -/
def re1 (id : Int) (d : Dc) : Dc := if (d.2.id : Int) = id then (d.1, { d.2 with dead := true }) else d
def reD (id : Int) (ds : List Dc) : List Dc := (ds.map (re1 id)).filter fun d => !(d.1 == 2) || !d.2.dead
theorem reD_tag (p : Pa.Pt) (id : Nat) (s : ByteArray) (hl : ∀ g ∈ p.live, g.dead = false) : reD (id : Int) (tag p) = tag (Pa.came p ⟨false, s, id⟩) := by
  have h0 : ∀ (n : Nat) (g : Pa.Pg), re1 (id : Int) (n, g) = (n, Pa.die1 id g) := by
    intro n g
    unfold re1 Pa.die1
    by_cases h : g.id = id
    · rw [if_pos h, if_pos (by show (g.id : Int) = id; omega)]
    · rw [if_neg h, if_neg (by show ¬ (g.id : Int) = id; omega)]
  have h1 : ∀ (n : Nat) (l : List Pa.Pg), n ≠ 2 → (((l.map fun g => ((n, g) : Dc)).map (re1 (id : Int))).filter fun d => !(d.1 == 2) || !d.2.dead) = (Pa.die id l).map fun g => ((n, g) : Dc) := by
    intro n l hn
    rw [List.filter_eq_self.2]
    · unfold Pa.die
      rw [List.map_map, List.map_map]
      apply List.map_congr_left
      intro g _
      exact h0 n g
    · intro d hd
      rw [List.mem_map] at hd
      obtain ⟨e, he, rfl⟩ := hd
      rw [List.mem_map] at he
      obtain ⟨g, _, rfl⟩ := he
      rw [h0]
      simp [hn]
  have h2 : ∀ l : List Pa.Pg, (∀ g ∈ l, g.dead = false) → (((l.map fun g => ((2, g) : Dc)).map (re1 (id : Int))).filter fun d => !(d.1 == 2) || !d.2.dead) = (l.filter fun g => !(g.id == id)).map fun g => ((2, g) : Dc) := by
    intro l hl
    induction l with
    | nil => rfl
    | cons g r ih =>
      rw [List.map_cons, List.map_cons, List.filter_cons, List.filter_cons, h0, ih (fun x hx => hl x (by simp [hx]))]
      have hg := hl g (by simp)
      by_cases h : g.id = id
      · have e1 : Pa.die1 id g = { g with dead := true } := by unfold Pa.die1; rw [if_pos h]
        rw [e1]
        simp [h]
      · have e1 : Pa.die1 id g = g := by unfold Pa.die1; rw [if_neg h]
        rw [e1, hg]
        simp [h]
  unfold reD tag Pa.came
  simp only [List.map_append, List.filter_append, Bool.false_eq_true, if_false]
  have e0 := h1 0 p.main (by decide)
  have e1 := h1 1 p.frozen (by decide)
  have e2 := h2 p.live hl
  simp only [List.map_map] at e0 e1 e2 ⊢
  rw [e0, e1, e2]
theorem tag_ins (p : Pa.Pt) (s : ByteArray) (N : Nat) : tag (Pa.came p ⟨true, s, N⟩) = tag p ++ [(2, ⟨N, s, false, false⟩)] := by
  unfold tag Pa.came
  simp

end Go.Proofs.Ythkndfkkgncjfab

namespace Go.Proofs.Ythkndfkkgncjfab
open Go.RowKit
set_option maxRecDepth 100000

theorem fin_le (l : Lx.Lex) : Lx.fin l ≤ l.runs.length := by unfold Lx.fin; omega
theorem middle_le (l : Lx.Lex) : Lx.middle l ≤ l.runs.length := by unfold Lx.middle; omega

theorem leq_true (r q : Lx.Rw) (h : Lx.le r q = true) (h2 : Op.bytesLess r.rest.toList q.rest.toList = false ∧ (r.rest.toList == q.rest.toList) = false) : False := by
  rw [ByteArray.toList_eq, ByteArray.toList_eq, Lx.rest_bytes, Lx.rest_bytes] at h2
  unfold Lx.le at h
  rcases Fo.lt_total r.bytes q.bytes with h3 | h3 | h3
  · rw [h3] at h2; cases h2.1
  · have := h2.2; rw [h3] at this; simp at this
  · rw [h3] at h; cases h
theorem leq_false (r q : Lx.Rw) (h : Lx.le r q = false) (h2 : Op.bytesLess r.rest.toList q.rest.toList = true ∨ (r.rest.toList == q.rest.toList) = true) : False := by
  rw [ByteArray.toList_eq, ByteArray.toList_eq, Lx.rest_bytes, Lx.rest_bytes] at h2
  unfold Lx.le at h
  simp only [Bool.not_eq_false'] at h
  rcases h2 with h2 | h2
  · rw [Fo.lt_asymm _ _ h2] at h; cases h
  · rw [beq_iff_eq] at h2
    rw [h2, Fo.lt_irrefl] at h; cases h

/-- what is merged becomes the runs -/
theorem LexIn.doubled {w w' : World} {x : Nat} {b b' : Box} {l : Lx.Lex} (h : LexIn w x b l) (ho : Only (fun k => k = x) w w') (hb : BoxAt w' x b') (e0 : b'.c0 = b.c0) (e1 : b'.c1 = b.c3) (e3 : b'.c3 = .slice none 0 0)
    (e2 : b'.c2 = .int .i64 (2 * l.width : Nat)) (e4 : b'.c4 = .int .i64 0) (e5 : b'.c5 = .int .i64 0) (e6 : b'.c6 = .int .i64 (min (2 * l.width) l.merged.length : Nat)) : LexIn w' x b' (Lx.double l) := by
  have hr := h.mg.only ho (fun q hq e => by subst e; exact h.mg.apart h.box hq)
  have hw : OwnW w' b.c0 l.waiting := by
    have hk := h.wait
    cases hl : l.waiting with
    | nil =>
      rw [hl] at hk
      rcases hk with ⟨h2, ao, cap, e, hl⟩ | ⟨g, q, cap, cur, e, hg, rest⟩
      · exact .inl ⟨h2, ao, cap, e, fun a ha => Nat.lt_of_lt_of_le (hl a ha) ho.size⟩
      · refine .inl ⟨rfl, _, cap, e, fun a ha => ?_⟩
        cases ha; exact Nat.lt_of_lt_of_le (lt_of_block hg) ho.size
    | cons r ws =>
      rw [hl] at hk
      exact hk.only ho (fun q hq e => by subst e; exact hk.apart h.box hq)
  refine ⟨hb, by rw [e0]; exact hw, by rw [e1]; exact hr, e2, by rw [e3]; exact OwnR.nil _ _, e4, e5, ?_, (by rw [e0, e1]; exact h.a2), (by rw [e3]; intro q _ e; cases e), (by rw [e3]; intro q _ e; cases e)⟩
  rw [e6]
  show _ = Value.int _ ((min (0 + 2 * l.width) l.merged.length : Nat) : Int)
  rw [Nat.zero_add]

/-- one row more among the merged -/
theorem LexIn.merged_more {w w3 : World} {x g' cap' : Nat} {b : Box} {l : Lx.Lex} {r : Lx.Rw} {o : Obj} (h : LexIn w x b l) (h1 : w3.ownsRow 0 159 3 (.slice (some ⟨g', 0, none⟩) (l.merged.length + 1) cap') (l.merged.length + 1) (RW l.merged ++ RW1 r))
    (h2 : (w.alloc o).drew.grownBy w3 b.c3.ownBlock) (h3 : b.c3.ownBlock = some g' ∨ g' = w.heap.size + 1) :
    BoxAt w3 x b ∧
    LexIn (w3.setCell ⟨x, 16, none⟩ (.slice (some ⟨g', 0, none⟩) (l.merged.length + 1) cap')) x { b with c3 := .slice (some ⟨g', 0, none⟩) (l.merged.length + 1) cap' } { l with merged := l.merged ++ [r] } ∧
    Only (lfoot x b) w (w3.setCell ⟨x, 16, none⟩ (.slice (some ⟨g', 0, none⟩) (l.merged.length + 1) cap')) ∧
    ∀ k, lfoot x { b with c3 := .slice (some ⟨g', 0, none⟩) (l.merged.length + 1) cap' } k → lfoot x b k ∨ w.heap.size ≤ k := by
  have ho := grown_only h2
  have hx1 := h.mg.apart h.box
  have hb := h.box.only ho hx1
  have hr : OwnR w3 0 (.slice (some ⟨g', 0, none⟩) (l.merged.length + 1) cap') (l.merged ++ [r]) := OwnR.more h1
  have hw := h.wait.only ho (fun q hq e => h.a2 q hq e)
  have hm := h.runs.only ho (fun q hq e => h.a3 q hq e)
  have hap : ∀ u : Value, (∀ q, u.ownBlock = some q → q < w.heap.size) → ap u b.c3 → ap u (.slice (some ⟨g', 0, none⟩) (l.merged.length + 1) cap') := fun u hu ha q hq e => by
    simp only [Value.ownBlock, Option.some.injEq] at e
    rcases h3 with h3 | h3
    · exact ha q hq (by rw [h3, e])
    · have := hu q hq; omega
  refine ⟨hb, ⟨hb.s16 _, hw.ne hb _ _, hm.ne hb _ _, h.wid, hr.ne hb _ _, h.st, h.lf, h.rg, h.a1, hap _ h.wait.lt h.a2, hap _ h.runs.lt h.a3⟩, ?_, ?_⟩
  · exact (ho.mono (fun k hk => .inr (.inr (.inr hk)))).trans (Only.setCell _ _ (.inl rfl))
  · intro k hk
    rcases hk with hk | hk | hk | hk
    · exact .inl (.inl hk)
    · exact .inl (.inr (.inl hk))
    · exact .inl (.inr (.inr (.inl hk)))
    · simp only [Value.ownBlock, Option.some.injEq] at hk
      rcases h3 with h3 | h3
      · exact .inl (.inr (.inr (.inr (by rw [h3, hk]))))
      · right; omega

set_option maxHeartbeats 4000000 in
theorem merge_left (x : Nat) (b : Box) (l : Lx.Lex) (r : Lx.Rw) (w : World) (h : LexIn w x b l) (hf : Fits l) (q : Lx.Rw) (h1 : l.left < Lx.middle l) (h2 : l.right < Lx.fin l) (hr : l.runs[l.left]? = some r) (hq : l.runs[l.right]? = some q) (hl : Lx.le r q = true) :
    Calls Try.prog 95 #[.pointer (some ⟨x, 13, none⟩)] w fun e w' => e = .returned (.tuple #[]) ∧ ∃ b', LexIn w' x b' (Lx.merge l) ∧ b.same b' ∧ Only (lfoot x b) w w' ∧ ∀ k, lfoot x b' k → lfoot x b k ∨ w.heap.size ≤ k := by
  obtain ⟨i0, hi, hz0, hz1, hz2⟩ := info_parts Try.info159
  obtain ⟨ao, cap, e1, hc⟩ := h.runs.any
  obtain ⟨g, rfl, y0, y1, y2⟩ := hc _ _ hr
  obtain ⟨g'', eg, _, _, z2⟩ := hc _ _ hq
  simp only [Option.some.injEq, Addr.mk.injEq, and_true] at eg
  subst eg
  have hless : Op.bytesLess q.rest.data.toList r.rest.data.toList = false := by
    rw [Lx.rest_bytes, Lx.rest_bytes]
    unfold Lx.le at hl
    simpa using hl
  have d1 : decide ((l.left : Int) < (Lx.middle l : Int)) = true := by rw [decide_eq_true_eq]; omega
  have d1' : decide (l.left < Lx.middle l) = true := by rw [decide_eq_true_eq]; omega
  have d2 : decide ((Lx.fin l : Int) ≤ (l.right : Int)) = false := by rw [decide_eq_false_iff_not]; omega
  have d2' : decide (Lx.fin l ≤ l.right) = false := by rw [decide_eq_false_iff_not]; omega
  have g14 := h.box.g14
  have g15 := h.box.g15
  have g17 := h.box.g17
  have g18 := h.box.g18
  have g19 := h.box.g19
  rw [e1] at g14
  rw [h.wid] at g15
  rw [h.st] at g17
  rw [h.lf] at g18
  rw [h.rg] at g19
  obtain ⟨f1, f2, f3, f4, f5, f6, _⟩ := hf
  have HLE : ∀ w, Calls Try.prog 104 #[.int .i64 ((l.start : Int) + (l.width : Int)), .int .i64 (l.runs.length : Int)] w fun e w' => e = .returned (.int .i64 (Lx.middle l : Nat)) ∧ w' = w := fun w => by
    have := lesser_any ((l.start : Int) + (l.width : Int)) (l.runs.length : Int) w
    have hm : min ((l.start : Int) + (l.width : Int)) (l.runs.length : Int) = (Lx.middle l : Nat) := by unfold Lx.middle; omega
    rw [hm] at this; exact this
  have HRE : ∀ w, Calls Try.prog 104 #[.int .i64 ((Lx.middle l : Int) + (l.width : Int)), .int .i64 (l.runs.length : Int)] w fun e w' => e = .returned (.int .i64 (Lx.fin l : Nat)) ∧ w' = w := fun w => by
    have := lesser_any ((Lx.middle l : Int) + (l.width : Int)) (l.runs.length : Int) w
    have hm : min ((Lx.middle l : Int) + (l.width : Int)) (l.runs.length : Int) = (Lx.fin l : Nat) := by unfold Lx.fin; omega
    rw [hm] at this; exact this
  have hfl := fin_le l
  have hml := middle_le l
  have hll := (List.getElem?_eq_some_iff.1 hr).1
  have HL : Hid (LexIn w x b l) := h
  have HR : Hid (l.runs[l.left]? = some r) := hr
  have HT : Hid (Lx.lefts l = true) := by
    show _ = _
    unfold Lx.lefts
    rw [hr, hq]
    simp [h1, hl]
  have hrl := (List.getElem?_eq_some_iff.1 hq).1
  have HLQ : Hid (Lx.le r q = true) := hl
  have HE : Hid (b.c1 = .slice (some ⟨g, 0, none⟩) l.runs.length cap) := e1
  have HC : Hid (∀ k r, l.runs[k]? = some r → ∃ g', some (⟨g, 0, none⟩ : Addr) = some ⟨g', 0, none⟩ ∧ w.cell? ⟨g', k * 3, none⟩ = some (.int .i64 (r.id : Int)) ∧ w.cell? ⟨g', k * 3 + 1, none⟩ = some (.int .i64 (r.at' : Int)) ∧ w.cell? ⟨g', k * 3 + 2, none⟩ = some (.string r.rest)) := hc
  have w1' : IntKind.i64.wrap ((l.start : Int) + (l.width : Int)) = (l.start : Int) + (l.width : Int) := by rw [IntKind.wrap_i64]; omega
  have w2' : IntKind.i64.wrap ((Lx.middle l : Int) + (l.width : Int)) = (Lx.middle l : Int) + (l.width : Int) := by rw [IntKind.wrap_i64]; omega
  clear h hr hl e1 hc hq
  have HLE' : Hid _ := HLE
  have HRE' : Hid _ := HRE
  clear HLE HRE
  go_enter Try.func95, Try.ntmps95
  go_wp2_with fail
  refine wp_region_held_drew (S := fun w' => w'.cell? ⟨x, 17, none⟩ = some (.int .i64 (l.start : Int)) ∧ w'.cell? ⟨x, 15, none⟩ = some (.int .i64 (l.width : Int)) ∧ w'.cell? ⟨x, 14, none⟩ = some (.slice (some ⟨g, 0, none⟩) l.runs.length cap)) (by kernel_rfl) ⟨g17, g15, g14⟩ (fun hHeld => ?_)
  refine wpAnyH_take (i := 0) (v := ?a0) rfl (by kernel_rfl) (by kernel_rfl) (by kernel_rfl) (fun _ _ _ h => h) (Or.inl ⟨by rfl, ?hya0⟩) (by assumption) ?resta0
  case hya0 => intro w hSw; (try dsimp only at hSw); go_simp; (try with_reducible rfl)
  simp only [Act.put]
  refine wpAnyH_take (i := 1) (v := ?a1) rfl (by kernel_rfl) (by kernel_rfl) (by kernel_rfl) (fun _ _ _ h => h) (Or.inl ⟨by rfl, ?hya1⟩) (by assumption) ?resta1
  case hya1 => intro w hSw; (try dsimp only at hSw); go_simp; (try with_reducible rfl)
  simp only [Act.put]
  refine wpAnyH_take (i := 2) (v := ?a2) rfl (by kernel_rfl) (by kernel_rfl) (by kernel_rfl) (fun _ _ _ h => h) (Or.inl ⟨by rfl, ?hya2⟩) (by assumption) ?resta2
  case hya2 => intro w hSw; (try dsimp only at hSw); go_simp; (try with_reducible rfl)
  simp only [Act.put]
  refine wpAnyH_take (i := 3) (v := ?a3) rfl (by kernel_rfl) (by kernel_rfl) (by kernel_rfl) (fun _ _ _ h => h) (Or.inl ⟨by rfl, ?hya3⟩) (by assumption) ?resta3
  case hya3 => intro w hSw; (try dsimp only at hSw); go_simp; (try with_reducible rfl)
  simp only [Act.put]
  refine wpAnyH_take (i := 4) (v := ?a4) rfl (by kernel_rfl) (by kernel_rfl) (by kernel_rfl) (fun _ _ _ h => h) (Or.inl ⟨by rfl, ?hya4⟩) (by assumption) ?resta4
  case hya4 => intro w hSw; (try dsimp only at hSw); go_simp; (try with_reducible rfl)
  simp only [Act.put]
  refine wpAnyH_take (i := 5) (v := ?a5) rfl (by kernel_rfl) (by kernel_rfl) (by kernel_rfl) (fun _ _ _ h => h) (Or.inl ⟨by rfl, ?hya5⟩) (by assumption) ?resta5
  case hya5 => intro w hSw; (try dsimp only at hSw); go_simp; (try with_reducible rfl)
  simp only [Act.put]
  refine wpAnyH_take (i := 6) (v := ?a6) rfl (by kernel_rfl) (by kernel_rfl) (by kernel_rfl) (fun _ _ _ h => h) (Or.inl ⟨by rfl, ?hya6⟩) (by assumption) ?resta6
  case hya6 => intro w hSw; (try dsimp only at hSw); go_simp; (try with_reducible rfl)
  simp only [Act.put]
  refine wpAnyH_take (i := 7) (v := ?a7) rfl (by kernel_rfl) (by kernel_rfl) (by kernel_rfl) (fun _ _ _ h => h) (Or.inl ⟨by rfl, ?hya7⟩) (by assumption) ?resta7
  case hya7 => intro w hSw; (try dsimp only at hSw); go_simp; (try with_reducible rfl)
  simp only [Act.put]
  refine wpAnyH_take (i := 8) (v := ?a8) rfl (by kernel_rfl) (by kernel_rfl) (by kernel_rfl) (fun _ _ _ h => h) (Or.inl ⟨by rfl, ?hya8⟩) (by assumption) ?resta8
  case hya8 => intro w hSw; (try dsimp only at hSw); go_simp; (try with_reducible rfl)
  simp only [Act.put]
  refine wpAnyH_take (i := 9) (v := ?a9) rfl (by kernel_rfl) (by kernel_rfl) (by kernel_rfl) (fun _ _ _ h => h) (Or.inl ⟨by rfl, ?hya9⟩) (by assumption) ?resta9
  case hya9 => intro w hSw; (try dsimp only at hSw); go_simp; (try with_reducible rfl)
  simp only [Act.put]
  refine wpAnyH_take (i := 10) (v := ?a10) rfl (by kernel_rfl) (by kernel_rfl) (by kernel_rfl) (fun _ _ _ h => h) (Or.inl ⟨by rfl, ?hya10⟩) (by assumption) ?resta10
  case hya10 => intro w hSw; (try dsimp only at hSw); go_simp; (try with_reducible rfl)
  simp only [Act.put]
  refine wpAnyH_take (i := 11) (v := ?a11) rfl (by kernel_rfl) (by kernel_rfl) (by kernel_rfl) (fun _ _ _ h => h) (Or.inl ⟨by rfl, ?hya11⟩) (by assumption) ?resta11
  case hya11 => intro w hSw; (try dsimp only at hSw); go_simp; (try with_reducible rfl)
  simp only [Act.put]
  refine wpAnyH_take (i := 12) (v := ?a12) rfl (by kernel_rfl) (by kernel_rfl) (by kernel_rfl) (fun _ _ _ h => h) (Or.inl ⟨by rfl, ?hya12⟩) (by assumption) ?resta12
  case hya12 => intro w hSw; (try dsimp only at hSw); go_simp; (try with_reducible rfl)
  simp only [Act.put]
  refine wpAnyH_take (i := 13) (v := ?a13) rfl (by kernel_rfl) (by kernel_rfl) (by kernel_rfl) (fun _ _ _ h => h) (Or.inl ⟨by rfl, ?hya13⟩) (by assumption) ?resta13
  case hya13 => intro w hSw; (try dsimp only at hSw); go_simp; (try with_reducible rfl)
  simp only [Act.put]
  refine wpAnyH_ready (rs := [14]) (by kernel_rfl) (by simp) ?_
  refine AllReadyH.cons rfl (fun K hK => ?_) AllReadyH.nil
  go_simp
  refine (HLE'.out _).mono ?_
  rintro e w3 ⟨rfl, hw3⟩
  rw [hw3]; clear hw3
  refine hK.out _ _ ⟨g17, g15, g14⟩ (fun hHeld => ?_)
  clear hK K
  refine wpAnyH_ready (rs := [15]) (by kernel_rfl) (by simp) ?_
  refine AllReadyH.cons rfl (fun K hK => ?_) AllReadyH.nil
  go_simp
  refine hK.out _ _ ⟨g17, g15, g14⟩ (fun hHeld => ?_)
  clear hK K
  refine wpAnyH_done (by kernel_rfl) ?_ _
  clear hHeld
  go_wp2_with fail
  refine wp_region_held_drew (S := fun w' => w'.cell? ⟨x, 15, none⟩ = some (.int .i64 (l.width : Int)) ∧ w'.cell? ⟨x, 14, none⟩ = some (.slice (some ⟨g, 0, none⟩) l.runs.length cap)) (by kernel_rfl) ⟨g15, g14⟩ (fun hHeld => ?_)
  refine wpAnyH_take (i := 0) (v := ?b0) rfl (by kernel_rfl) (by kernel_rfl) (by kernel_rfl) (fun _ _ _ h => h) (Or.inl ⟨by rfl, ?hyb0⟩) (by assumption) ?restb0
  case hyb0 => intro w hSw; (try dsimp only at hSw); go_simp; (try with_reducible rfl)
  simp only [Act.put]
  refine wpAnyH_take (i := 1) (v := ?b1) rfl (by kernel_rfl) (by kernel_rfl) (by kernel_rfl) (fun _ _ _ h => h) (Or.inl ⟨by rfl, ?hyb1⟩) (by assumption) ?restb1
  case hyb1 => intro w hSw; (try dsimp only at hSw); go_simp; (try with_reducible rfl)
  simp only [Act.put]
  refine wpAnyH_take (i := 2) (v := ?b2) rfl (by kernel_rfl) (by kernel_rfl) (by kernel_rfl) (fun _ _ _ h => h) (Or.inl ⟨by rfl, ?hyb2⟩) (by assumption) ?restb2
  case hyb2 => intro w hSw; (try dsimp only at hSw); go_simp; (try with_reducible rfl)
  simp only [Act.put]
  refine wpAnyH_take (i := 3) (v := ?b3) rfl (by kernel_rfl) (by kernel_rfl) (by kernel_rfl) (fun _ _ _ h => h) (Or.inl ⟨by rfl, ?hyb3⟩) (by assumption) ?restb3
  case hyb3 => intro w hSw; (try dsimp only at hSw); go_simp; (try with_reducible rfl)
  simp only [Act.put]
  refine wpAnyH_take (i := 4) (v := ?b4) rfl (by kernel_rfl) (by kernel_rfl) (by kernel_rfl) (fun _ _ _ h => h) (Or.inl ⟨by rfl, ?hyb4⟩) (by assumption) ?restb4
  case hyb4 => intro w hSw; (try dsimp only at hSw); go_simp; (try with_reducible rfl)
  simp only [Act.put]
  refine wpAnyH_take (i := 5) (v := ?b5) rfl (by kernel_rfl) (by kernel_rfl) (by kernel_rfl) (fun _ _ _ h => h) (Or.inl ⟨by rfl, ?hyb5⟩) (by assumption) ?restb5
  case hyb5 => intro w hSw; (try dsimp only at hSw); go_simp; (try with_reducible rfl)
  simp only [Act.put]
  refine wpAnyH_take (i := 6) (v := ?b6) rfl (by kernel_rfl) (by kernel_rfl) (by kernel_rfl) (fun _ _ _ h => h) (Or.inl ⟨by rfl, ?hyb6⟩) (by assumption) ?restb6
  case hyb6 => intro w hSw; (try dsimp only at hSw); go_simp; (try with_reducible rfl)
  simp only [Act.put]
  refine wpAnyH_take (i := 7) (v := ?b7) rfl (by kernel_rfl) (by kernel_rfl) (by kernel_rfl) (fun _ _ _ h => h) (Or.inl ⟨by rfl, ?hyb7⟩) (by assumption) ?restb7
  case hyb7 => intro w hSw; (try dsimp only at hSw); go_simp; (try with_reducible rfl)
  simp only [Act.put]
  refine wpAnyH_take (i := 8) (v := ?b8) rfl (by kernel_rfl) (by kernel_rfl) (by kernel_rfl) (fun _ _ _ h => h) (Or.inl ⟨by rfl, ?hyb8⟩) (by assumption) ?restb8
  case hyb8 => intro w hSw; (try dsimp only at hSw); go_simp; (try with_reducible rfl)
  simp only [Act.put]
  refine wpAnyH_take (i := 9) (v := ?b9) rfl (by kernel_rfl) (by kernel_rfl) (by kernel_rfl) (fun _ _ _ h => h) (Or.inl ⟨by rfl, ?hyb9⟩) (by assumption) ?restb9
  case hyb9 => intro w hSw; (try dsimp only at hSw); go_simp; (try with_reducible rfl)
  simp only [Act.put]
  refine wpAnyH_take (i := 10) (v := ?b10) rfl (by kernel_rfl) (by kernel_rfl) (by kernel_rfl) (fun _ _ _ h => h) (Or.inl ⟨by rfl, ?hyb10⟩) (by assumption) ?restb10
  case hyb10 => intro w hSw; (try dsimp only at hSw); go_simp; (try with_reducible rfl)
  simp only [Act.put]
  refine wpAnyH_ready (rs := [11]) (by kernel_rfl) (by simp) ?_
  refine AllReadyH.cons rfl (fun K hK => ?_) AllReadyH.nil
  go_simp
  refine (HRE'.out _).mono ?_
  rintro e w3 ⟨rfl, hw3⟩
  rw [hw3]; clear hw3
  refine hK.out _ _ ⟨g15, g14⟩ (fun hHeld => ?_)
  clear hK K
  refine wpAnyH_ready (rs := [12]) (by kernel_rfl) (by simp) ?_
  refine AllReadyH.cons rfl (fun K hK => ?_) AllReadyH.nil
  go_simp
  refine hK.out _ _ ⟨g15, g14⟩ (fun hHeld => ?_)
  clear hK K
  refine wpAnyH_done (by kernel_rfl) ?_ _
  clear hHeld HLE' HRE'
  go_wp2_with fail
  go_quiet (fail)
  go_wp2_with fail
  rotate_left
  · exfalso
    rename_i hcon _ _
    exact leq_true r q HLQ.out hcon
  generalize hW1 : w.drew.drew.drewN nq = w1
  have hb1 : Below w.heap.size w w1 := by rw [← hW1]; exact below_drewN (Below.refl _ _).drew.drew _
  have hsz1 : w1.heap.size = w.heap.size := by rw [← hW1]; rfl
  have HB1 : Hid (Below w.heap.size w w1) := hb1
  have HL1 : Hid (LexIn w1 x b l) := HL.out.below hb1
  have k14 : w1.cell? ⟨x, 14, none⟩ = some (.slice (some ⟨g, 0, none⟩) l.runs.length cap) := cell_later hb1 g14
  have kS : w1.cell? ⟨x, 18, none⟩ = some (.int .i64 (l.left : Int)) := cell_later hb1 g18
  have k0 : w1.cell? ⟨g, l.left * 3, none⟩ = some (.int .i64 (r.id : Int)) := cell_later hb1 y0
  have k1 : w1.cell? ⟨g, l.left * 3 + 1, none⟩ = some (.int .i64 (r.at' : Int)) := cell_later hb1 y1
  have k2 : w1.cell? ⟨g, l.left * 3 + 2, none⟩ = some (.string r.rest) := cell_later hb1 y2
  have k16 := HL1.out.box.g16
  have hmg1 := HL1.out.mg
  clear hW1 hb1 g14 g15 g17 g18 g19 y0 y1 y2 z2 hless
  have hba : ∀ o, Below w1.heap.size w1 (w1.alloc o).drew := fun o => ((Below.refl _ _).alloc (Nat.le_refl _) o).drew
  have hS1 : ∀ o, (w1.alloc o).drew.cell? ⟨x, 14, none⟩ = some (.slice (some ⟨g, 0, none⟩) l.runs.length cap) ∧ (w1.alloc o).drew.cell? ⟨x, 18, none⟩ = some (.int .i64 (l.left : Int)) ∧ (w1.alloc o).drew.cell? ⟨g, l.left * 3, none⟩ = some (.int .i64 (r.id : Int)) ∧ (w1.alloc o).drew.cell? ⟨g, l.left * 3 + 1, none⟩ = some (.int .i64 (r.at' : Int)) ∧ (w1.alloc o).drew.cell? ⟨g, l.left * 3 + 2, none⟩ = some (.string r.rest) := fun o => ⟨cell_later (hba o) k14, cell_later (hba o) kS, cell_later (hba o) k0, cell_later (hba o) k1, cell_later (hba o) k2⟩
  have g12 : ∀ o, (w1.alloc o).drew.cell? ⟨x, 16, none⟩ = some b.c3 := fun o => cell_later (hba o) k16
  refine wp_region_held_drew (S := fun w' => w'.cell? ⟨x, 14, none⟩ = some (.slice (some ⟨g, 0, none⟩) l.runs.length cap) ∧ w'.cell? ⟨x, 18, none⟩ = some (.int .i64 (l.left : Int)) ∧ w'.cell? ⟨g, l.left * 3, none⟩ = some (.int .i64 (r.id : Int)) ∧ w'.cell? ⟨g, l.left * 3 + 1, none⟩ = some (.int .i64 (r.at' : Int)) ∧ w'.cell? ⟨g, l.left * 3 + 2, none⟩ = some (.string r.rest)) (by kernel_rfl) ⟨k14, kS, k0, k1, k2⟩ (fun hHeld => ?_)
  refine wpAnyH_take (i := 0) (v := ?c0) rfl (by kernel_rfl) (by kernel_rfl) (by kernel_rfl) (fun _ _ _ h => h) (Or.inl ⟨by rfl, ?hyc0⟩) (by assumption) ?restc0
  case hyc0 => intro w hSw; (try dsimp only at hSw); go_simp; (try with_reducible rfl)
  simp only [Act.put]
  refine wpAnyH_take (i := 1) (v := ?c1) rfl (by kernel_rfl) (by kernel_rfl) (by kernel_rfl) (fun _ _ _ h => h) (Or.inl ⟨by rfl, ?hyc1⟩) (by assumption) ?restc1
  case hyc1 => intro w hSw; (try dsimp only at hSw); go_simp; (try with_reducible rfl)
  simp only [Act.put]
  refine wpAnyH_take (i := 2) (v := ?c2) rfl (by kernel_rfl) (by kernel_rfl) (by kernel_rfl) (fun _ _ _ h => h) (Or.inl ⟨by rfl, ?hyc2⟩) (by assumption) ?restc2
  case hyc2 => intro w hSw; (try dsimp only at hSw); go_simp; (try with_reducible rfl)
  simp only [Act.put]
  refine wpAnyH_take (i := 3) (v := ?c3) rfl (by kernel_rfl) (by kernel_rfl) (by kernel_rfl) (fun _ _ _ h => h) (Or.inl ⟨by rfl, ?hyc3⟩) (by assumption) ?restc3
  case hyc3 => intro w hSw; (try dsimp only at hSw); go_simp; (try with_reducible rfl)
  simp only [Act.put]
  refine wpAnyH_take (i := 5) (v := ?c5) rfl (by kernel_rfl) (by kernel_rfl) (by kernel_rfl) (fun _ _ _ h => h) (Or.inl ⟨by rfl, ?hyc5⟩) (by assumption) ?restc5
  case hyc5 => intro w hSw; (try dsimp only at hSw); go_simp; (try with_reducible rfl)
  simp only [Act.put]
  refine wpAnyH_take (i := 6) (v := ?c6) rfl (by kernel_rfl) (by kernel_rfl) (by kernel_rfl) (fun _ _ _ h => h) (Or.inl ⟨by rfl, ?hyc6⟩) (by assumption) ?restc6
  case hyc6 => intro w hSw; (try dsimp only at hSw); go_simp; (try with_reducible rfl)
  simp only [Act.put]
  refine wpAnyH_take (i := 7) (v := ?c7) rfl (by kernel_rfl) (by kernel_rfl) (by kernel_rfl) (fun _ _ _ h => h) (Or.inl ⟨by rfl, ?hyc7⟩) (by assumption) ?restc7
  case hyc7 => intro w hSw; (try dsimp only at hSw); go_simp; (try with_reducible rfl)
  simp only [Act.put]
  refine wpAnyH_take (i := 8) (v := ?c8) rfl (by kernel_rfl) (by kernel_rfl) (by kernel_rfl) (fun _ _ _ h => h) (Or.inl ⟨by rfl, ?hyc8⟩) (by assumption) ?restc8
  case hyc8 => intro w hSw; (try dsimp only at hSw); go_simp; (try with_reducible rfl)
  simp only [Act.put]
  refine wpAnyH_take (i := 9) (v := ?c9) rfl (by kernel_rfl) (by kernel_rfl) (by kernel_rfl) (fun _ _ _ h => h) (Or.inl ⟨by rfl, ?hyc9⟩) (by assumption) ?restc9
  case hyc9 => intro w hSw; (try dsimp only at hSw); go_simp; (try with_reducible rfl)
  simp only [Act.put]
  refine wpAnyH_take (i := 10) (v := ?c10) rfl (by kernel_rfl) (by kernel_rfl) (by kernel_rfl) (fun _ _ _ h => h) (Or.inl ⟨by rfl, ?hyc10⟩) (by assumption) ?restc10
  case hyc10 => intro w hSw; (try dsimp only at hSw); go_simp; (try with_reducible rfl)
  simp only [Act.put]
  refine wpAnyH_take (i := 11) (v := ?c11) rfl (by kernel_rfl) (by kernel_rfl) (by kernel_rfl) (fun _ _ _ h => h) (Or.inl ⟨by rfl, ?hyc11⟩) (by assumption) ?restc11
  case hyc11 => intro w hSw; (try dsimp only at hSw); go_simp; (try with_reducible rfl)
  simp only [Act.put]
  refine wpAnyH_take (i := 12) (v := ?c12) rfl (by kernel_rfl) (by kernel_rfl) (by kernel_rfl) (fun _ _ _ h => h) (Or.inl ⟨by rfl, ?hyc12⟩) (by assumption) ?restc12
  case hyc12 => intro w hSw; (try dsimp only at hSw); go_simp; (try with_reducible rfl)
  simp only [Act.put]
  refine wpAnyH_take (i := 13) (v := ?c13) rfl (by kernel_rfl) (by kernel_rfl) (by kernel_rfl) (fun _ _ _ h => h) (Or.inl ⟨by rfl, ?hyc13⟩) (by assumption) ?restc13
  case hyc13 => intro w hSw; (try dsimp only at hSw); go_simp; (try with_reducible rfl)
  simp only [Act.put]
  refine wpAnyH_take (i := 14) (v := ?c14) rfl (by kernel_rfl) (by kernel_rfl) (by kernel_rfl) (fun _ _ _ h => h) (Or.inl ⟨by rfl, ?hyc14⟩) (by assumption) ?restc14
  case hyc14 => intro w hSw; (try dsimp only at hSw); go_simp; (try with_reducible rfl)
  simp only [Act.put]
  refine wpAnyH_ready (rs := [4, 15]) (by kernel_rfl) (by simp) ?_
  refine AllReadyH.cons rfl (fun K hK => ?A) (AllReadyH.cons rfl (fun K hK => ?B) AllReadyH.nil)
  case' A =>
    go_simp
    refine hK.out _ _ (by exact hHeld) (fun hHeld => ?_)
    clear hK K
    refine wpAnyH_ready (rs := [15]) (by kernel_rfl) (by simp) ?_
    refine AllReadyH.cons rfl (fun K hK => ?_) AllReadyH.nil
    go_simp
    refine hK.out _ _ (hS1 _) (fun hHeld => ?_)
    clear hK K
  case' B =>
    go_simp
    refine hK.out _ _ (hS1 _) (fun hHeld => ?_)
    clear hK K
    refine wpAnyH_ready (rs := [4]) (by kernel_rfl) (by simp) ?_
    refine AllReadyH.cons rfl (fun K hK => ?_) AllReadyH.nil
    have g13 := g12 (.cells #[.int .i64 (r.id : Int), .int .i64 (r.at' : Int), .string r.rest] 159)
    go_simp
    refine hK.out _ _ (by exact hHeld) (fun hHeld => ?_)
    clear hK K g13
  · skip
    refine wpAnyH_ready (rs := [16]) (by kernel_rfl) (by simp) ?_
    refine AllReadyH.cons rfl (fun K hK => ?_) AllReadyH.nil
    refine step_lies_at 86 rfl (w1.heap.size + 1) rfl (.tmp 74) (.tmp 85) 60 rfl 0 159 i0 (.agg #[.int .i64 0, .int .i64 0, .string ⟨#[]⟩]) 3 32 Try.underlying60 hi hz0 hz1 hz2 rfl (by decide) b.c3 l.merged.length (RW l.merged) (by simp [Act.eval]) (World.ownsRow.alloc hmg1 _) ⟨w1.heap.size, 0, none⟩ 1 1 (RW1 r) (by simp [Act.eval]) rfl (World.news_of_block (cs := #[.int .i64 (r.id : Int), .int .i64 (r.at' : Int), .string r.rest]) (heap_alloc_new w1 _)) (by intro u hu2; simp [RW1] at hu2; rcases hu2 with rfl | rfl | rfl <;> rfl) (by decide) (by unfold maxLen; omega) (by omega) (Nat.zero_le _) (by simp) ?_
    intro g' cap' w3 hown3 hgrow0 hat3 hlt3
    have RM := HL1.out.merged_more hown3 hgrow0 hat3
    have HR3 : Hid (LexIn _ _ _ _) := RM.2.1
    have HO : Hid (Only _ _ _) := RM.2.2.1
    have HQ : Hid (∀ k, _ → _) := RM.2.2.2
    have c33 := RM.1.g16
    have f33 := RM.1.free 16
    have hnx : some x ≠ b.c3.ownBlock := fun e => HL1.out.mg.apart HL1.out.box e.symm
    have hng : some g ≠ b.c3.ownBlock := fun e => HL.out.a3 g (by rw [HE.out]; rfl) e.symm
    have hgx : g ≠ x := fun e => HL.out.runs.apart HL.out.box (by rw [HE.out, e]; rfl)
    have m14 : w3.cell? ⟨x, 14, none⟩ = some (.slice (some ⟨g, 0, none⟩) l.runs.length cap) := World.grownBy.cell hgrow0 (hS1 _).1 hnx
    have mS : w3.cell? ⟨x, 18, none⟩ = some (.int .i64 (l.left : Int)) := World.grownBy.cell hgrow0 (hS1 _).2.1 hnx
    have m0 : w3.cell? ⟨g, l.left * 3, none⟩ = some (.int .i64 (r.id : Int)) := World.grownBy.cell hgrow0 (hS1 _).2.2.1 hng
    have m1 : w3.cell? ⟨g, l.left * 3 + 1, none⟩ = some (.int .i64 (r.at' : Int)) := World.grownBy.cell hgrow0 (hS1 _).2.2.2.1 hng
    have m2 : w3.cell? ⟨g, l.left * 3 + 2, none⟩ = some (.string r.rest) := World.grownBy.cell hgrow0 (hS1 _).2.2.2.2 hng
    clear RM hown3 hgrow0 hHeld g12 hS1 hba k14 kS k0 k1 k2
    refine hK.out _ _ ⟨m14, mS, m0, m1, m2⟩ (fun hHeld => ?_)
    clear hK K
    refine wpAnyH_take (i := 17) (v := ?dq17) rfl (by kernel_rfl) (by kernel_rfl) (by kernel_rfl) (fun _ _ _ h => h) (Or.inl ⟨by rfl, ?hydq17⟩) (by assumption) ?restdq17
    case hydq17 => intro w hSw; (try dsimp only at hSw); go_simp; (try with_reducible rfl)
    simp only [Act.put]
    refine wpAnyH_take (i := 18) (v := ?dq18) rfl (by kernel_rfl) (by kernel_rfl) (by kernel_rfl) (fun _ _ _ h => h) (Or.inl ⟨by rfl, ?hydq18⟩) (by assumption) ?restdq18
    case hydq18 => intro w hSw; (try dsimp only at hSw); go_simp; (try with_reducible rfl)
    simp only [Act.put]
    refine wpAnyH_ready (rs := [19]) (by kernel_rfl) (by simp) ?_
    refine AllReadyH.cons rfl (fun K hK => ?_) AllReadyH.nil
    go_simp
    have hkp : ∀ a v, a ≠ (⟨x, 16, none⟩ : Addr) → w3.cell? a = some v → (w3.setCell ⟨x, 16, none⟩ (.slice (some ⟨g', 0, none⟩) (l.merged.length + 1) cap')).cell? a = some v := fun a v ha hv => by rw [World.cell?_setCell_other _ _ _ _ (fun e => ha e.symm)]; exact hv
    refine hK.out _ _ ⟨hkp _ _ (by simp) m14, hkp _ _ (by simp) mS, hkp _ _ (by simp) m0, hkp _ _ (by simp) m1, hkp _ _ (by simp) m2⟩ (fun hHeld => ?_)
    clear hK K m14 mS m0 m1 m2 c33 f33 hHeld hkp
    refine wpAnyH_done (by kernel_rfl) ?_ _
    generalize w3.setCell ⟨x, 16, none⟩ (.slice (some ⟨g', 0, none⟩) (l.merged.length + 1) cap') = w4 at *
    have q5 := HR3.out.box.g18
    have HS3 : Hid (b.c5 = .int .i64 (l.left : Int)) := HL.out.lf
    simp only [HS3.out] at q5
    have f5 := HR3.out.box.free 18
    have R5 := HR3.out.box.s18 (.int .i64 ((l.left : Int) + 1))
    have j16 := R5.g16
    have j14 := R5.g14
    simp only [HE.out] at j14
    have HOW : Hid (Only (lfoot x b) w w4) := (Only.of_below HB1.out).trans (HO.out)
    have HQW : Hid (∀ q, lfoot x { b with c3 := .slice (some ⟨g', 0, none⟩) (l.merged.length + 1) cap' } q → lfoot x b q ∨ w.heap.size ≤ q) := fun q hq => (HQ.out q hq).imp (fun h => h) (fun h => by omega)
    have HL5 : Hid (LexIn (w4.setCell ⟨x, 18, none⟩ (.int .i64 ((l.left : Int) + 1))) x { b with c3 := .slice (some ⟨g', 0, none⟩) (l.merged.length + 1) cap', c5 := .int .i64 ((l.left : Int) + 1) } { l with merged := l.merged ++ [r], left := l.left + 1 }) := LexIn.rebox HR3.out (Only.setCell _ _ rfl) R5 rfl rfl rfl rfl rfl rfl HL.out.wid HL.out.st (by simp) HL.out.rg
    have HMV : Hid (Lx.merge l = Lx.settle { l with merged := l.merged ++ [r], left := l.left + 1 } (Lx.fin l)) := by
      show Lx.merge l = _
      unfold Lx.merge Lx.moved
      rw [if_pos HT.out, HR.out]
      rfl
    have HO5 : Hid (Only (lfoot x b) w (w4.setCell ⟨x, 18, none⟩ (.int .i64 ((l.left : Int) + 1)))) := HOW.out.trans (Only.setCell _ _ (.inl rfl))
    clear HO HQ
    have hmlen : (l.merged ++ [r]).length = l.merged.length + 1 := by simp
    by_cases c1 : l.merged.length + 1 < Lx.fin l
    · have u1 : decide (((l.merged.length : Int) + 1) < (Lx.fin l : Int)) = true := by rw [decide_eq_true_eq]; omega
      have u2 : decide (l.merged.length + 1 < Lx.fin l) = true := by rw [decide_eq_true_eq]; omega
      go_wp2_with fail
      (try simp only [Exit.inBlock, Exit.then])
      refine bodyPost_ret (results_none rfl _ _ _) rfl ?_
      refine ⟨rfl, { b with c3 := .slice (some ⟨g', 0, none⟩) (l.merged.length + 1) cap', c5 := .int .i64 ((l.left : Int) + 1) }, ?_, rfl, HO5.out, fun q hq => HQW.out q hq⟩
      rw [HMV.out, Lx.settle, hmlen, if_pos c1]
      exact HL5.out
    · have u1 : decide (((l.merged.length : Int) + 1) < (Lx.fin l : Int)) = false := by rw [decide_eq_false_iff_not]; omega
      have u2 : decide (l.merged.length + 1 < Lx.fin l) = false := by rw [decide_eq_false_iff_not]; omega
      by_cases c2 : Lx.fin l < l.runs.length
      · have u3 : decide ((Lx.fin l : Int) < (l.runs.length : Int)) = true := by rw [decide_eq_true_eq]; omega
        have u4 : decide (Lx.fin l < l.runs.length) = true := by rw [decide_eq_true_eq]; omega
        have HP : Hid (Calls Try.prog 103 #[.pointer (some ⟨x, 13, none⟩), .int .i64 (Lx.fin l : Nat)] _ _) := pair_any x _ (some ⟨g, 0, none⟩) l.runs.length cap l.width (Lx.fin l) _ R5 HE.out HL.out.wid (by omega) (by omega)
        clear R5
        go_wp2_with fail
        refine HP.out.mono ?_
        rintro e w6 ⟨rfl, hb6, ho6⟩
        go_wp2
        go_end0
        refine ⟨rfl, { b with c3 := .slice (some ⟨g', 0, none⟩) (l.merged.length + 1) cap', c4 := .int .i64 (Lx.fin l : Nat), c5 := .int .i64 (Lx.fin l : Nat), c6 := .int .i64 (min (Lx.fin l + l.width) l.runs.length : Nat) }, ?_, rfl, HO5.out.trans (ho6.mono (fun q hq => .inl hq)), fun q hq => HQW.out q hq⟩
        rw [HMV.out, Lx.settle, hmlen, if_neg c1, if_pos c2]
        exact LexIn.rebox HL5.out ho6 hb6 rfl rfl rfl rfl rfl rfl HL.out.wid rfl rfl rfl
      · have u3 : decide ((Lx.fin l : Int) < (l.runs.length : Int)) = false := by rw [decide_eq_false_iff_not]; omega
        have u4 : decide (Lx.fin l < l.runs.length) = false := by rw [decide_eq_false_iff_not]; omega
        have HP : Hid (Calls Try.prog 105 #[.pointer (some ⟨x, 13, none⟩)] _ _) := double_any x _ (some ⟨g', 0, none⟩) (l.merged.length + 1) cap' l.width _ R5 rfl HL.out.wid (by omega)
        clear R5
        go_wp2_with fail
        refine HP.out.mono ?_
        rintro e w6 ⟨rfl, hb6, ho6⟩
        go_wp2
        go_end0
        refine ⟨rfl, { b with c1 := .slice (some ⟨g', 0, none⟩) (l.merged.length + 1) cap', c2 := .int .i64 (2 * l.width : Nat), c3 := .slice none 0 0, c4 := .int .i64 0, c5 := .int .i64 0, c6 := .int .i64 (min (2 * l.width) (l.merged.length + 1) : Nat) }, ?_, rfl, HO5.out.trans (ho6.mono (fun q hq => .inl hq)), fun q hq => HQW.out q ?_⟩
        · rw [HMV.out, Lx.settle, hmlen, if_neg c1, if_neg c2]
          exact LexIn.doubled HL5.out ho6 hb6 rfl rfl rfl rfl rfl rfl (by rw [hmlen])
        · rcases hq with hq | hq | hq | hq
          · exact .inl hq
          · exact .inr (.inl hq)
          · exact .inr (.inr (.inr hq))
          · cases hq
  · skip
    refine wpAnyH_ready (rs := [16]) (by kernel_rfl) (by simp) ?_
    refine AllReadyH.cons rfl (fun K hK => ?_) AllReadyH.nil
    refine step_lies_at 86 rfl (w1.heap.size + 1) rfl (.tmp 74) (.tmp 85) 60 rfl 0 159 i0 (.agg #[.int .i64 0, .int .i64 0, .string ⟨#[]⟩]) 3 32 Try.underlying60 hi hz0 hz1 hz2 rfl (by decide) b.c3 l.merged.length (RW l.merged) (by simp [Act.eval]) (World.ownsRow.alloc hmg1 _) ⟨w1.heap.size, 0, none⟩ 1 1 (RW1 r) (by simp [Act.eval]) rfl (World.news_of_block (cs := #[.int .i64 (r.id : Int), .int .i64 (r.at' : Int), .string r.rest]) (heap_alloc_new w1 _)) (by intro u hu2; simp [RW1] at hu2; rcases hu2 with rfl | rfl | rfl <;> rfl) (by decide) (by unfold maxLen; omega) (by omega) (Nat.zero_le _) (by simp) ?_
    intro g' cap' w3 hown3 hgrow0 hat3 hlt3
    have RM := HL1.out.merged_more hown3 hgrow0 hat3
    have HR3 : Hid (LexIn _ _ _ _) := RM.2.1
    have HO : Hid (Only _ _ _) := RM.2.2.1
    have HQ : Hid (∀ k, _ → _) := RM.2.2.2
    have c33 := RM.1.g16
    have f33 := RM.1.free 16
    have hnx : some x ≠ b.c3.ownBlock := fun e => HL1.out.mg.apart HL1.out.box e.symm
    have hng : some g ≠ b.c3.ownBlock := fun e => HL.out.a3 g (by rw [HE.out]; rfl) e.symm
    have hgx : g ≠ x := fun e => HL.out.runs.apart HL.out.box (by rw [HE.out, e]; rfl)
    have m14 : w3.cell? ⟨x, 14, none⟩ = some (.slice (some ⟨g, 0, none⟩) l.runs.length cap) := World.grownBy.cell hgrow0 (hS1 _).1 hnx
    have mS : w3.cell? ⟨x, 18, none⟩ = some (.int .i64 (l.left : Int)) := World.grownBy.cell hgrow0 (hS1 _).2.1 hnx
    have m0 : w3.cell? ⟨g, l.left * 3, none⟩ = some (.int .i64 (r.id : Int)) := World.grownBy.cell hgrow0 (hS1 _).2.2.1 hng
    have m1 : w3.cell? ⟨g, l.left * 3 + 1, none⟩ = some (.int .i64 (r.at' : Int)) := World.grownBy.cell hgrow0 (hS1 _).2.2.2.1 hng
    have m2 : w3.cell? ⟨g, l.left * 3 + 2, none⟩ = some (.string r.rest) := World.grownBy.cell hgrow0 (hS1 _).2.2.2.2 hng
    clear RM hown3 hgrow0 hHeld g12 hS1 hba k14 kS k0 k1 k2
    refine hK.out _ _ ⟨m14, mS, m0, m1, m2⟩ (fun hHeld => ?_)
    clear hK K
    refine wpAnyH_take (i := 17) (v := ?dqq17) rfl (by kernel_rfl) (by kernel_rfl) (by kernel_rfl) (fun _ _ _ h => h) (Or.inl ⟨by rfl, ?hydqq17⟩) (by assumption) ?restdqq17
    case hydqq17 => intro w hSw; (try dsimp only at hSw); go_simp; (try with_reducible rfl)
    simp only [Act.put]
    refine wpAnyH_take (i := 18) (v := ?dqq18) rfl (by kernel_rfl) (by kernel_rfl) (by kernel_rfl) (fun _ _ _ h => h) (Or.inl ⟨by rfl, ?hydqq18⟩) (by assumption) ?restdqq18
    case hydqq18 => intro w hSw; (try dsimp only at hSw); go_simp; (try with_reducible rfl)
    simp only [Act.put]
    refine wpAnyH_ready (rs := [19]) (by kernel_rfl) (by simp) ?_
    refine AllReadyH.cons rfl (fun K hK => ?_) AllReadyH.nil
    go_simp
    have hkp : ∀ a v, a ≠ (⟨x, 16, none⟩ : Addr) → w3.cell? a = some v → (w3.setCell ⟨x, 16, none⟩ (.slice (some ⟨g', 0, none⟩) (l.merged.length + 1) cap')).cell? a = some v := fun a v ha hv => by rw [World.cell?_setCell_other _ _ _ _ (fun e => ha e.symm)]; exact hv
    refine hK.out _ _ ⟨hkp _ _ (by simp) m14, hkp _ _ (by simp) mS, hkp _ _ (by simp) m0, hkp _ _ (by simp) m1, hkp _ _ (by simp) m2⟩ (fun hHeld => ?_)
    clear hK K m14 mS m0 m1 m2 c33 f33 hHeld hkp
    refine wpAnyH_done (by kernel_rfl) ?_ _
    generalize w3.setCell ⟨x, 16, none⟩ (.slice (some ⟨g', 0, none⟩) (l.merged.length + 1) cap') = w4 at *
    have q5 := HR3.out.box.g18
    have HS3 : Hid (b.c5 = .int .i64 (l.left : Int)) := HL.out.lf
    simp only [HS3.out] at q5
    have f5 := HR3.out.box.free 18
    have R5 := HR3.out.box.s18 (.int .i64 ((l.left : Int) + 1))
    have j16 := R5.g16
    have j14 := R5.g14
    simp only [HE.out] at j14
    have HOW : Hid (Only (lfoot x b) w w4) := (Only.of_below HB1.out).trans (HO.out)
    have HQW : Hid (∀ q, lfoot x { b with c3 := .slice (some ⟨g', 0, none⟩) (l.merged.length + 1) cap' } q → lfoot x b q ∨ w.heap.size ≤ q) := fun q hq => (HQ.out q hq).imp (fun h => h) (fun h => by omega)
    have HL5 : Hid (LexIn (w4.setCell ⟨x, 18, none⟩ (.int .i64 ((l.left : Int) + 1))) x { b with c3 := .slice (some ⟨g', 0, none⟩) (l.merged.length + 1) cap', c5 := .int .i64 ((l.left : Int) + 1) } { l with merged := l.merged ++ [r], left := l.left + 1 }) := LexIn.rebox HR3.out (Only.setCell _ _ rfl) R5 rfl rfl rfl rfl rfl rfl HL.out.wid HL.out.st (by simp) HL.out.rg
    have HMV : Hid (Lx.merge l = Lx.settle { l with merged := l.merged ++ [r], left := l.left + 1 } (Lx.fin l)) := by
      show Lx.merge l = _
      unfold Lx.merge Lx.moved
      rw [if_pos HT.out, HR.out]
      rfl
    have HO5 : Hid (Only (lfoot x b) w (w4.setCell ⟨x, 18, none⟩ (.int .i64 ((l.left : Int) + 1)))) := HOW.out.trans (Only.setCell _ _ (.inl rfl))
    clear HO HQ
    have hmlen : (l.merged ++ [r]).length = l.merged.length + 1 := by simp
    by_cases c1 : l.merged.length + 1 < Lx.fin l
    · have u1 : decide (((l.merged.length : Int) + 1) < (Lx.fin l : Int)) = true := by rw [decide_eq_true_eq]; omega
      have u2 : decide (l.merged.length + 1 < Lx.fin l) = true := by rw [decide_eq_true_eq]; omega
      go_wp2_with fail
      (try simp only [Exit.inBlock, Exit.then])
      refine bodyPost_ret (results_none rfl _ _ _) rfl ?_
      refine ⟨rfl, { b with c3 := .slice (some ⟨g', 0, none⟩) (l.merged.length + 1) cap', c5 := .int .i64 ((l.left : Int) + 1) }, ?_, rfl, HO5.out, fun q hq => HQW.out q hq⟩
      rw [HMV.out, Lx.settle, hmlen, if_pos c1]
      exact HL5.out
    · have u1 : decide (((l.merged.length : Int) + 1) < (Lx.fin l : Int)) = false := by rw [decide_eq_false_iff_not]; omega
      have u2 : decide (l.merged.length + 1 < Lx.fin l) = false := by rw [decide_eq_false_iff_not]; omega
      by_cases c2 : Lx.fin l < l.runs.length
      · have u3 : decide ((Lx.fin l : Int) < (l.runs.length : Int)) = true := by rw [decide_eq_true_eq]; omega
        have u4 : decide (Lx.fin l < l.runs.length) = true := by rw [decide_eq_true_eq]; omega
        have HP : Hid (Calls Try.prog 103 #[.pointer (some ⟨x, 13, none⟩), .int .i64 (Lx.fin l : Nat)] _ _) := pair_any x _ (some ⟨g, 0, none⟩) l.runs.length cap l.width (Lx.fin l) _ R5 HE.out HL.out.wid (by omega) (by omega)
        clear R5
        go_wp2_with fail
        refine HP.out.mono ?_
        rintro e w6 ⟨rfl, hb6, ho6⟩
        go_wp2
        go_end0
        refine ⟨rfl, { b with c3 := .slice (some ⟨g', 0, none⟩) (l.merged.length + 1) cap', c4 := .int .i64 (Lx.fin l : Nat), c5 := .int .i64 (Lx.fin l : Nat), c6 := .int .i64 (min (Lx.fin l + l.width) l.runs.length : Nat) }, ?_, rfl, HO5.out.trans (ho6.mono (fun q hq => .inl hq)), fun q hq => HQW.out q hq⟩
        rw [HMV.out, Lx.settle, hmlen, if_neg c1, if_pos c2]
        exact LexIn.rebox HL5.out ho6 hb6 rfl rfl rfl rfl rfl rfl HL.out.wid rfl rfl rfl
      · have u3 : decide ((Lx.fin l : Int) < (l.runs.length : Int)) = false := by rw [decide_eq_false_iff_not]; omega
        have u4 : decide (Lx.fin l < l.runs.length) = false := by rw [decide_eq_false_iff_not]; omega
        have HP : Hid (Calls Try.prog 105 #[.pointer (some ⟨x, 13, none⟩)] _ _) := double_any x _ (some ⟨g', 0, none⟩) (l.merged.length + 1) cap' l.width _ R5 rfl HL.out.wid (by omega)
        clear R5
        go_wp2_with fail
        refine HP.out.mono ?_
        rintro e w6 ⟨rfl, hb6, ho6⟩
        go_wp2
        go_end0
        refine ⟨rfl, { b with c1 := .slice (some ⟨g', 0, none⟩) (l.merged.length + 1) cap', c2 := .int .i64 (2 * l.width : Nat), c3 := .slice none 0 0, c4 := .int .i64 0, c5 := .int .i64 0, c6 := .int .i64 (min (2 * l.width) (l.merged.length + 1) : Nat) }, ?_, rfl, HO5.out.trans (ho6.mono (fun q hq => .inl hq)), fun q hq => HQW.out q ?_⟩
        · rw [HMV.out, Lx.settle, hmlen, if_neg c1, if_neg c2]
          exact LexIn.doubled HL5.out ho6 hb6 rfl rfl rfl rfl rfl rfl (by rw [hmlen])
        · rcases hq with hq | hq | hq | hq
          · exact .inl hq
          · exact .inr (.inl hq)
          · exact .inr (.inr (.inr hq))
          · cases hq

end Go.Proofs.Ythkndfkkgncjfab

namespace Go.Proofs.Ythkndfkkgncjfab
open Go.RowKit
set_option maxRecDepth 100000

set_option maxHeartbeats 4000000 in
theorem merge_left_over (x : Nat) (b : Box) (l : Lx.Lex) (r : Lx.Rw) (w : World) (h : LexIn w x b l) (hf : Fits l) (h1 : l.left < Lx.middle l) (h2 : Lx.fin l ≤ l.right) (hr : l.runs[l.left]? = some r) :
    Calls Try.prog 95 #[.pointer (some ⟨x, 13, none⟩)] w fun e w' => e = .returned (.tuple #[]) ∧ ∃ b', LexIn w' x b' (Lx.merge l) ∧ b.same b' ∧ Only (lfoot x b) w w' ∧ ∀ k, lfoot x b' k → lfoot x b k ∨ w.heap.size ≤ k := by
  obtain ⟨i0, hi, hz0, hz1, hz2⟩ := info_parts Try.info159
  obtain ⟨ao, cap, e1, hc⟩ := h.runs.any
  obtain ⟨g, rfl, y0, y1, y2⟩ := hc _ _ hr
  have d1 : decide ((l.left : Int) < (Lx.middle l : Int)) = true := by rw [decide_eq_true_eq]; omega
  have d1' : decide (l.left < Lx.middle l) = true := by rw [decide_eq_true_eq]; omega
  have d2 : decide ((Lx.fin l : Int) ≤ (l.right : Int)) = true := by rw [decide_eq_true_eq]; omega
  have d2' : decide (Lx.fin l ≤ l.right) = true := by rw [decide_eq_true_eq]; omega
  have g14 := h.box.g14
  have g15 := h.box.g15
  have g17 := h.box.g17
  have g18 := h.box.g18
  have g19 := h.box.g19
  rw [e1] at g14
  rw [h.wid] at g15
  rw [h.st] at g17
  rw [h.lf] at g18
  rw [h.rg] at g19
  obtain ⟨f1, f2, f3, f4, f5, f6, _⟩ := hf
  have HLE : ∀ w, Calls Try.prog 104 #[.int .i64 ((l.start : Int) + (l.width : Int)), .int .i64 (l.runs.length : Int)] w fun e w' => e = .returned (.int .i64 (Lx.middle l : Nat)) ∧ w' = w := fun w => by
    have := lesser_any ((l.start : Int) + (l.width : Int)) (l.runs.length : Int) w
    have hm : min ((l.start : Int) + (l.width : Int)) (l.runs.length : Int) = (Lx.middle l : Nat) := by unfold Lx.middle; omega
    rw [hm] at this; exact this
  have HRE : ∀ w, Calls Try.prog 104 #[.int .i64 ((Lx.middle l : Int) + (l.width : Int)), .int .i64 (l.runs.length : Int)] w fun e w' => e = .returned (.int .i64 (Lx.fin l : Nat)) ∧ w' = w := fun w => by
    have := lesser_any ((Lx.middle l : Int) + (l.width : Int)) (l.runs.length : Int) w
    have hm : min ((Lx.middle l : Int) + (l.width : Int)) (l.runs.length : Int) = (Lx.fin l : Nat) := by unfold Lx.fin; omega
    rw [hm] at this; exact this
  have hfl := fin_le l
  have hml := middle_le l
  have hll := (List.getElem?_eq_some_iff.1 hr).1
  have HL : Hid (LexIn w x b l) := h
  have HR : Hid (l.runs[l.left]? = some r) := hr
  have HT : Hid (Lx.lefts l = true) := by
    show _ = _
    unfold Lx.lefts
    simp [h1, h2]
  have HE : Hid (b.c1 = .slice (some ⟨g, 0, none⟩) l.runs.length cap) := e1
  have HC : Hid (∀ k r, l.runs[k]? = some r → ∃ g', some (⟨g, 0, none⟩ : Addr) = some ⟨g', 0, none⟩ ∧ w.cell? ⟨g', k * 3, none⟩ = some (.int .i64 (r.id : Int)) ∧ w.cell? ⟨g', k * 3 + 1, none⟩ = some (.int .i64 (r.at' : Int)) ∧ w.cell? ⟨g', k * 3 + 2, none⟩ = some (.string r.rest)) := hc
  have w1' : IntKind.i64.wrap ((l.start : Int) + (l.width : Int)) = (l.start : Int) + (l.width : Int) := by rw [IntKind.wrap_i64]; omega
  have w2' : IntKind.i64.wrap ((Lx.middle l : Int) + (l.width : Int)) = (Lx.middle l : Int) + (l.width : Int) := by rw [IntKind.wrap_i64]; omega
  clear h hr e1 hc
  have HLE' : Hid _ := HLE
  have HRE' : Hid _ := HRE
  clear HLE HRE
  go_enter Try.func95, Try.ntmps95
  go_wp2_with fail
  refine wp_region_held_drew (S := fun w' => w'.cell? ⟨x, 17, none⟩ = some (.int .i64 (l.start : Int)) ∧ w'.cell? ⟨x, 15, none⟩ = some (.int .i64 (l.width : Int)) ∧ w'.cell? ⟨x, 14, none⟩ = some (.slice (some ⟨g, 0, none⟩) l.runs.length cap)) (by kernel_rfl) ⟨g17, g15, g14⟩ (fun hHeld => ?_)
  refine wpAnyH_take (i := 0) (v := ?a0) rfl (by kernel_rfl) (by kernel_rfl) (by kernel_rfl) (fun _ _ _ h => h) (Or.inl ⟨by rfl, ?hya0⟩) (by assumption) ?resta0
  case hya0 => intro w hSw; (try dsimp only at hSw); go_simp; (try with_reducible rfl)
  simp only [Act.put]
  refine wpAnyH_take (i := 1) (v := ?a1) rfl (by kernel_rfl) (by kernel_rfl) (by kernel_rfl) (fun _ _ _ h => h) (Or.inl ⟨by rfl, ?hya1⟩) (by assumption) ?resta1
  case hya1 => intro w hSw; (try dsimp only at hSw); go_simp; (try with_reducible rfl)
  simp only [Act.put]
  refine wpAnyH_take (i := 2) (v := ?a2) rfl (by kernel_rfl) (by kernel_rfl) (by kernel_rfl) (fun _ _ _ h => h) (Or.inl ⟨by rfl, ?hya2⟩) (by assumption) ?resta2
  case hya2 => intro w hSw; (try dsimp only at hSw); go_simp; (try with_reducible rfl)
  simp only [Act.put]
  refine wpAnyH_take (i := 3) (v := ?a3) rfl (by kernel_rfl) (by kernel_rfl) (by kernel_rfl) (fun _ _ _ h => h) (Or.inl ⟨by rfl, ?hya3⟩) (by assumption) ?resta3
  case hya3 => intro w hSw; (try dsimp only at hSw); go_simp; (try with_reducible rfl)
  simp only [Act.put]
  refine wpAnyH_take (i := 4) (v := ?a4) rfl (by kernel_rfl) (by kernel_rfl) (by kernel_rfl) (fun _ _ _ h => h) (Or.inl ⟨by rfl, ?hya4⟩) (by assumption) ?resta4
  case hya4 => intro w hSw; (try dsimp only at hSw); go_simp; (try with_reducible rfl)
  simp only [Act.put]
  refine wpAnyH_take (i := 5) (v := ?a5) rfl (by kernel_rfl) (by kernel_rfl) (by kernel_rfl) (fun _ _ _ h => h) (Or.inl ⟨by rfl, ?hya5⟩) (by assumption) ?resta5
  case hya5 => intro w hSw; (try dsimp only at hSw); go_simp; (try with_reducible rfl)
  simp only [Act.put]
  refine wpAnyH_take (i := 6) (v := ?a6) rfl (by kernel_rfl) (by kernel_rfl) (by kernel_rfl) (fun _ _ _ h => h) (Or.inl ⟨by rfl, ?hya6⟩) (by assumption) ?resta6
  case hya6 => intro w hSw; (try dsimp only at hSw); go_simp; (try with_reducible rfl)
  simp only [Act.put]
  refine wpAnyH_take (i := 7) (v := ?a7) rfl (by kernel_rfl) (by kernel_rfl) (by kernel_rfl) (fun _ _ _ h => h) (Or.inl ⟨by rfl, ?hya7⟩) (by assumption) ?resta7
  case hya7 => intro w hSw; (try dsimp only at hSw); go_simp; (try with_reducible rfl)
  simp only [Act.put]
  refine wpAnyH_take (i := 8) (v := ?a8) rfl (by kernel_rfl) (by kernel_rfl) (by kernel_rfl) (fun _ _ _ h => h) (Or.inl ⟨by rfl, ?hya8⟩) (by assumption) ?resta8
  case hya8 => intro w hSw; (try dsimp only at hSw); go_simp; (try with_reducible rfl)
  simp only [Act.put]
  refine wpAnyH_take (i := 9) (v := ?a9) rfl (by kernel_rfl) (by kernel_rfl) (by kernel_rfl) (fun _ _ _ h => h) (Or.inl ⟨by rfl, ?hya9⟩) (by assumption) ?resta9
  case hya9 => intro w hSw; (try dsimp only at hSw); go_simp; (try with_reducible rfl)
  simp only [Act.put]
  refine wpAnyH_take (i := 10) (v := ?a10) rfl (by kernel_rfl) (by kernel_rfl) (by kernel_rfl) (fun _ _ _ h => h) (Or.inl ⟨by rfl, ?hya10⟩) (by assumption) ?resta10
  case hya10 => intro w hSw; (try dsimp only at hSw); go_simp; (try with_reducible rfl)
  simp only [Act.put]
  refine wpAnyH_take (i := 11) (v := ?a11) rfl (by kernel_rfl) (by kernel_rfl) (by kernel_rfl) (fun _ _ _ h => h) (Or.inl ⟨by rfl, ?hya11⟩) (by assumption) ?resta11
  case hya11 => intro w hSw; (try dsimp only at hSw); go_simp; (try with_reducible rfl)
  simp only [Act.put]
  refine wpAnyH_take (i := 12) (v := ?a12) rfl (by kernel_rfl) (by kernel_rfl) (by kernel_rfl) (fun _ _ _ h => h) (Or.inl ⟨by rfl, ?hya12⟩) (by assumption) ?resta12
  case hya12 => intro w hSw; (try dsimp only at hSw); go_simp; (try with_reducible rfl)
  simp only [Act.put]
  refine wpAnyH_take (i := 13) (v := ?a13) rfl (by kernel_rfl) (by kernel_rfl) (by kernel_rfl) (fun _ _ _ h => h) (Or.inl ⟨by rfl, ?hya13⟩) (by assumption) ?resta13
  case hya13 => intro w hSw; (try dsimp only at hSw); go_simp; (try with_reducible rfl)
  simp only [Act.put]
  refine wpAnyH_ready (rs := [14]) (by kernel_rfl) (by simp) ?_
  refine AllReadyH.cons rfl (fun K hK => ?_) AllReadyH.nil
  go_simp
  refine (HLE'.out _).mono ?_
  rintro e w3 ⟨rfl, hw3⟩
  rw [hw3]; clear hw3
  refine hK.out _ _ ⟨g17, g15, g14⟩ (fun hHeld => ?_)
  clear hK K
  refine wpAnyH_ready (rs := [15]) (by kernel_rfl) (by simp) ?_
  refine AllReadyH.cons rfl (fun K hK => ?_) AllReadyH.nil
  go_simp
  refine hK.out _ _ ⟨g17, g15, g14⟩ (fun hHeld => ?_)
  clear hK K
  refine wpAnyH_done (by kernel_rfl) ?_ _
  clear hHeld
  go_wp2_with fail
  refine wp_region_held_drew (S := fun w' => w'.cell? ⟨x, 15, none⟩ = some (.int .i64 (l.width : Int)) ∧ w'.cell? ⟨x, 14, none⟩ = some (.slice (some ⟨g, 0, none⟩) l.runs.length cap)) (by kernel_rfl) ⟨g15, g14⟩ (fun hHeld => ?_)
  refine wpAnyH_take (i := 0) (v := ?b0) rfl (by kernel_rfl) (by kernel_rfl) (by kernel_rfl) (fun _ _ _ h => h) (Or.inl ⟨by rfl, ?hyb0⟩) (by assumption) ?restb0
  case hyb0 => intro w hSw; (try dsimp only at hSw); go_simp; (try with_reducible rfl)
  simp only [Act.put]
  refine wpAnyH_take (i := 1) (v := ?b1) rfl (by kernel_rfl) (by kernel_rfl) (by kernel_rfl) (fun _ _ _ h => h) (Or.inl ⟨by rfl, ?hyb1⟩) (by assumption) ?restb1
  case hyb1 => intro w hSw; (try dsimp only at hSw); go_simp; (try with_reducible rfl)
  simp only [Act.put]
  refine wpAnyH_take (i := 2) (v := ?b2) rfl (by kernel_rfl) (by kernel_rfl) (by kernel_rfl) (fun _ _ _ h => h) (Or.inl ⟨by rfl, ?hyb2⟩) (by assumption) ?restb2
  case hyb2 => intro w hSw; (try dsimp only at hSw); go_simp; (try with_reducible rfl)
  simp only [Act.put]
  refine wpAnyH_take (i := 3) (v := ?b3) rfl (by kernel_rfl) (by kernel_rfl) (by kernel_rfl) (fun _ _ _ h => h) (Or.inl ⟨by rfl, ?hyb3⟩) (by assumption) ?restb3
  case hyb3 => intro w hSw; (try dsimp only at hSw); go_simp; (try with_reducible rfl)
  simp only [Act.put]
  refine wpAnyH_take (i := 4) (v := ?b4) rfl (by kernel_rfl) (by kernel_rfl) (by kernel_rfl) (fun _ _ _ h => h) (Or.inl ⟨by rfl, ?hyb4⟩) (by assumption) ?restb4
  case hyb4 => intro w hSw; (try dsimp only at hSw); go_simp; (try with_reducible rfl)
  simp only [Act.put]
  refine wpAnyH_take (i := 5) (v := ?b5) rfl (by kernel_rfl) (by kernel_rfl) (by kernel_rfl) (fun _ _ _ h => h) (Or.inl ⟨by rfl, ?hyb5⟩) (by assumption) ?restb5
  case hyb5 => intro w hSw; (try dsimp only at hSw); go_simp; (try with_reducible rfl)
  simp only [Act.put]
  refine wpAnyH_take (i := 6) (v := ?b6) rfl (by kernel_rfl) (by kernel_rfl) (by kernel_rfl) (fun _ _ _ h => h) (Or.inl ⟨by rfl, ?hyb6⟩) (by assumption) ?restb6
  case hyb6 => intro w hSw; (try dsimp only at hSw); go_simp; (try with_reducible rfl)
  simp only [Act.put]
  refine wpAnyH_take (i := 7) (v := ?b7) rfl (by kernel_rfl) (by kernel_rfl) (by kernel_rfl) (fun _ _ _ h => h) (Or.inl ⟨by rfl, ?hyb7⟩) (by assumption) ?restb7
  case hyb7 => intro w hSw; (try dsimp only at hSw); go_simp; (try with_reducible rfl)
  simp only [Act.put]
  refine wpAnyH_take (i := 8) (v := ?b8) rfl (by kernel_rfl) (by kernel_rfl) (by kernel_rfl) (fun _ _ _ h => h) (Or.inl ⟨by rfl, ?hyb8⟩) (by assumption) ?restb8
  case hyb8 => intro w hSw; (try dsimp only at hSw); go_simp; (try with_reducible rfl)
  simp only [Act.put]
  refine wpAnyH_take (i := 9) (v := ?b9) rfl (by kernel_rfl) (by kernel_rfl) (by kernel_rfl) (fun _ _ _ h => h) (Or.inl ⟨by rfl, ?hyb9⟩) (by assumption) ?restb9
  case hyb9 => intro w hSw; (try dsimp only at hSw); go_simp; (try with_reducible rfl)
  simp only [Act.put]
  refine wpAnyH_take (i := 10) (v := ?b10) rfl (by kernel_rfl) (by kernel_rfl) (by kernel_rfl) (fun _ _ _ h => h) (Or.inl ⟨by rfl, ?hyb10⟩) (by assumption) ?restb10
  case hyb10 => intro w hSw; (try dsimp only at hSw); go_simp; (try with_reducible rfl)
  simp only [Act.put]
  refine wpAnyH_ready (rs := [11]) (by kernel_rfl) (by simp) ?_
  refine AllReadyH.cons rfl (fun K hK => ?_) AllReadyH.nil
  go_simp
  refine (HRE'.out _).mono ?_
  rintro e w3 ⟨rfl, hw3⟩
  rw [hw3]; clear hw3
  refine hK.out _ _ ⟨g15, g14⟩ (fun hHeld => ?_)
  clear hK K
  refine wpAnyH_ready (rs := [12]) (by kernel_rfl) (by simp) ?_
  refine AllReadyH.cons rfl (fun K hK => ?_) AllReadyH.nil
  go_simp
  refine hK.out _ _ ⟨g15, g14⟩ (fun hHeld => ?_)
  clear hK K
  refine wpAnyH_done (by kernel_rfl) ?_ _
  clear hHeld HLE' HRE'
  go_wp2_with fail
  go_quiet (fail)
  go_wp2_with fail
  generalize hW1 : w.drew.drew.drewN nq = w1
  have hb1 : Below w.heap.size w w1 := by rw [← hW1]; exact below_drewN (Below.refl _ _).drew.drew _
  have hsz1 : w1.heap.size = w.heap.size := by rw [← hW1]; rfl
  have HB1 : Hid (Below w.heap.size w w1) := hb1
  have HL1 : Hid (LexIn w1 x b l) := HL.out.below hb1
  have k14 : w1.cell? ⟨x, 14, none⟩ = some (.slice (some ⟨g, 0, none⟩) l.runs.length cap) := cell_later hb1 g14
  have kS : w1.cell? ⟨x, 18, none⟩ = some (.int .i64 (l.left : Int)) := cell_later hb1 g18
  have k0 : w1.cell? ⟨g, l.left * 3, none⟩ = some (.int .i64 (r.id : Int)) := cell_later hb1 y0
  have k1 : w1.cell? ⟨g, l.left * 3 + 1, none⟩ = some (.int .i64 (r.at' : Int)) := cell_later hb1 y1
  have k2 : w1.cell? ⟨g, l.left * 3 + 2, none⟩ = some (.string r.rest) := cell_later hb1 y2
  have k16 := HL1.out.box.g16
  have hmg1 := HL1.out.mg
  clear hW1 hb1 g14 g15 g17 g18 g19 y0 y1 y2
  have hba : ∀ o, Below w1.heap.size w1 (w1.alloc o).drew := fun o => ((Below.refl _ _).alloc (Nat.le_refl _) o).drew
  have hS1 : ∀ o, (w1.alloc o).drew.cell? ⟨x, 14, none⟩ = some (.slice (some ⟨g, 0, none⟩) l.runs.length cap) ∧ (w1.alloc o).drew.cell? ⟨x, 18, none⟩ = some (.int .i64 (l.left : Int)) ∧ (w1.alloc o).drew.cell? ⟨g, l.left * 3, none⟩ = some (.int .i64 (r.id : Int)) ∧ (w1.alloc o).drew.cell? ⟨g, l.left * 3 + 1, none⟩ = some (.int .i64 (r.at' : Int)) ∧ (w1.alloc o).drew.cell? ⟨g, l.left * 3 + 2, none⟩ = some (.string r.rest) := fun o => ⟨cell_later (hba o) k14, cell_later (hba o) kS, cell_later (hba o) k0, cell_later (hba o) k1, cell_later (hba o) k2⟩
  have g12 : ∀ o, (w1.alloc o).drew.cell? ⟨x, 16, none⟩ = some b.c3 := fun o => cell_later (hba o) k16
  refine wp_region_held_drew (S := fun w' => w'.cell? ⟨x, 14, none⟩ = some (.slice (some ⟨g, 0, none⟩) l.runs.length cap) ∧ w'.cell? ⟨x, 18, none⟩ = some (.int .i64 (l.left : Int)) ∧ w'.cell? ⟨g, l.left * 3, none⟩ = some (.int .i64 (r.id : Int)) ∧ w'.cell? ⟨g, l.left * 3 + 1, none⟩ = some (.int .i64 (r.at' : Int)) ∧ w'.cell? ⟨g, l.left * 3 + 2, none⟩ = some (.string r.rest)) (by kernel_rfl) ⟨k14, kS, k0, k1, k2⟩ (fun hHeld => ?_)
  refine wpAnyH_take (i := 0) (v := ?c0) rfl (by kernel_rfl) (by kernel_rfl) (by kernel_rfl) (fun _ _ _ h => h) (Or.inl ⟨by rfl, ?hyc0⟩) (by assumption) ?restc0
  case hyc0 => intro w hSw; (try dsimp only at hSw); go_simp; (try with_reducible rfl)
  simp only [Act.put]
  refine wpAnyH_take (i := 1) (v := ?c1) rfl (by kernel_rfl) (by kernel_rfl) (by kernel_rfl) (fun _ _ _ h => h) (Or.inl ⟨by rfl, ?hyc1⟩) (by assumption) ?restc1
  case hyc1 => intro w hSw; (try dsimp only at hSw); go_simp; (try with_reducible rfl)
  simp only [Act.put]
  refine wpAnyH_take (i := 2) (v := ?c2) rfl (by kernel_rfl) (by kernel_rfl) (by kernel_rfl) (fun _ _ _ h => h) (Or.inl ⟨by rfl, ?hyc2⟩) (by assumption) ?restc2
  case hyc2 => intro w hSw; (try dsimp only at hSw); go_simp; (try with_reducible rfl)
  simp only [Act.put]
  refine wpAnyH_take (i := 3) (v := ?c3) rfl (by kernel_rfl) (by kernel_rfl) (by kernel_rfl) (fun _ _ _ h => h) (Or.inl ⟨by rfl, ?hyc3⟩) (by assumption) ?restc3
  case hyc3 => intro w hSw; (try dsimp only at hSw); go_simp; (try with_reducible rfl)
  simp only [Act.put]
  refine wpAnyH_take (i := 5) (v := ?c5) rfl (by kernel_rfl) (by kernel_rfl) (by kernel_rfl) (fun _ _ _ h => h) (Or.inl ⟨by rfl, ?hyc5⟩) (by assumption) ?restc5
  case hyc5 => intro w hSw; (try dsimp only at hSw); go_simp; (try with_reducible rfl)
  simp only [Act.put]
  refine wpAnyH_take (i := 6) (v := ?c6) rfl (by kernel_rfl) (by kernel_rfl) (by kernel_rfl) (fun _ _ _ h => h) (Or.inl ⟨by rfl, ?hyc6⟩) (by assumption) ?restc6
  case hyc6 => intro w hSw; (try dsimp only at hSw); go_simp; (try with_reducible rfl)
  simp only [Act.put]
  refine wpAnyH_take (i := 7) (v := ?c7) rfl (by kernel_rfl) (by kernel_rfl) (by kernel_rfl) (fun _ _ _ h => h) (Or.inl ⟨by rfl, ?hyc7⟩) (by assumption) ?restc7
  case hyc7 => intro w hSw; (try dsimp only at hSw); go_simp; (try with_reducible rfl)
  simp only [Act.put]
  refine wpAnyH_take (i := 8) (v := ?c8) rfl (by kernel_rfl) (by kernel_rfl) (by kernel_rfl) (fun _ _ _ h => h) (Or.inl ⟨by rfl, ?hyc8⟩) (by assumption) ?restc8
  case hyc8 => intro w hSw; (try dsimp only at hSw); go_simp; (try with_reducible rfl)
  simp only [Act.put]
  refine wpAnyH_take (i := 9) (v := ?c9) rfl (by kernel_rfl) (by kernel_rfl) (by kernel_rfl) (fun _ _ _ h => h) (Or.inl ⟨by rfl, ?hyc9⟩) (by assumption) ?restc9
  case hyc9 => intro w hSw; (try dsimp only at hSw); go_simp; (try with_reducible rfl)
  simp only [Act.put]
  refine wpAnyH_take (i := 10) (v := ?c10) rfl (by kernel_rfl) (by kernel_rfl) (by kernel_rfl) (fun _ _ _ h => h) (Or.inl ⟨by rfl, ?hyc10⟩) (by assumption) ?restc10
  case hyc10 => intro w hSw; (try dsimp only at hSw); go_simp; (try with_reducible rfl)
  simp only [Act.put]
  refine wpAnyH_take (i := 11) (v := ?c11) rfl (by kernel_rfl) (by kernel_rfl) (by kernel_rfl) (fun _ _ _ h => h) (Or.inl ⟨by rfl, ?hyc11⟩) (by assumption) ?restc11
  case hyc11 => intro w hSw; (try dsimp only at hSw); go_simp; (try with_reducible rfl)
  simp only [Act.put]
  refine wpAnyH_take (i := 12) (v := ?c12) rfl (by kernel_rfl) (by kernel_rfl) (by kernel_rfl) (fun _ _ _ h => h) (Or.inl ⟨by rfl, ?hyc12⟩) (by assumption) ?restc12
  case hyc12 => intro w hSw; (try dsimp only at hSw); go_simp; (try with_reducible rfl)
  simp only [Act.put]
  refine wpAnyH_take (i := 13) (v := ?c13) rfl (by kernel_rfl) (by kernel_rfl) (by kernel_rfl) (fun _ _ _ h => h) (Or.inl ⟨by rfl, ?hyc13⟩) (by assumption) ?restc13
  case hyc13 => intro w hSw; (try dsimp only at hSw); go_simp; (try with_reducible rfl)
  simp only [Act.put]
  refine wpAnyH_take (i := 14) (v := ?c14) rfl (by kernel_rfl) (by kernel_rfl) (by kernel_rfl) (fun _ _ _ h => h) (Or.inl ⟨by rfl, ?hyc14⟩) (by assumption) ?restc14
  case hyc14 => intro w hSw; (try dsimp only at hSw); go_simp; (try with_reducible rfl)
  simp only [Act.put]
  refine wpAnyH_ready (rs := [4, 15]) (by kernel_rfl) (by simp) ?_
  refine AllReadyH.cons rfl (fun K hK => ?A) (AllReadyH.cons rfl (fun K hK => ?B) AllReadyH.nil)
  case' A =>
    go_simp
    refine hK.out _ _ (by exact hHeld) (fun hHeld => ?_)
    clear hK K
    refine wpAnyH_ready (rs := [15]) (by kernel_rfl) (by simp) ?_
    refine AllReadyH.cons rfl (fun K hK => ?_) AllReadyH.nil
    go_simp
    refine hK.out _ _ (hS1 _) (fun hHeld => ?_)
    clear hK K
  case' B =>
    go_simp
    refine hK.out _ _ (hS1 _) (fun hHeld => ?_)
    clear hK K
    refine wpAnyH_ready (rs := [4]) (by kernel_rfl) (by simp) ?_
    refine AllReadyH.cons rfl (fun K hK => ?_) AllReadyH.nil
    have g13 := g12 (.cells #[.int .i64 (r.id : Int), .int .i64 (r.at' : Int), .string r.rest] 159)
    go_simp
    refine hK.out _ _ (by exact hHeld) (fun hHeld => ?_)
    clear hK K g13
  · skip
    refine wpAnyH_ready (rs := [16]) (by kernel_rfl) (by simp) ?_
    refine AllReadyH.cons rfl (fun K hK => ?_) AllReadyH.nil
    refine step_lies_at 86 rfl (w1.heap.size + 1) rfl (.tmp 74) (.tmp 85) 60 rfl 0 159 i0 (.agg #[.int .i64 0, .int .i64 0, .string ⟨#[]⟩]) 3 32 Try.underlying60 hi hz0 hz1 hz2 rfl (by decide) b.c3 l.merged.length (RW l.merged) (by simp [Act.eval]) (World.ownsRow.alloc hmg1 _) ⟨w1.heap.size, 0, none⟩ 1 1 (RW1 r) (by simp [Act.eval]) rfl (World.news_of_block (cs := #[.int .i64 (r.id : Int), .int .i64 (r.at' : Int), .string r.rest]) (heap_alloc_new w1 _)) (by intro u hu2; simp [RW1] at hu2; rcases hu2 with rfl | rfl | rfl <;> rfl) (by decide) (by unfold maxLen; omega) (by omega) (Nat.zero_le _) (by simp) ?_
    intro g' cap' w3 hown3 hgrow0 hat3 hlt3
    have RM := HL1.out.merged_more hown3 hgrow0 hat3
    have HR3 : Hid (LexIn _ _ _ _) := RM.2.1
    have HO : Hid (Only _ _ _) := RM.2.2.1
    have HQ : Hid (∀ k, _ → _) := RM.2.2.2
    have c33 := RM.1.g16
    have f33 := RM.1.free 16
    have hnx : some x ≠ b.c3.ownBlock := fun e => HL1.out.mg.apart HL1.out.box e.symm
    have hng : some g ≠ b.c3.ownBlock := fun e => HL.out.a3 g (by rw [HE.out]; rfl) e.symm
    have hgx : g ≠ x := fun e => HL.out.runs.apart HL.out.box (by rw [HE.out, e]; rfl)
    have m14 : w3.cell? ⟨x, 14, none⟩ = some (.slice (some ⟨g, 0, none⟩) l.runs.length cap) := World.grownBy.cell hgrow0 (hS1 _).1 hnx
    have mS : w3.cell? ⟨x, 18, none⟩ = some (.int .i64 (l.left : Int)) := World.grownBy.cell hgrow0 (hS1 _).2.1 hnx
    have m0 : w3.cell? ⟨g, l.left * 3, none⟩ = some (.int .i64 (r.id : Int)) := World.grownBy.cell hgrow0 (hS1 _).2.2.1 hng
    have m1 : w3.cell? ⟨g, l.left * 3 + 1, none⟩ = some (.int .i64 (r.at' : Int)) := World.grownBy.cell hgrow0 (hS1 _).2.2.2.1 hng
    have m2 : w3.cell? ⟨g, l.left * 3 + 2, none⟩ = some (.string r.rest) := World.grownBy.cell hgrow0 (hS1 _).2.2.2.2 hng
    clear RM hown3 hgrow0 hHeld g12 hS1 hba k14 kS k0 k1 k2
    refine hK.out _ _ ⟨m14, mS, m0, m1, m2⟩ (fun hHeld => ?_)
    clear hK K
    refine wpAnyH_take (i := 17) (v := ?dq17) rfl (by kernel_rfl) (by kernel_rfl) (by kernel_rfl) (fun _ _ _ h => h) (Or.inl ⟨by rfl, ?hydq17⟩) (by assumption) ?restdq17
    case hydq17 => intro w hSw; (try dsimp only at hSw); go_simp; (try with_reducible rfl)
    simp only [Act.put]
    refine wpAnyH_take (i := 18) (v := ?dq18) rfl (by kernel_rfl) (by kernel_rfl) (by kernel_rfl) (fun _ _ _ h => h) (Or.inl ⟨by rfl, ?hydq18⟩) (by assumption) ?restdq18
    case hydq18 => intro w hSw; (try dsimp only at hSw); go_simp; (try with_reducible rfl)
    simp only [Act.put]
    refine wpAnyH_ready (rs := [19]) (by kernel_rfl) (by simp) ?_
    refine AllReadyH.cons rfl (fun K hK => ?_) AllReadyH.nil
    go_simp
    have hkp : ∀ a v, a ≠ (⟨x, 16, none⟩ : Addr) → w3.cell? a = some v → (w3.setCell ⟨x, 16, none⟩ (.slice (some ⟨g', 0, none⟩) (l.merged.length + 1) cap')).cell? a = some v := fun a v ha hv => by rw [World.cell?_setCell_other _ _ _ _ (fun e => ha e.symm)]; exact hv
    refine hK.out _ _ ⟨hkp _ _ (by simp) m14, hkp _ _ (by simp) mS, hkp _ _ (by simp) m0, hkp _ _ (by simp) m1, hkp _ _ (by simp) m2⟩ (fun hHeld => ?_)
    clear hK K m14 mS m0 m1 m2 c33 f33 hHeld hkp
    refine wpAnyH_done (by kernel_rfl) ?_ _
    generalize w3.setCell ⟨x, 16, none⟩ (.slice (some ⟨g', 0, none⟩) (l.merged.length + 1) cap') = w4 at *
    have q5 := HR3.out.box.g18
    have HS3 : Hid (b.c5 = .int .i64 (l.left : Int)) := HL.out.lf
    simp only [HS3.out] at q5
    have f5 := HR3.out.box.free 18
    have R5 := HR3.out.box.s18 (.int .i64 ((l.left : Int) + 1))
    have j16 := R5.g16
    have j14 := R5.g14
    simp only [HE.out] at j14
    have HOW : Hid (Only (lfoot x b) w w4) := (Only.of_below HB1.out).trans (HO.out)
    have HQW : Hid (∀ q, lfoot x { b with c3 := .slice (some ⟨g', 0, none⟩) (l.merged.length + 1) cap' } q → lfoot x b q ∨ w.heap.size ≤ q) := fun q hq => (HQ.out q hq).imp (fun h => h) (fun h => by omega)
    have HL5 : Hid (LexIn (w4.setCell ⟨x, 18, none⟩ (.int .i64 ((l.left : Int) + 1))) x { b with c3 := .slice (some ⟨g', 0, none⟩) (l.merged.length + 1) cap', c5 := .int .i64 ((l.left : Int) + 1) } { l with merged := l.merged ++ [r], left := l.left + 1 }) := LexIn.rebox HR3.out (Only.setCell _ _ rfl) R5 rfl rfl rfl rfl rfl rfl HL.out.wid HL.out.st (by simp) HL.out.rg
    have HMV : Hid (Lx.merge l = Lx.settle { l with merged := l.merged ++ [r], left := l.left + 1 } (Lx.fin l)) := by
      show Lx.merge l = _
      unfold Lx.merge Lx.moved
      rw [if_pos HT.out, HR.out]
      rfl
    have HO5 : Hid (Only (lfoot x b) w (w4.setCell ⟨x, 18, none⟩ (.int .i64 ((l.left : Int) + 1)))) := HOW.out.trans (Only.setCell _ _ (.inl rfl))
    clear HO HQ
    have hmlen : (l.merged ++ [r]).length = l.merged.length + 1 := by simp
    by_cases c1 : l.merged.length + 1 < Lx.fin l
    · have u1 : decide (((l.merged.length : Int) + 1) < (Lx.fin l : Int)) = true := by rw [decide_eq_true_eq]; omega
      have u2 : decide (l.merged.length + 1 < Lx.fin l) = true := by rw [decide_eq_true_eq]; omega
      go_wp2_with fail
      (try simp only [Exit.inBlock, Exit.then])
      refine bodyPost_ret (results_none rfl _ _ _) rfl ?_
      refine ⟨rfl, { b with c3 := .slice (some ⟨g', 0, none⟩) (l.merged.length + 1) cap', c5 := .int .i64 ((l.left : Int) + 1) }, ?_, rfl, HO5.out, fun q hq => HQW.out q hq⟩
      rw [HMV.out, Lx.settle, hmlen, if_pos c1]
      exact HL5.out
    · have u1 : decide (((l.merged.length : Int) + 1) < (Lx.fin l : Int)) = false := by rw [decide_eq_false_iff_not]; omega
      have u2 : decide (l.merged.length + 1 < Lx.fin l) = false := by rw [decide_eq_false_iff_not]; omega
      by_cases c2 : Lx.fin l < l.runs.length
      · have u3 : decide ((Lx.fin l : Int) < (l.runs.length : Int)) = true := by rw [decide_eq_true_eq]; omega
        have u4 : decide (Lx.fin l < l.runs.length) = true := by rw [decide_eq_true_eq]; omega
        have HP : Hid (Calls Try.prog 103 #[.pointer (some ⟨x, 13, none⟩), .int .i64 (Lx.fin l : Nat)] _ _) := pair_any x _ (some ⟨g, 0, none⟩) l.runs.length cap l.width (Lx.fin l) _ R5 HE.out HL.out.wid (by omega) (by omega)
        clear R5
        go_wp2_with fail
        refine HP.out.mono ?_
        rintro e w6 ⟨rfl, hb6, ho6⟩
        go_wp2
        go_end0
        refine ⟨rfl, { b with c3 := .slice (some ⟨g', 0, none⟩) (l.merged.length + 1) cap', c4 := .int .i64 (Lx.fin l : Nat), c5 := .int .i64 (Lx.fin l : Nat), c6 := .int .i64 (min (Lx.fin l + l.width) l.runs.length : Nat) }, ?_, rfl, HO5.out.trans (ho6.mono (fun q hq => .inl hq)), fun q hq => HQW.out q hq⟩
        rw [HMV.out, Lx.settle, hmlen, if_neg c1, if_pos c2]
        exact LexIn.rebox HL5.out ho6 hb6 rfl rfl rfl rfl rfl rfl HL.out.wid rfl rfl rfl
      · have u3 : decide ((Lx.fin l : Int) < (l.runs.length : Int)) = false := by rw [decide_eq_false_iff_not]; omega
        have u4 : decide (Lx.fin l < l.runs.length) = false := by rw [decide_eq_false_iff_not]; omega
        have HP : Hid (Calls Try.prog 105 #[.pointer (some ⟨x, 13, none⟩)] _ _) := double_any x _ (some ⟨g', 0, none⟩) (l.merged.length + 1) cap' l.width _ R5 rfl HL.out.wid (by omega)
        clear R5
        go_wp2_with fail
        refine HP.out.mono ?_
        rintro e w6 ⟨rfl, hb6, ho6⟩
        go_wp2
        go_end0
        refine ⟨rfl, { b with c1 := .slice (some ⟨g', 0, none⟩) (l.merged.length + 1) cap', c2 := .int .i64 (2 * l.width : Nat), c3 := .slice none 0 0, c4 := .int .i64 0, c5 := .int .i64 0, c6 := .int .i64 (min (2 * l.width) (l.merged.length + 1) : Nat) }, ?_, rfl, HO5.out.trans (ho6.mono (fun q hq => .inl hq)), fun q hq => HQW.out q ?_⟩
        · rw [HMV.out, Lx.settle, hmlen, if_neg c1, if_neg c2]
          exact LexIn.doubled HL5.out ho6 hb6 rfl rfl rfl rfl rfl rfl (by rw [hmlen])
        · rcases hq with hq | hq | hq | hq
          · exact .inl hq
          · exact .inr (.inl hq)
          · exact .inr (.inr (.inr hq))
          · cases hq
  · skip
    refine wpAnyH_ready (rs := [16]) (by kernel_rfl) (by simp) ?_
    refine AllReadyH.cons rfl (fun K hK => ?_) AllReadyH.nil
    refine step_lies_at 86 rfl (w1.heap.size + 1) rfl (.tmp 74) (.tmp 85) 60 rfl 0 159 i0 (.agg #[.int .i64 0, .int .i64 0, .string ⟨#[]⟩]) 3 32 Try.underlying60 hi hz0 hz1 hz2 rfl (by decide) b.c3 l.merged.length (RW l.merged) (by simp [Act.eval]) (World.ownsRow.alloc hmg1 _) ⟨w1.heap.size, 0, none⟩ 1 1 (RW1 r) (by simp [Act.eval]) rfl (World.news_of_block (cs := #[.int .i64 (r.id : Int), .int .i64 (r.at' : Int), .string r.rest]) (heap_alloc_new w1 _)) (by intro u hu2; simp [RW1] at hu2; rcases hu2 with rfl | rfl | rfl <;> rfl) (by decide) (by unfold maxLen; omega) (by omega) (Nat.zero_le _) (by simp) ?_
    intro g' cap' w3 hown3 hgrow0 hat3 hlt3
    have RM := HL1.out.merged_more hown3 hgrow0 hat3
    have HR3 : Hid (LexIn _ _ _ _) := RM.2.1
    have HO : Hid (Only _ _ _) := RM.2.2.1
    have HQ : Hid (∀ k, _ → _) := RM.2.2.2
    have c33 := RM.1.g16
    have f33 := RM.1.free 16
    have hnx : some x ≠ b.c3.ownBlock := fun e => HL1.out.mg.apart HL1.out.box e.symm
    have hng : some g ≠ b.c3.ownBlock := fun e => HL.out.a3 g (by rw [HE.out]; rfl) e.symm
    have hgx : g ≠ x := fun e => HL.out.runs.apart HL.out.box (by rw [HE.out, e]; rfl)
    have m14 : w3.cell? ⟨x, 14, none⟩ = some (.slice (some ⟨g, 0, none⟩) l.runs.length cap) := World.grownBy.cell hgrow0 (hS1 _).1 hnx
    have mS : w3.cell? ⟨x, 18, none⟩ = some (.int .i64 (l.left : Int)) := World.grownBy.cell hgrow0 (hS1 _).2.1 hnx
    have m0 : w3.cell? ⟨g, l.left * 3, none⟩ = some (.int .i64 (r.id : Int)) := World.grownBy.cell hgrow0 (hS1 _).2.2.1 hng
    have m1 : w3.cell? ⟨g, l.left * 3 + 1, none⟩ = some (.int .i64 (r.at' : Int)) := World.grownBy.cell hgrow0 (hS1 _).2.2.2.1 hng
    have m2 : w3.cell? ⟨g, l.left * 3 + 2, none⟩ = some (.string r.rest) := World.grownBy.cell hgrow0 (hS1 _).2.2.2.2 hng
    clear RM hown3 hgrow0 hHeld g12 hS1 hba k14 kS k0 k1 k2
    refine hK.out _ _ ⟨m14, mS, m0, m1, m2⟩ (fun hHeld => ?_)
    clear hK K
    refine wpAnyH_take (i := 17) (v := ?dqq17) rfl (by kernel_rfl) (by kernel_rfl) (by kernel_rfl) (fun _ _ _ h => h) (Or.inl ⟨by rfl, ?hydqq17⟩) (by assumption) ?restdqq17
    case hydqq17 => intro w hSw; (try dsimp only at hSw); go_simp; (try with_reducible rfl)
    simp only [Act.put]
    refine wpAnyH_take (i := 18) (v := ?dqq18) rfl (by kernel_rfl) (by kernel_rfl) (by kernel_rfl) (fun _ _ _ h => h) (Or.inl ⟨by rfl, ?hydqq18⟩) (by assumption) ?restdqq18
    case hydqq18 => intro w hSw; (try dsimp only at hSw); go_simp; (try with_reducible rfl)
    simp only [Act.put]
    refine wpAnyH_ready (rs := [19]) (by kernel_rfl) (by simp) ?_
    refine AllReadyH.cons rfl (fun K hK => ?_) AllReadyH.nil
    go_simp
    have hkp : ∀ a v, a ≠ (⟨x, 16, none⟩ : Addr) → w3.cell? a = some v → (w3.setCell ⟨x, 16, none⟩ (.slice (some ⟨g', 0, none⟩) (l.merged.length + 1) cap')).cell? a = some v := fun a v ha hv => by rw [World.cell?_setCell_other _ _ _ _ (fun e => ha e.symm)]; exact hv
    refine hK.out _ _ ⟨hkp _ _ (by simp) m14, hkp _ _ (by simp) mS, hkp _ _ (by simp) m0, hkp _ _ (by simp) m1, hkp _ _ (by simp) m2⟩ (fun hHeld => ?_)
    clear hK K m14 mS m0 m1 m2 c33 f33 hHeld hkp
    refine wpAnyH_done (by kernel_rfl) ?_ _
    generalize w3.setCell ⟨x, 16, none⟩ (.slice (some ⟨g', 0, none⟩) (l.merged.length + 1) cap') = w4 at *
    have q5 := HR3.out.box.g18
    have HS3 : Hid (b.c5 = .int .i64 (l.left : Int)) := HL.out.lf
    simp only [HS3.out] at q5
    have f5 := HR3.out.box.free 18
    have R5 := HR3.out.box.s18 (.int .i64 ((l.left : Int) + 1))
    have j16 := R5.g16
    have j14 := R5.g14
    simp only [HE.out] at j14
    have HOW : Hid (Only (lfoot x b) w w4) := (Only.of_below HB1.out).trans (HO.out)
    have HQW : Hid (∀ q, lfoot x { b with c3 := .slice (some ⟨g', 0, none⟩) (l.merged.length + 1) cap' } q → lfoot x b q ∨ w.heap.size ≤ q) := fun q hq => (HQ.out q hq).imp (fun h => h) (fun h => by omega)
    have HL5 : Hid (LexIn (w4.setCell ⟨x, 18, none⟩ (.int .i64 ((l.left : Int) + 1))) x { b with c3 := .slice (some ⟨g', 0, none⟩) (l.merged.length + 1) cap', c5 := .int .i64 ((l.left : Int) + 1) } { l with merged := l.merged ++ [r], left := l.left + 1 }) := LexIn.rebox HR3.out (Only.setCell _ _ rfl) R5 rfl rfl rfl rfl rfl rfl HL.out.wid HL.out.st (by simp) HL.out.rg
    have HMV : Hid (Lx.merge l = Lx.settle { l with merged := l.merged ++ [r], left := l.left + 1 } (Lx.fin l)) := by
      show Lx.merge l = _
      unfold Lx.merge Lx.moved
      rw [if_pos HT.out, HR.out]
      rfl
    have HO5 : Hid (Only (lfoot x b) w (w4.setCell ⟨x, 18, none⟩ (.int .i64 ((l.left : Int) + 1)))) := HOW.out.trans (Only.setCell _ _ (.inl rfl))
    clear HO HQ
    have hmlen : (l.merged ++ [r]).length = l.merged.length + 1 := by simp
    by_cases c1 : l.merged.length + 1 < Lx.fin l
    · have u1 : decide (((l.merged.length : Int) + 1) < (Lx.fin l : Int)) = true := by rw [decide_eq_true_eq]; omega
      have u2 : decide (l.merged.length + 1 < Lx.fin l) = true := by rw [decide_eq_true_eq]; omega
      go_wp2_with fail
      (try simp only [Exit.inBlock, Exit.then])
      refine bodyPost_ret (results_none rfl _ _ _) rfl ?_
      refine ⟨rfl, { b with c3 := .slice (some ⟨g', 0, none⟩) (l.merged.length + 1) cap', c5 := .int .i64 ((l.left : Int) + 1) }, ?_, rfl, HO5.out, fun q hq => HQW.out q hq⟩
      rw [HMV.out, Lx.settle, hmlen, if_pos c1]
      exact HL5.out
    · have u1 : decide (((l.merged.length : Int) + 1) < (Lx.fin l : Int)) = false := by rw [decide_eq_false_iff_not]; omega
      have u2 : decide (l.merged.length + 1 < Lx.fin l) = false := by rw [decide_eq_false_iff_not]; omega
      by_cases c2 : Lx.fin l < l.runs.length
      · have u3 : decide ((Lx.fin l : Int) < (l.runs.length : Int)) = true := by rw [decide_eq_true_eq]; omega
        have u4 : decide (Lx.fin l < l.runs.length) = true := by rw [decide_eq_true_eq]; omega
        have HP : Hid (Calls Try.prog 103 #[.pointer (some ⟨x, 13, none⟩), .int .i64 (Lx.fin l : Nat)] _ _) := pair_any x _ (some ⟨g, 0, none⟩) l.runs.length cap l.width (Lx.fin l) _ R5 HE.out HL.out.wid (by omega) (by omega)
        clear R5
        go_wp2_with fail
        refine HP.out.mono ?_
        rintro e w6 ⟨rfl, hb6, ho6⟩
        go_wp2
        go_end0
        refine ⟨rfl, { b with c3 := .slice (some ⟨g', 0, none⟩) (l.merged.length + 1) cap', c4 := .int .i64 (Lx.fin l : Nat), c5 := .int .i64 (Lx.fin l : Nat), c6 := .int .i64 (min (Lx.fin l + l.width) l.runs.length : Nat) }, ?_, rfl, HO5.out.trans (ho6.mono (fun q hq => .inl hq)), fun q hq => HQW.out q hq⟩
        rw [HMV.out, Lx.settle, hmlen, if_neg c1, if_pos c2]
        exact LexIn.rebox HL5.out ho6 hb6 rfl rfl rfl rfl rfl rfl HL.out.wid rfl rfl rfl
      · have u3 : decide ((Lx.fin l : Int) < (l.runs.length : Int)) = false := by rw [decide_eq_false_iff_not]; omega
        have u4 : decide (Lx.fin l < l.runs.length) = false := by rw [decide_eq_false_iff_not]; omega
        have HP : Hid (Calls Try.prog 105 #[.pointer (some ⟨x, 13, none⟩)] _ _) := double_any x _ (some ⟨g', 0, none⟩) (l.merged.length + 1) cap' l.width _ R5 rfl HL.out.wid (by omega)
        clear R5
        go_wp2_with fail
        refine HP.out.mono ?_
        rintro e w6 ⟨rfl, hb6, ho6⟩
        go_wp2
        go_end0
        refine ⟨rfl, { b with c1 := .slice (some ⟨g', 0, none⟩) (l.merged.length + 1) cap', c2 := .int .i64 (2 * l.width : Nat), c3 := .slice none 0 0, c4 := .int .i64 0, c5 := .int .i64 0, c6 := .int .i64 (min (2 * l.width) (l.merged.length + 1) : Nat) }, ?_, rfl, HO5.out.trans (ho6.mono (fun q hq => .inl hq)), fun q hq => HQW.out q ?_⟩
        · rw [HMV.out, Lx.settle, hmlen, if_neg c1, if_neg c2]
          exact LexIn.doubled HL5.out ho6 hb6 rfl rfl rfl rfl rfl rfl (by rw [hmlen])
        · rcases hq with hq | hq | hq | hq
          · exact .inl hq
          · exact .inr (.inl hq)
          · exact .inr (.inr (.inr hq))
          · cases hq

end Go.Proofs.Ythkndfkkgncjfab
