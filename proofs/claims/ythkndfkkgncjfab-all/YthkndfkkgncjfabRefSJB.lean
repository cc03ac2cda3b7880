/- RefA, DocB, RefB, RefC, RefD, RefE, RefF, MathE, DocC, WalkJ, WalkK. -/
import Derived.Test.YthkndfkkgncjfabRefSJA
import Derived.WalkKit
import Derived.WalkSpells
import Derived.WalkLawsBesides
import Derived.Deep.QuietTactic
import Derived.BigQuiet
import Derived.Deep.AppendLies
import Derived.Deep.RegionHeldLaw
namespace Go.Proofs.Ythkndfkkgncjfab
open Go.RowKit
set_option maxRecDepth 100000

theorem Try.info149 : (Try.prog.info? 149).map (fun i => (i.zero, i.size, i.bytes)) = some (some (.agg #[.bool false, .string ⟨#[]⟩, .int .i64 0]), 3, 32) := by kernel_rfl

/-- a change's cells -/
def CH1 (c : Do.Chg) : List Value := [.bool c.ins, .string c.doc, .int .i64 (c.id : Int)]
def CH (cs : List Do.Chg) : List Value := cs.flatMap CH1
theorem CH_len (cs : List Do.Chg) : (CH cs).length = cs.length * 3 := by
  induction cs with
  | nil => rfl
  | cons c r ih => rw [CH, List.flatMap_cons, List.length_append]; show 3 + (CH r).length = _; rw [ih, List.length_cons]; omega
theorem CH_append (a b : List Do.Chg) : CH (a ++ b) = CH a ++ CH b := by simp [CH]
theorem CH_get (cs : List Do.Chg) (k j : Nat) (c : Do.Chg) (hc : cs[k]? = some c) (hj : j < 3) : (CH cs)[k * 3 + j]? = (CH1 c)[j]? := by
  induction cs generalizing k with
  | nil => simp at hc
  | cons d r ih =>
    cases k with
    | zero =>
      simp at hc; subst hc
      show (CH1 d ++ CH r)[0 * 3 + j]? = _
      rw [Nat.zero_mul, Nat.zero_add, List.getElem?_append_left (by show j < 3; exact hj)]
    | succ k =>
      simp at hc
      show (CH1 d ++ CH r)[(k + 1) * 3 + j]? = _
      rw [List.getElem?_append_right (by show 3 ≤ _; omega), ← ih k hc]
      congr 1
      show (k + 1) * 3 + j - 3 = _; omega

/-- a row of changes -/
def OwnC (w : World) (B : Nat) (v : Value) (cs : List Do.Chg) : Prop := w.ownsRow B 149 3 v cs.length (CH cs)
theorem OwnC.below {w w' : World} {B : Nat} {v : Value} {cs : List Do.Chg} (h : OwnC w B v cs) (hb : Below w.heap.size w w') : OwnC w' B v cs := row_below h hb
theorem OwnC.cell {w : World} {B g cap n : Nat} {cs : List Do.Chg} (h : OwnC w B (.slice (some ⟨g, 0, none⟩) n cap) cs) (hn : cs.length = n) (k : Nat) (c : Do.Chg) (hc : cs[k]? = some c) :
    w.cell? ⟨g, k * 3, none⟩ = some (.bool c.ins) ∧ w.cell? ⟨g, k * 3 + 1, none⟩ = some (.string c.doc) ∧ w.cell? ⟨g, k * 3 + 2, none⟩ = some (.int .i64 (c.id : Int)) := by
  subst hn
  have hk : k < cs.length := by
    rcases Nat.lt_or_ge k cs.length with h | h
    · exact h
    · rw [List.getElem?_eq_none h] at hc; cases hc
  refine ⟨?_, ?_, ?_⟩
  · rw [World.ownsRow.cellAt h (k * 3) (by omega)]
    have := CH_get cs k 0 c hc (by omega)
    simpa [CH1] using this
  · rw [World.ownsRow.cellAt h (k * 3 + 1) (by omega)]
    have := CH_get cs k 1 c hc (by omega)
    simpa [CH1] using this
  · rw [World.ownsRow.cellAt h (k * 3 + 2) (by omega)]
    have := CH_get cs k 2 c hc (by omega)
    simpa [CH1] using this

/-- the document's index, whole: its configuration and its changes -/
def RefAt (w : World) (r : Nat) (a b p : Int) (v : Value) : Prop := w.heap[r]? = some (.cells #[.int .i64 a, .int .i64 b, .int .i64 p, v] 108 (0, 0))
theorem RefAt.lt {w : World} {r : Nat} {a b p : Int} {v : Value} (h : RefAt w r a b p v) : r < w.heap.size := lt_of_block h
theorem RefAt.below {w w' : World} {r : Nat} {a b p : Int} {v : Value} (h : RefAt w r a b p v) (hb : Below w.heap.size w w') : RefAt w' r a b p v := (hb.block r h.lt).trans h
theorem RefAt.c0 {w : World} {r : Nat} {a b p : Int} {v : Value} (h : RefAt w r a b p v) : w.cell? ⟨r, 0, none⟩ = some (.int .i64 a) := by rw [cell_of_row w r 0 _ 108 (0, 0) h]; rfl
theorem RefAt.c2 {w : World} {r : Nat} {a b p : Int} {v : Value} (h : RefAt w r a b p v) : w.cell? ⟨r, 2, none⟩ = some (.int .i64 p) := by rw [cell_of_row w r 2 _ 108 (0, 0) h]; rfl
theorem RefAt.c3 {w : World} {r : Nat} {a b p : Int} {v : Value} (h : RefAt w r a b p v) : w.cell? ⟨r, 3, none⟩ = some v := by rw [cell_of_row w r 3 _ 108 (0, 0) h]; rfl
theorem RefAt.free {w : World} {r : Nat} {a b p : Int} {v : Value} (h : RefAt w r a b p v) (j : Nat) : w.frozen? ⟨r, j, none⟩ = false := frozen_of_row w r j _ 108 h

theorem chg_step {w w1 w0 : World} {B : Nat} {v v' : Value} {m : List Do.Chg} {c : Do.Chg} {o : Obj} (hu : OwnC w B v m) (hbl : Below B w0 w) (hB : B ≤ w.heap.size)
    (h1 : w1.ownsRow B 149 3 v' (m.length + 1) (CH m ++ CH1 c)) (h2 : (w.alloc o).grownBy w1 v.ownBlock) : OwnC w1 B v' (m ++ [c]) ∧ Below B w0 w1 := by
  refine ⟨?_, (hbl.alloc hB o).grown h2 (by simp; omega) (fun k hk => (World.ownsRow.lt hu k hk).1)⟩
  unfold OwnC
  rw [CH_append, List.length_append]
  have : CH [c] = CH1 c := by simp [CH]
  rw [this]; exact h1

set_option maxHeartbeats 1000000 in
theorem there_some (r g n cap : Nat) (a b p : Int) (cs : List Do.Chg) (w : World) (hn : cs.length = n) (hl : n ≤ 2000000000000) (h : RefAt w r a b p (.slice (some ⟨g, 0, none⟩) n cap)) (hc : OwnC w 0 (.slice (some ⟨g, 0, none⟩) n cap) cs) :
    Calls Try.prog 84 #[.pointer (some ⟨r, 0, none⟩)] w fun e w' => ∃ v, e = .returned v ∧ OwnC w' w.heap.size v (Do.there cs) ∧ Below w.heap.size w w' := by
  obtain ⟨i0, hi, hz0, hz1, hz2⟩ := info_parts Try.info149
  have c3 := h.c3
  go_enter Try.func84, Try.ntmps84
  go_wp2
  clear c3
  go_loopw [3, 4] (fun v i wr => ∃ k : Nat, k ≤ n ∧ i = .int .i64 k ∧ OwnC wr w.heap.size v (Do.thereTo cs k) ∧ Below w.heap.size w wr) (fun _ i _ => n - (intOf i).toNat)
  case atStart => exact ⟨0, Nat.zero_le _, rfl, World.ownsRow_nil _ _ _ _, Below.refl _ _⟩
  case round =>
    obtain ⟨k, hk, rfl, hu, hb⟩ := hrel
    have h1 := h.below hb
    have hc1 := hc.below hb
    have c3 := h1.c3
    by_cases hlt : k < n
    · obtain ⟨c, hck⟩ : ∃ c, cs[k]? = some c := ⟨cs[k], List.getElem?_eq_getElem (by omega)⟩
      obtain ⟨x0, x1, x2⟩ := hc1.cell hn k c hck
      obtain ⟨wo, hwo⟩ : ∃ wo, wo = wr := ⟨_, rfl⟩
      subst hwo
      go_wp2
      have y0 := World.news_of_block (heap_alloc_new wo (.cells #[.bool c.ins, .string c.doc, .int .i64 (c.id : Int)] 149))
      have z2 : (wo.alloc (.cells #[.bool c.ins, .string c.doc, .int .i64 (c.id : Int)] 149)).cell? ⟨wo.heap.size, 2, none⟩ = some (.int .i64 (c.id : Int)) := y0 2 _ rfl
      have z0 : (wo.alloc (.cells #[.bool c.ins, .string c.doc, .int .i64 (c.id : Int)] 149)).cell? ⟨wo.heap.size, 0, none⟩ = some (.bool c.ins) := y0 0 _ rfl
      have z1 : (wo.alloc (.cells #[.bool c.ins, .string c.doc, .int .i64 (c.id : Int)] 149)).cell? ⟨wo.heap.size, 1, none⟩ = some (.string c.doc) := y0 1 _ rfl
      have hbo : Below wo.heap.size wo (wo.alloc (.cells #[.bool c.ins, .string c.doc, .int .i64 (c.id : Int)] 149)) := (Below.refl _ _).alloc (Nat.le_refl _) _
      clear y0 x0 x1 x2 c3
      generalize wo.alloc (.cells #[.bool c.ins, .string c.doc, .int .i64 (c.id : Int)] 149) = w1 at *
      have h2 := h1.below hbo
      have hc2 := hc1.below hbo
      have c3 := h2.c3
      have hbs := hb.size
      have hz := hbo.size
      go_loopw [6, 7] (fun q i wr => ∃ j : Nat, k + 1 ≤ j ∧ j ≤ n ∧ i = .int .i64 j ∧ q = .bool (Do.goneTo cs (!c.ins) k c.id j) ∧ ∃ m, wr = w1.drewN m) (fun _ i _ => n - (intOf i).toNat)
      case atStart => exact ⟨k + 1, by omega, by omega, by go_num, by rw [Do.goneTo_start], 0, rfl⟩
      case round =>
        obtain ⟨j, hj1, hj2, rfl, rfl, hw⟩ := hrel
        have HW : Hid (∃ m, wr = w1.drewN m) := hw
        clear hw
        have hsame : ∀ x, wr.cell? x = w1.cell? x := fun x => by obtain ⟨m, hm⟩ := HW.out; rw [hm]; rfl
        have c3' : wr.cell? ⟨r, 3, none⟩ = some (.slice (some ⟨g, 0, none⟩) n cap) := by rw [hsame]; exact c3
        have z2' : wr.cell? ⟨wo.heap.size, 2, none⟩ = some (.int .i64 (c.id : Int)) := by rw [hsame]; exact z2
        have z0' : wr.cell? ⟨wo.heap.size, 0, none⟩ = some (.bool c.ins) := by rw [hsame]; exact z0
        have z1' : wr.cell? ⟨wo.heap.size, 1, none⟩ = some (.string c.doc) := by rw [hsame]; exact z1
        by_cases hjn : j < n
        · obtain ⟨d, hdj⟩ : ∃ d, cs[j]? = some d := ⟨cs[j], List.getElem?_eq_getElem (by omega)⟩
          obtain ⟨u0, u1, u2⟩ := hc2.cell hn j d hdj
          have u0' : wr.cell? ⟨g, j * 3, none⟩ = some (.bool d.ins) := by rw [hsame]; exact u0
          have u2' : wr.cell? ⟨g, j * 3 + 2, none⟩ = some (.int .i64 (d.id : Int)) := by rw [hsame]; exact u2
          have HG : Hid (Do.goneTo cs (!c.ins) k c.id (j + 1) = (Do.goneTo cs (!c.ins) k c.id j || (!d.ins && d.id == c.id))) := Do.goneTo_step cs _ k c.id j d hj1 hdj
          clear hsame u0 u1 u2 z0' z1' c3 z0 z1 z2
          obtain ⟨q, hq⟩ : ∃ q, Do.goneTo cs (!c.ins) k c.id j = q := ⟨_, rfl⟩
          obtain ⟨e, he⟩ : ∃ e, d.ins = e := ⟨_, rfl⟩
          rw [hq]
          have HQ : Hid (Do.goneTo cs (!c.ins) k c.id j = q) := hq
          have HE : Hid (d.ins = e) := he
          rw [he] at u0'
          clear hq he
          cases q
          · cases e
            · by_cases hid : d.id = c.id
              · have hid1 : ((d.id : Int) == (c.id : Int)) = true := by rw [beq_iff_eq]; omega
                have HI : Hid (d.id = c.id) := hid
                clear hid
                go_wp2
                go_quiet (fail)
                go_wp2
                go_roundw
                case rel => exact ⟨j + 1, by omega, by omega, by go_num, by rw [HG.out, HQ.out, HE.out]; simp [HI.out], by obtain ⟨m, hm⟩ := HW.out; exact ⟨m + nq, by rw [hm, World.drewN_drewN]⟩⟩
                case measure => simp [intOf]; omega
              · have hid1 : ((d.id : Int) == (c.id : Int)) = false := by rw [beq_eq_false_iff_ne]; omega
                have HI : Hid (¬ d.id = c.id) := hid
                clear hid
                go_wp2
                go_quiet (fail)
                go_wp2
                go_roundw
                case rel => exact ⟨j + 1, by omega, by omega, by go_num, by rw [HG.out, HQ.out, HE.out]; simp [HI.out], by obtain ⟨m, hm⟩ := HW.out; exact ⟨m + nq, by rw [hm, World.drewN_drewN]⟩⟩
                case measure => simp [intOf]; omega
            · go_wp2
              go_quiet (fail)
              go_wp2
              go_roundw
              case rel => exact ⟨j + 1, by omega, by omega, by go_num, by rw [HG.out, HQ.out, HE.out]; simp, by obtain ⟨m, hm⟩ := HW.out; exact ⟨m + nq, by rw [hm, World.drewN_drewN]⟩⟩
              case measure => simp [intOf]; omega
          · go_wp2
            go_quiet (fail)
            go_wp2
            go_roundw
            case rel => exact ⟨j + 1, by omega, by omega, by go_num, by rw [HG.out, HQ.out, HE.out]; simp, by obtain ⟨m, hm⟩ := HW.out; exact ⟨m + nq, by rw [hm, World.drewN_drewN]⟩⟩
            case measure => simp [intOf]; omega
        · have hje : j = n := by omega
          subst hje
          have HG : Hid (Do.goneTo cs (!c.ins) k c.id j = !Do.keep cs k) := by
            show Do.goneTo cs (!c.ins) k c.id j = !Do.keep cs k
            rw [Do.goneTo_end cs _ k c.id j (by omega), Do.keep_eq cs k c hck, Bool.not_not]
          have hbw : Below w1.heap.size w1 wr := by obtain ⟨m, hm⟩ := HW.out; rw [hm]; exact below_drewN (Below.refl _ _) _
          have huw : OwnC wr w.heap.size u3 (Do.thereTo cs k) := (hu.below hbo).below hbw
          have hbb : Below w.heap.size w wr := (hb.trans (hbo.mono (by omega))).trans (hbw.mono (by omega))
          have hlen := Do.thereTo_len cs k
          clear hsame c3 z0 z1 z2 hbw hbo hu hb
          rw [HG.out]
          obtain ⟨q, hq⟩ : ∃ q, Do.keep cs k = q := ⟨_, rfl⟩
          have HK : Hid (Do.keep cs k = q) := hq
          rw [hq]
          clear hq
          have hdn : decide ((j : Int) < (j : Int)) = false := by simp
          cases q
          · go_wp2
            go_roundw
            case rel => exact ⟨k + 1, by omega, by go_num, by rw [Do.thereTo_miss cs k HK.out]; exact huw, hbb⟩
            case measure => simp [intOf]; omega
          · go_wp2_with (at_builtin; refine wpList_append_own _ rfl _ _ 106 rfl w.heap.size 149 i0 (.agg #[.bool false, .string ⟨#[]⟩, .int .i64 0]) 3 32 Try.underlying106 hi hz0 hz1 hz2 rfl (by decide) _ _ _ rfl (World.ownsRow.alloc huw _) ⟨wr.heap.size, 0, none⟩ 1 1 (CH1 c) rfl rfl (World.news_of_block (cs := #[.bool c.ins, .string c.doc, .int .i64 (c.id : Int)]) (heap_alloc_new wr _)) (by intro u hu2; simp [CH1] at hu2; rcases hu2 with rfl | rfl | rfl <;> rfl) (by unfold maxLen; omega) (by omega) (by have := hbb.size; simp; omega) ?_; intro v' w3 hown3 hgrow3 _)
            have R := chg_step huw hbb hbb.size hown3 hgrow3
            clear hown3 hgrow3 huw hbb
            go_wp2
            go_roundw
            case rel => exact ⟨k + 1, by omega, by go_num, by rw [Do.thereTo_hit cs k c hck HK.out]; exact R.1, R.2⟩
            case measure => simp [intOf]; omega
    · have hke : k = n := by omega
      subst hke
      go_wp2
      go_ret
      exact ⟨_, rfl, by rw [← hn] at hu; exact hu, hb⟩

end Go.Proofs.Ythkndfkkgncjfab

namespace Go.Proofs.Ythkndfkkgncjfab.Do

def sizeTo (cs : List Chg) : Nat → Nat
  | 0 => 0
  | k + 1 => sizeTo cs k + (match cs[k]? with | none => 0 | some c => c.doc.size)
def size (cs : List Chg) : Nat := sizeTo cs cs.length
theorem sizeTo_le (cs : List Chg) (h : ∀ c ∈ cs, c.doc.size ≤ 40) : ∀ k, sizeTo cs k ≤ 40 * k
  | 0 => Nat.le_refl _
  | k + 1 => by
      have ih := sizeTo_le cs h k
      rw [sizeTo]
      cases hc : cs[k]? with
      | none => simp; omega
      | some c => have := h c (List.mem_of_getElem? hc); simp; omega
theorem sizeTo_succ (cs : List Chg) (k : Nat) (c : Chg) (h : cs[k]? = some c) : sizeTo cs (k + 1) = sizeTo cs k + c.doc.size := by rw [sizeTo, h]

/-- where an id stands, the first k having been looked at -/
def at? (cs : List Chg) (id : Int) : Option Nat := cs.findIdx? fun c => (c.id : Int) == id
theorem at_none (cs : List Chg) (id : Int) (h : ∀ (j : Nat) (c : Chg), cs[j]? = some c → ((c.id : Int) == id) = false) : at? cs id = none := by
  unfold at?
  rw [List.findIdx?_eq_none_iff]
  intro c hc
  obtain ⟨j, hj⟩ := List.mem_iff_getElem?.1 hc
  exact h j c hj
theorem at_some (cs : List Chg) (id : Int) (k : Nat) (c : Chg) (hk : cs[k]? = some c) (hc : ((c.id : Int) == id) = true) (h : ∀ (j : Nat) (d : Chg), j < k → cs[j]? = some d → ((d.id : Int) == id) = false) : at? cs id = some k := by
  unfold at?
  have hlt : k < cs.length := by
    rcases Nat.lt_or_ge k cs.length with h | h
    · exact h
    · rw [List.getElem?_eq_none h] at hk; cases hk
  rw [List.findIdx?_eq_some_iff_getElem]
  refine ⟨hlt, ?_, fun j hj => ?_⟩
  · rw [List.getElem?_eq_getElem hlt] at hk
    simp only [Option.some.injEq] at hk
    rw [hk]; exact hc
  · have := h j cs[j] hj (List.getElem?_eq_getElem (by omega))
    simp [this]

/-- the ids above 'after', at most m of them, the first k changes having been looked at -/
def idsTo (cs : List Chg) (after : Int) (m : Nat) : Nat → List Nat
  | 0 => []
  | k + 1 => match cs[k]? with
    | none => idsTo cs after m k
    | some c => if after < (c.id : Int) ∧ (idsTo cs after m k).length < m then idsTo cs after m k ++ [c.id] else idsTo cs after m k
def ids (cs : List Chg) (after : Int) (m : Nat) : List Nat := idsTo cs after m cs.length
theorem idsTo_hit (cs : List Chg) (after : Int) (m k : Nat) (c : Chg) (hc : cs[k]? = some c) (h1 : after < (c.id : Int)) (h2 : (idsTo cs after m k).length < m) : idsTo cs after m (k + 1) = idsTo cs after m k ++ [c.id] := by
  rw [idsTo, hc]; simp only; rw [if_pos ⟨h1, h2⟩]
theorem idsTo_miss (cs : List Chg) (after : Int) (m k : Nat) (c : Chg) (hc : cs[k]? = some c) (h : ¬ (after < (c.id : Int) ∧ (idsTo cs after m k).length < m)) : idsTo cs after m (k + 1) = idsTo cs after m k := by
  rw [idsTo, hc]; simp only; rw [if_neg h]
theorem idsTo_len (cs : List Chg) (after : Int) (m : Nat) : ∀ k, (idsTo cs after m k).length ≤ m
  | 0 => Nat.zero_le _
  | k + 1 => by
      have ih := idsTo_len cs after m k
      rw [idsTo]
      cases cs[k]? with
      | none => exact ih
      | some c =>
        simp only
        split
        · rename_i h; rw [List.length_append]; have := h.2; simp; omega
        · exact ih

end Go.Proofs.Ythkndfkkgncjfab.Do

namespace Go.Proofs.Ythkndfkkgncjfab
open Go.RowKit
set_option maxRecDepth 100000

/-- the two shapes of a row of changes -/
theorem OwnC.shape {w : World} {B : Nat} {v : Value} {cs : List Do.Chg} (h : OwnC w B v cs) : (v = .slice none 0 0 ∧ cs = []) ∨ (∃ g cap, v = .slice (some ⟨g, 0, none⟩) cs.length cap ∧ B ≤ g ∧ g < w.heap.size) := by
  rcases h.2 with ⟨e, hn⟩ | ⟨g, cap, cur, e, hB, hg, _⟩
  · left
    refine ⟨e, ?_⟩
    cases cs with
    | nil => rfl
    | cons c r => simp at hn
  · right
    exact ⟨g, cap, e, hB, lt_of_block hg⟩
theorem OwnC.weaken {w : World} {B C : Nat} {v : Value} {cs : List Do.Chg} (h : OwnC w B v cs) (hc : C ≤ B) : OwnC w C v cs := by
  refine ⟨h.1, ?_⟩
  rcases h.2 with hn | ⟨g1, cap, cur, e, hB, rest⟩
  · exact .inl hn
  · exact .inr ⟨g1, cap, cur, e, Nat.le_trans hc hB, rest⟩

set_option maxHeartbeats 400000 in
theorem there_nil (r : Nat) (a b p : Int) (w : World) (h : RefAt w r a b p (.slice none 0 0)) :
    Calls Try.prog 84 #[.pointer (some ⟨r, 0, none⟩)] w fun e w' => e = .returned (.slice none 0 0) ∧ w' = w := by
  have c3 := h.c3
  go_enter Try.func84, Try.ntmps84
  go_wp2
  refine wp_loop_rounds 1 ?_
  rw [rounds_succ]
  go_wp2
  go_ret
  exact ⟨rfl, rfl⟩

/-- an index at block r holds the changes cs -/
def IdxAt (w : World) (r : Nat) (a b p : Int) (cs : List Do.Chg) : Prop := ∃ v, RefAt w r a b p v ∧ OwnC w 0 v cs

theorem there_any (r : Nat) (a b p : Int) (cs : List Do.Chg) (w : World) (hl : cs.length ≤ 2000000000000) (h : IdxAt w r a b p cs) :
    Calls Try.prog 84 #[.pointer (some ⟨r, 0, none⟩)] w fun e w' => ∃ v, e = .returned v ∧ OwnC w' w.heap.size v (Do.there cs) ∧ Below w.heap.size w w' := by
  obtain ⟨v, h1, h2⟩ := h
  rcases h2.shape with ⟨rfl, rfl⟩ | ⟨g, cap, rfl, _, _⟩
  · refine (there_nil r a b p w h1).mono ?_
    rintro e w' ⟨rfl, rfl⟩
    exact ⟨_, rfl, World.ownsRow_nil _ _ _ _, Below.refl _ _⟩
  · exact there_some r g cs.length cap a b p cs w rfl hl h1 h2

set_option maxHeartbeats 400000 in
theorem bytes_any (B : Nat) (v : Value) (cs : List Do.Chg) (w : World) (hl : cs.length ≤ 2000000000000) (hd : ∀ c ∈ cs, c.doc.size ≤ 40) (h : OwnC w B v cs) :
    Calls Try.prog 85 #[v] w fun e w' => e = .returned (.int .i64 (Do.size cs : Nat)) ∧ w' = w := by
  rcases h.shape with ⟨rfl, rfl⟩ | ⟨g, cap, rfl, _, _⟩
  · go_enter Try.func85, Try.ntmps85
    go_wp2
    refine wp_loop_rounds 1 ?_
    rw [rounds_succ]
    go_wp2
    go_ret
    exact ⟨rfl, rfl⟩
  · obtain ⟨n, hn⟩ : ∃ n, cs.length = n := ⟨_, rfl⟩
    have HZ : Hid (Do.size cs = Do.sizeTo cs n) := by show Do.size cs = Do.sizeTo cs n; rw [← hn]; rfl
    rw [hn] at h hl
    rw [hn]
    go_enter Try.func85, Try.ntmps85
    go_wp2
    go_loop [3, 4] (fun s i => ∃ k : Nat, k ≤ n ∧ i = .int .i64 k ∧ s = .int .i64 (Do.sizeTo cs k : Nat)) (fun _ i => n - (intOf i).toNat)
    case atStart => exact ⟨0, Nat.zero_le _, rfl, rfl⟩
    case round =>
      obtain ⟨k, hk, rfl, rfl⟩ := hrel
      have hle := Do.sizeTo_le cs hd k
      by_cases hlt : k < n
      · obtain ⟨c, hck⟩ : ∃ c, cs[k]? = some c := ⟨cs[k], List.getElem?_eq_getElem (by omega)⟩
        obtain ⟨_, x1, _⟩ := h.cell hn k c hck
        have hc40 := hd c (List.mem_of_getElem? hck)
        have HS : Hid (Do.sizeTo cs (k + 1) = Do.sizeTo cs k + c.doc.size) := Do.sizeTo_succ cs k c hck
        clear hck hn
        go_wp2
        go_round
        case rel => exact ⟨k + 1, by omega, by go_num, by rw [HS.out]; go_num⟩
        case measure => simp [intOf]; omega
      · have hke : k = n := by omega
        subst hke
        clear hn
        go_wp2
        go_ret
        exact ⟨ret_int (by rw [HZ.out]), rfl⟩

/-- an answer of find -/
def atVal (o : Option Nat) : Int := match o with
  | none => -1
  | some k => k

set_option maxHeartbeats 400000 in
theorem find_any (B : Nat) (v : Value) (cs : List Do.Chg) (id : Int) (w : World) (hl : cs.length ≤ 2000000000000) (h : OwnC w B v cs) :
    Calls Try.prog 86 #[v, .int .i64 id] w fun e w' => e = .returned (.int .i64 (atVal (Do.at? cs id))) ∧ w' = w := by
  rcases h.shape with ⟨rfl, rfl⟩ | ⟨g, cap, rfl, _, _⟩
  · go_enter Try.func86, Try.ntmps86
    go_wp2
    refine wp_loop_rounds 1 ?_
    rw [rounds_succ]
    go_wp2
    go_ret
    exact ⟨rfl, rfl⟩
  · obtain ⟨n, hn⟩ : ∃ n, cs.length = n := ⟨_, rfl⟩
    have HL : Hid (cs.length = n) := hn
    rw [hn] at h hl
    rw [hn]
    clear hn
    go_enter Try.func86, Try.ntmps86
    go_wp2
    go_loop [5] (fun i => ∃ k : Nat, k ≤ n ∧ i = .int .i64 k ∧ ∀ (j : Nat) (d : Do.Chg), j < k → cs[j]? = some d → ((d.id : Int) == id) = false) (fun i => n - (intOf i).toNat)
    case atStart => exact ⟨0, Nat.zero_le _, rfl, fun j d hj => by omega⟩
    case round =>
      obtain ⟨k, hk, rfl, hno⟩ := hrel
      have HN : Hid (∀ (j : Nat) (d : Do.Chg), j < k → cs[j]? = some d → ((d.id : Int) == id) = false) := hno
      clear hno
      by_cases hlt : k < n
      · obtain ⟨c, hck⟩ : ∃ c, cs[k]? = some c := ⟨cs[k]'(by rw [HL.out]; omega), List.getElem?_eq_getElem (by rw [HL.out]; omega)⟩
        obtain ⟨_, _, x2⟩ := h.cell HL.out k c hck
        have HC : Hid (cs[k]? = some c) := hck
        clear hck
        by_cases hid : ((c.id : Int) == id) = true
        · have HF : Hid (Do.at? cs id = some k) := Do.at_some cs id k c HC.out hid HN.out
          go_wp2
          go_ret
          exact ⟨ret_int (by rw [HF.out]; rfl), rfl⟩
        · have hid1 : ((c.id : Int) == id) = false := by simpa using hid
          clear hid
          go_wp2
          go_round
          case rel =>
            refine ⟨k + 1, by omega, by go_num, fun j d hj hd => ?_⟩
            by_cases ej : j = k
            · subst ej
              have := HC.out
              rw [this] at hd
              simp only [Option.some.injEq] at hd
              rw [← hd]; exact hid1
            · exact HN.out j d (by omega) hd
          case measure => simp [intOf]; omega
      · have hke : k = n := by omega
        subst hke
        have HF : Hid (Do.at? cs id = none) := Do.at_none cs id (fun j d hd => HN.out j d (by
          rcases Nat.lt_or_ge j cs.length with h2 | h2
          · have := HL.out; omega
          · rw [List.getElem?_eq_none h2] at hd; cases hd) hd)
        go_wp2
        go_ret
        exact ⟨ret_int (by rw [HF.out]; rfl), rfl⟩

set_option maxHeartbeats 400000 in
theorem rVersion_any (r : Nat) (a b p : Int) (cs : List Do.Chg) (w : World) (h : IdxAt w r a b p cs) :
    Calls Try.prog 57 #[.pointer (some ⟨r, 0, none⟩)] w fun e w' => e = .returned (.int .i64 (cs.length : Int)) ∧ w' = w := by
  obtain ⟨v, h1, h2⟩ := h
  rcases h2.shape with ⟨rfl, rfl⟩ | ⟨g, cap, rfl, _, _⟩
  · have c3 := h1.c3
    go_enter Try.func57, Try.ntmps57
    go_wp2
    go_ret
    exact ⟨rfl, rfl⟩
  · have c3 := h1.c3
    go_enter Try.func57, Try.ntmps57
    go_wp2
    go_ret
    exact ⟨rfl, rfl⟩

end Go.Proofs.Ythkndfkkgncjfab

namespace Go.Proofs.Ythkndfkkgncjfab
open Go.RowKit
set_option maxRecDepth 100000

/-- nothing has turned but what is in F, and what is new -/
structure Only (F : Nat → Prop) (w w' : World) : Prop where
  os : w'.os = w.os
  tape : w'.tape = w.tape
  output : w'.output = w.output
  size : w.heap.size ≤ w'.heap.size
  block : ∀ k, k < w.heap.size → ¬ F k → w'.heap[k]? = w.heap[k]?
theorem Only.refl (F : Nat → Prop) (w : World) : Only F w w := ⟨rfl, rfl, rfl, Nat.le_refl _, fun _ _ _ => rfl⟩
theorem Only.trans {F : Nat → Prop} {a b c : World} (h : Only F a b) (k : Only F b c) : Only F a c :=
  ⟨k.os.trans h.os, k.tape.trans h.tape, k.output.trans h.output, Nat.le_trans h.size k.size, fun i hi hf => (k.block i (by have := h.size; omega) hf).trans (h.block i hi hf)⟩
theorem Only.of_below {F : Nat → Prop} {w w' : World} (h : Below w.heap.size w w') : Only F w w' := ⟨h.os, h.tape, h.output, h.size, fun k hk _ => h.block k hk⟩
theorem Only.grown {F : Nat → Prop} {w w1 : World} {row : Option Nat} (h : w.grownBy w1 row) (hr : ∀ k, row = some k → F k) : Only F w w1 := by
  refine ⟨h.os, h.tape, h.output, h.size, fun k hk hf => h.block k hk (fun e => hf (hr k e.symm))⟩
theorem Only.setCell {F : Nat → Prop} {w : World} (p : Addr) (u : Value) (h : F p.block) : Only F w (w.setCell p u) :=
  ⟨rfl, rfl, rfl, by simp, fun k _ hf => Below.heap_setCell w p u k (fun e => hf (by rw [e]; exact h))⟩
theorem Only.mono {F G : Nat → Prop} {w w' : World} (h : Only F w w') (hfg : ∀ k, F k → G k) : Only G w w' := ⟨h.os, h.tape, h.output, h.size, fun k hk hg => h.block k hk (fun hf => hg (hfg k hf))⟩

/-- the blocks of an index -/
def foot (r : Nat) (v : Value) (k : Nat) : Prop := k = r ∨ v.ownBlock = some k

theorem RefAt.set3 {w : World} {r : Nat} {a b p : Int} {v : Value} (h : RefAt w r a b p v) (u : Value) : RefAt (w.setCell ⟨r, 3, none⟩ u) r a b p u := (heap_setCell_same w r 3 _ 108 _ h).trans rfl
theorem RefAt.kept {w w' : World} {r : Nat} {a b p : Int} {v : Value} {row : Option Nat} (h : RefAt w r a b p v) (hg : w.grownBy w' row) (hne : row ≠ some r) : RefAt w' r a b p v := (hg.block r h.lt (fun e => hne e.symm)).trans h
theorem OwnC.apart {w : World} {B r : Nat} {a b p : Int} {u v : Value} {cs : List Do.Chg} (h : RefAt w r a b p u) (k : OwnC w B v cs) : v.ownBlock ≠ some r := by
  intro e
  rcases k.2 with ⟨h2, _⟩ | ⟨g2, cap2, cur2, h2, _, hg2, _⟩
  · rw [h2] at e; simp [Value.ownBlock] at e
  · rw [h2] at e
    simp [Value.ownBlock] at e
    rw [e, h] at hg2
    simp at hg2

/-- one change more is laid -/
theorem put_change {w w1 : World} {r g cap : Nat} {a b p : Int} {v : Value} {cs : List Do.Chg} {c : Do.Chg} {o : Obj} (h : RefAt w r a b p v) (hc : OwnC w 0 v cs)
    (h1 : w1.ownsRow 0 149 3 (.slice (some ⟨g, 0, none⟩) (cs.length + 1) cap) (cs.length + 1) (CH cs ++ CH1 c)) (h2 : (w.alloc o).grownBy w1 v.ownBlock) (h3 : v.ownBlock = some g ∨ g = w.heap.size + 1) :
    RefAt (w1.setCell ⟨r, 3, none⟩ (.slice (some ⟨g, 0, none⟩) (cs.length + 1) cap)) r a b p (.slice (some ⟨g, 0, none⟩) (cs.length + 1) cap) ∧
    OwnC (w1.setCell ⟨r, 3, none⟩ (.slice (some ⟨g, 0, none⟩) (cs.length + 1) cap)) 0 (.slice (some ⟨g, 0, none⟩) (cs.length + 1) cap) (cs ++ [c]) ∧
    Only (foot r v) w (w1.setCell ⟨r, 3, none⟩ (.slice (some ⟨g, 0, none⟩) (cs.length + 1) cap)) ∧
    (∀ k, foot r (.slice (some ⟨g, 0, none⟩) (cs.length + 1) cap) k → foot r v k ∨ w.heap.size ≤ k) := by
  have ha : RefAt (w.alloc o) r a b p v := h.below ((Below.refl _ _).alloc (Nat.le_refl _) o)
  have hap := hc.apart h
  have hb := ha.kept h2 hap
  have hown : OwnC w1 0 (.slice (some ⟨g, 0, none⟩) (cs.length + 1) cap) (cs ++ [c]) := by
    unfold OwnC
    rw [CH_append, List.length_append]
    have : CH [c] = CH1 c := by simp [CH]
    rw [this]; exact h1
  have hgr : g ≠ r := fun e => by
    have := hown.apart hb
    rw [e] at this
    exact this rfl
  refine ⟨hb.set3 _, ownsRow_setCell_other hown (by show some g ≠ some r; simpa using hgr) _, ?_, fun k hk => ?_⟩
  · refine ((Only.of_below ((Below.refl _ _).alloc (Nat.le_refl _) o)).trans (Only.grown h2 (fun k hk => .inr hk))).trans (Only.setCell _ _ (.inl rfl))
  · rcases hk with rfl | hk
    · exact .inl (.inl rfl)
    · simp [Value.ownBlock] at hk
      subst hk
      rcases h3 with h3 | h3
      · exact .inl (.inr h3)
      · right; omega

def insTo (cs : List Do.Chg) : Nat → Nat
  | 0 => 0
  | k + 1 => insTo cs k + (match cs[k]? with | none => 0 | some c => if c.ins then 1 else 0)
theorem insTo_le (cs : List Do.Chg) : ∀ k, insTo cs k ≤ k
  | 0 => Nat.le_refl _
  | k + 1 => by
      have := insTo_le cs k
      rw [insTo]
      cases cs[k]? with
      | none => simp; omega
      | some c => simp only; split <;> omega
theorem insTo_succ (cs : List Do.Chg) (k : Nat) (c : Do.Chg) (h : cs[k]? = some c) : insTo cs (k + 1) = insTo cs k + (if c.ins then 1 else 0) := by rw [insTo, h]

set_option maxHeartbeats 400000 in
theorem rInsert_long (r : Nat) (a b p : Int) (v : Value) (cs : List Do.Chg) (s : ByteArray) (w : World) (hl : cs.length ≤ 2000000000000) (h1 : RefAt w r a b p v) (h2 : OwnC w 0 v cs) (hs : 40 < s.size) :
    Calls Try.prog 55 #[.pointer (some ⟨r, 0, none⟩), .string s] w fun e w' => e = .returned (.tuple #[.int .i64 0, .int .i64 2]) ∧ Below w.heap.size w w' := by
  go_enter Try.func55, Try.ntmps55
  go_wp2_with (go_at_call 84; refine (there_any r a b p cs _ hl ⟨v, h1, h2⟩).mono ?_; rintro e w1 ⟨u, rfl, hu, hb1⟩)
  go_ret2
  exact ⟨rfl, hb1⟩

theorem there_mem (cs : List Do.Chg) : ∀ k, ∀ c ∈ Do.thereTo cs k, c ∈ cs
  | 0, c, h => by simp [Do.thereTo] at h
  | k + 1, c, h => by
      rw [Do.thereTo, List.mem_append] at h
      rcases h with h | h
      · exact there_mem cs k c h
      · split at h
        · cases hc : cs[k]? with
          | none => rw [hc] at h; simp at h
          | some d => rw [hc] at h; simp at h; subst h; exact List.mem_of_getElem? hc
        · simp at h

theorem OwnC.shape2 {w : World} {B : Nat} {v : Value} {cs : List Do.Chg} (h : OwnC w B v cs) : ∃ ao cap, v = .slice ao cs.length cap := by
  rcases h.shape with ⟨rfl, rfl⟩ | ⟨g, cap, rfl, _, _⟩
  · exact ⟨none, 0, rfl⟩
  · exact ⟨_, cap, rfl⟩
theorem bytes_at (B : Nat) (v : Value) (cs : List Do.Chg) (z : Nat) (w : World) (hz : Do.size cs = z) (hl : cs.length ≤ 2000000000000) (hd : ∀ c ∈ cs, c.doc.size ≤ 40) (h : OwnC w B v cs) :
    Calls Try.prog 85 #[v] w fun e w' => e = .returned (.int .i64 (z : Int)) ∧ w' = w := by
  rw [← hz]; exact bytes_any B v cs w hl hd h

set_option maxHeartbeats 1000000 in
theorem rInsert_full (r : Nat) (a b p : Int) (v : Value) (cs : List Do.Chg) (s : ByteArray) (w : World) (hl : cs.length ≤ 2000000000000) (hd : ∀ c ∈ cs, c.doc.size ≤ 40) (ha : 1 ≤ a ∧ a ≤ 400) (h1 : RefAt w r a b p v) (h2 : OwnC w 0 v cs) (hs : s.size ≤ 40)
    (hf : a < (Do.size (Do.there cs) : Int) + s.size ∨ 60 ≤ (Do.there cs).length) :
    Calls Try.prog 55 #[.pointer (some ⟨r, 0, none⟩), .string s] w fun e w' => e = .returned (.tuple #[.int .i64 0, .int .i64 3]) ∧ Below w.heap.size w w' := by
  have hlen := Do.thereTo_len cs cs.length
  have hsz := Do.sizeTo_le (Do.there cs) (fun c hc => hd c (there_mem cs _ c hc)) (Do.there cs).length
  obtain ⟨L, hL⟩ : ∃ L, Do.there cs = L := ⟨_, rfl⟩
  have HTH : Hid (Do.there cs = L) := hL
  have hsz2 : Do.size L ≤ 40 * L.length := by rw [← hL]; exact hsz
  have hlen2 : L.length ≤ cs.length := by rw [← hL]; exact hlen
  have hdL : Hid (∀ c ∈ L, c.doc.size ≤ 40) := fun c hc => hd c (there_mem cs _ c (by rw [← hL] at hc; exact hc))
  rw [hL] at hf
  clear hL hsz hlen hd
  obtain ⟨z, hz⟩ : ∃ z, Do.size L = z := ⟨_, rfl⟩
  have HZ : Hid (Do.size L = z) := hz
  rw [hz] at hf hsz2
  clear hz
  have hs40 : decide ((40 : Int) < (s.size : Int)) = false := by rw [decide_eq_false_iff_not]; omega
  obtain ⟨ha1, ha2⟩ := ha
  go_enter Try.func55, Try.ntmps55
  go_wp2_with fail
  refine (there_any r a b p cs _ hl ⟨v, h1, h2⟩).mono ?_
  rintro e w1 ⟨u, rfl, hu, hb1⟩
  rw [HTH.out] at hu
  clear HTH
  have hr1 := h1.below hb1
  have ho1 := h2.below hb1
  have c0 := hr1.c0
  obtain ⟨ao, cap, rfl⟩ := hu.shape2
  go_wp2_with fail
  by_cases h3 : a < (z : Int) + s.size
  · go_quiet ((go_at_call 85; exact Calls.quiet_of_same (bytes_at _ _ L z _ HZ.out (by omega) hdL.out (by exact hu))))
    go_wp2
    go_ret2
    exact ⟨rfl, below_drewN hb1 _⟩
  · have h4 : decide (a < (z : Int) + (s.size : Int)) = false := by rw [decide_eq_false_iff_not]; exact h3
    have h5 : (60 : Int) ≤ (L.length : Int) := by omega
    go_quiet ((go_at_call 85; exact Calls.quiet_of_same (bytes_at _ _ L z _ HZ.out (by omega) hdL.out (by exact hu))))
    go_wp2
    go_ret2
    exact ⟨rfl, below_drewN hb1 _⟩

set_option maxHeartbeats 1000000 in
theorem rInsert_ok (r : Nat) (a b p : Int) (v : Value) (cs : List Do.Chg) (s : ByteArray) (w : World) (hl : cs.length ≤ 2000000000000) (hd : ∀ c ∈ cs, c.doc.size ≤ 40) (ha : 1 ≤ a ∧ a ≤ 400) (h1 : RefAt w r a b p v) (h2 : OwnC w 0 v cs) (hs : s.size ≤ 40)
    (hf : ¬ (a < (Do.size (Do.there cs) : Int) + s.size ∨ 60 ≤ (Do.there cs).length)) :
    Calls Try.prog 55 #[.pointer (some ⟨r, 0, none⟩), .string s] w fun e w' => e = .returned (.tuple #[.int .i64 (insTo cs cs.length : Nat), .int .i64 0]) ∧ ∃ v', RefAt w' r a b p v' ∧ OwnC w' 0 v' (cs ++ [⟨true, s, insTo cs cs.length⟩]) ∧ Only (foot r v) w w' ∧ (∀ k, foot r v' k → foot r v k ∨ w.heap.size ≤ k) := by
  have hlen := Do.thereTo_len cs cs.length
  have hsz := Do.sizeTo_le (Do.there cs) (fun c hc => hd c (there_mem cs _ c hc)) (Do.there cs).length
  obtain ⟨L, hL⟩ : ∃ L, Do.there cs = L := ⟨_, rfl⟩
  have HTH : Hid (Do.there cs = L) := hL
  have hsz2 : Do.size L ≤ 40 * L.length := by rw [← hL]; exact hsz
  have hlen2 : L.length ≤ cs.length := by rw [← hL]; exact hlen
  have hdL : Hid (∀ c ∈ L, c.doc.size ≤ 40) := fun c hc => hd c (there_mem cs _ c (by rw [← hL] at hc; exact hc))
  rw [hL] at hf
  clear hL hsz hlen hd
  obtain ⟨z, hz⟩ : ∃ z, Do.size L = z := ⟨_, rfl⟩
  have HZ : Hid (Do.size L = z) := hz
  rw [hz] at hf hsz2
  clear hz
  have hs40 : decide ((40 : Int) < (s.size : Int)) = false := by rw [decide_eq_false_iff_not]; omega
  obtain ⟨ha1, ha2⟩ := ha
  go_enter Try.func55, Try.ntmps55
  go_wp2_with fail
  refine (there_any r a b p cs _ hl ⟨v, h1, h2⟩).mono ?_
  rintro e w1 ⟨u, rfl, hu, hb1⟩
  rw [HTH.out] at hu
  clear HTH
  have hr1 := h1.below hb1
  have ho1 := h2.below hb1
  have c0 := hr1.c0
  obtain ⟨ao, cap, rfl⟩ := hu.shape2
  go_wp2_with fail
  have h4 : decide (a < (z : Int) + (s.size : Int)) = false := by rw [decide_eq_false_iff_not]; omega
  have h5 : decide ((60 : Int) ≤ (L.length : Int)) = false := by rw [decide_eq_false_iff_not]; omega
  go_quiet ((go_at_call 85; exact Calls.quiet_of_same (bytes_at _ _ L z _ HZ.out (by omega) hdL.out (by exact hu))))
  have hr2 : RefAt (w1.drewN nq) r a b p v := hr1
  have ho2 : OwnC (w1.drewN nq) 0 v cs := ho1
  have hb2 : Below w.heap.size w (w1.drewN nq) := below_drewN hb1 _
  generalize w1.drewN nq = w2 at *
  clear hr1 ho1 hb1 c0 h1 h2
  have c3 := hr2.c3
  obtain ⟨i0, hi, hz0, hz1, hz2⟩ := info_parts Try.info149
  rcases ho2.shape with ⟨rfl, rfl⟩ | ⟨g, capv, rfl, _, _⟩
  · go_wp2
    refine wp_loop_rounds 1 ?_
    rw [rounds_succ]
    go_wp2_with (at_builtin; refine wpList_append_lies _ rfl _ _ 106 rfl 0 149 i0 (.agg #[.bool false, .string ⟨#[]⟩, .int .i64 0]) 3 32 Try.underlying106 hi hz0 hz1 hz2 rfl (by decide) _ _ _ rfl (World.ownsRow.alloc ho2 _) ⟨w2.heap.size, 0, none⟩ 1 1 (CH1 ⟨true, s, 0⟩) rfl rfl (World.news_of_block (cs := #[.bool true, .string s, .int .i64 ((0 : Nat) : Int)]) (heap_alloc_new w2 _)) (by intro u hu2; simp [CH1] at hu2; rcases hu2 with rfl | rfl | rfl <;> rfl) (by decide) (by unfold maxLen; decide) (by decide) (Nat.zero_le _) (w2.heap.size + 1) (by simp) ?_; intro g' cap' w3 hown3 hgrow3 hat3 hlt3; have R := put_change (c := ⟨true, s, 0⟩) hr2 ho2 hown3 hgrow3 hat3; have hd3 := RefAt.kept (RefAt.below hr2 ((Below.refl _ _).alloc (Nat.le_refl _) _)) hgrow3 (ho2.apart hr2); have c33 := hd3.c3; have f33 := hd3.free 3)
    go_ret2
    exact ⟨rfl, _, R.1, R.2.1, (Only.of_below hb2).trans (R.2.2.1), fun k hk => (R.2.2.2 k hk).imp id (fun h => by have := hb2.size; omega)⟩
  · go_wp2
    go_loop [7, 8] (fun s i => ∃ k : Nat, k ≤ cs.length ∧ i = .int .i64 k ∧ s = .int .i64 (insTo cs k : Nat)) (fun _ i => cs.length - (intOf i).toNat)
    case atStart => exact ⟨0, Nat.zero_le _, rfl, rfl⟩
    case round =>
      obtain ⟨k, hk, rfl, rfl⟩ := hrel
      have hle := insTo_le cs k
      by_cases hlt : k < cs.length
      · obtain ⟨c, hck⟩ : ∃ c, cs[k]? = some c := ⟨cs[k], List.getElem?_eq_getElem hlt⟩
        obtain ⟨x0, _, _⟩ := ho2.cell rfl k c hck
        have HS : Hid (insTo cs (k + 1) = insTo cs k + (if c.ins then 1 else 0)) := insTo_succ cs k c hck
        obtain ⟨q, hq⟩ : ∃ q, c.ins = q := ⟨_, rfl⟩
        have HQ : Hid (c.ins = q) := hq
        rw [hq] at x0
        clear hck hq
        cases q
        all_goals
          go_wp2
          go_round
          case rel => exact ⟨k + 1, by omega, by go_num, by rw [HS.out, HQ.out]; simp⟩
          case measure => simp [intOf]; omega
      · have hke : k = cs.length := by omega
        subst hke
        have hdn : decide ((cs.length : Int) < (cs.length : Int)) = false := by simp
        go_wp2_with (at_builtin; refine wpList_append_lies _ rfl _ _ 106 rfl 0 149 i0 (.agg #[.bool false, .string ⟨#[]⟩, .int .i64 0]) 3 32 Try.underlying106 hi hz0 hz1 hz2 rfl (by decide) _ _ _ rfl (World.ownsRow.alloc ho2 _) ⟨w2.heap.size, 0, none⟩ 1 1 (CH1 ⟨true, s, insTo cs cs.length⟩) rfl rfl (World.news_of_block (cs := #[.bool true, .string s, .int .i64 ((insTo cs cs.length : Nat) : Int)]) (heap_alloc_new w2 _)) (by intro u hu2; simp [CH1] at hu2; rcases hu2 with rfl | rfl | rfl <;> rfl) (by decide) (by unfold maxLen; omega) (by omega) (Nat.zero_le _) (w2.heap.size + 1) (by simp) ?_; intro g' cap' w3 hown3 hgrow3 hat3 hlt3; have R := put_change (c := ⟨true, s, insTo cs cs.length⟩) hr2 ho2 hown3 hgrow3 hat3; have hd3 := RefAt.kept (RefAt.below hr2 ((Below.refl _ _).alloc (Nat.le_refl _) _)) hgrow3 (ho2.apart hr2); have c33 := hd3.c3; have f33 := hd3.free 3)
        go_ret2
        exact ⟨rfl, _, R.1, R.2.1, (Only.of_below hb2).trans (R.2.2.1), fun k hk => (R.2.2.2 k hk).imp id (fun h => by have := hb2.size; omega)⟩

end Go.Proofs.Ythkndfkkgncjfab

namespace Go.Proofs.Ythkndfkkgncjfab
open Go.RowKit
set_option maxRecDepth 100000

/-- the law on an append, its place of landing written out -/
theorem step_lies_at {P : Program} {ops : Array Oper} {o : Oper} {a : Act} {w : World} {K : Act → World → Prop} {Q : Exit → Act → World → Prop} {E : Prop} (d : Nat) (hd : o.dst = some d) (H : Nat) (hgd : o.guard = none) (s x : Operand) (t : TypeId)
    (ho : o.op = .call { callee := .builtin .append, args := #[s, x], argTypes := #[t, t] })
    (base : Nat) (e : TypeId) (i : TypeInfo) (z : Value) (size bytes : Nat) (ht : P.underlying t = some (.slice e)) (hi : P.info? e = some i) (hz : i.zero = some z)
    (hsize : i.size = size) (hby : i.bytes = bytes) (hzs : z.cells.size = size) (hsz : 0 < size)
    (v : Value) (n : Nat) (xs : List Value) (hs : a.eval s = v) (hown : w.ownsRow base e size v n xs)
    (ad : Addr) (m c : Nat) (news : List Value) (hx : a.eval x = .slice (some ad) m c) (hl : news.length = m * size) (hnews : ∀ j u, news[j]? = some u → w.cell? (ad.add j) = some u) (h1 : ∀ u ∈ news, u.oneCell' = true)
    (hm : 0 < m) (h63 : n + m ≤ maxLen) (hbytes : (n + m) * bytes ≤ 140737488355328) (hbase : base ≤ w.heap.size) (hH : w.heap.size = H)
    (h : ∀ g cap w', w'.ownsRow base e size (.slice (some ⟨g, 0, none⟩) (n + m) cap) (n + m) (xs ++ news) → w.grownBy w' v.ownBlock → (v.ownBlock = some g ∨ g = H) → g < w'.heap.size → K (a.put (some d) (.slice (some ⟨g, 0, none⟩) (n + m) cap)) w') :
    if Region.wanted o (yielded ops a.tmps) = true then Oper.wp P o a w K Q else E :=
  step_append_lies w hgd s x t ho base e i z size bytes ht hi hz hsize hby hzs hsz v n xs hs hown ad m c news hx hl hnews h1 hm h63 hbytes hbase H hH (fun g cap w' p1 p2 p3 p4 => by rw [hd]; exact h g cap w' p1 p2 p3 p4)

set_option maxHeartbeats 400000 in
theorem rDelete_none (r : Nat) (a b p : Int) (v : Value) (cs : List Do.Chg) (id : Int) (w : World) (hl : cs.length ≤ 2000000000000) (h1 : RefAt w r a b p v) (h2 : OwnC w 0 v cs) (hf : Do.at? (Do.there cs) id = none) :
    Calls Try.prog 56 #[.pointer (some ⟨r, 0, none⟩), .int .i64 id] w fun e w' => e = .returned (.int .i64 4) ∧ Below w.heap.size w w' := by
  have hlen : (Do.there cs).length ≤ cs.length := Do.thereTo_len cs cs.length
  have HF : Hid (Do.at? (Do.there cs) id = none) := hf
  clear hf
  go_enter Try.func56, Try.ntmps56
  go_wp2_with fail
  refine (there_any r a b p cs _ hl ⟨v, h1, h2⟩).mono ?_
  rintro e w1 ⟨u, rfl, hu, hb1⟩
  obtain ⟨ao, cap, rfl⟩ := hu.shape2
  have HT : Hid (Calls Try.prog 86 #[.slice ao (Do.there cs).length cap, .int .i64 id] w1 fun e w' => e = .returned (.int .i64 (-1)) ∧ w' = w1) := by
    have := find_any _ _ (Do.there cs) id w1 (by omega) hu
    rw [HF.out] at this; exact this
  generalize (Do.there cs).length = m at *
  go_wp2_with fail
  refine HT.out.mono ?_
  rintro e w2 ⟨rfl, hw2⟩; rw [hw2]; clear hw2
  go_wp2_with fail
  go_ret
  exact ⟨rfl, hb1⟩

set_option maxHeartbeats 2000000 in
theorem rDelete_ok (r : Nat) (a b p : Int) (v : Value) (cs : List Do.Chg) (id k : Nat) (c : Do.Chg) (w : World) (hl : cs.length ≤ 2000000000000) (h1 : RefAt w r a b p v) (h2 : OwnC w 0 v cs) (hf : Do.at? (Do.there cs) (id : Int) = some k) (hck : (Do.there cs)[k]? = some c) :
    Calls Try.prog 56 #[.pointer (some ⟨r, 0, none⟩), .int .i64 (id : Int)] w fun e w' => e = .returned (.int .i64 0) ∧ ∃ v', RefAt w' r a b p v' ∧ OwnC w' 0 v' (cs ++ [⟨false, c.doc, id⟩]) ∧ Only (foot r v) w w' ∧ (∀ k, foot r v' k → foot r v k ∨ w.heap.size ≤ k) := by
  obtain ⟨i0, hi, hz0, hz1, hz2⟩ := info_parts Try.info149
  have hlen : (Do.there cs).length ≤ cs.length := Do.thereTo_len cs cs.length
  have hkl : k < (Do.there cs).length := by
    rcases Nat.lt_or_ge k (Do.there cs).length with h | h
    · exact h
    · rw [List.getElem?_eq_none h] at hck; cases hck
  have HF : Hid (Do.at? (Do.there cs) (id : Int) = some k) := hf
  have HC : Hid ((Do.there cs)[k]? = some c) := hck
  clear hf hck
  obtain ⟨av, capv, rfl⟩ := h2.shape2
  go_enter Try.func56, Try.ntmps56
  go_wp2_with fail
  refine (there_any r a b p cs _ hl ⟨_, h1, h2⟩).mono ?_
  rintro e w1 ⟨u, rfl, hu, hb1⟩
  rcases hu.shape with ⟨rfl, he⟩ | ⟨gl, cap, rfl, hgl, hgl2⟩
  · rw [he] at hkl; simp at hkl
  · obtain ⟨_, x1, _⟩ := hu.cell rfl k c HC.out
    have HT : Hid (Calls Try.prog 86 #[.slice (some ⟨gl, 0, none⟩) (Do.there cs).length cap, .int .i64 (id : Int)] w1 fun e w' => e = .returned (.int .i64 (k : Int)) ∧ w' = w1) := by
      have := find_any _ _ (Do.there cs) id w1 (by omega) hu
      rw [HF.out] at this; exact this
    have hr1 := h1.below hb1
    have ho1 := h2.below hb1
    have hgv : some gl ≠ (Value.slice av cs.length capv).ownBlock := fun e => by
      have := (World.ownsRow.lt h2 gl e.symm).2; omega
    have hgr : gl ≠ r := by have := h1.lt; omega
    have c3 := hr1.c3
    have hrl := hr1.lt
    clear HC HF hu
    generalize (Do.there cs).length = m at *
    go_wp2_with fail
    refine HT.out.mono ?_
    rintro e w2 ⟨rfl, hw2⟩; rw [hw2]; clear hw2 HT
    have hkm : (k : Int) < (m : Int) := by omega
    have hk0 : decide ((k : Int) < 0) = false := by simp
    go_wp2_with fail
    · skip
      refine wp_region_held_drew (S := fun w' => w'.cell? ⟨gl, k * 3 + 1, none⟩ = some (.string c.doc)) (by kernel_rfl) x1 (fun hHeld => ?_)
      refine wpAnyH_take (i := 0) (v := ?va0) rfl (by kernel_rfl) (by kernel_rfl) (by kernel_rfl) (fun _ _ _ h => h) (Or.inl ⟨by rfl, ?hya0⟩) (by assumption) ?resta0
      case hya0 => intro w hSw; (try dsimp only at hSw); go_simp; (try with_reducible rfl)
      simp only [Act.put]
      refine wpAnyH_take (i := 1) (v := ?va1) rfl (by kernel_rfl) (by kernel_rfl) (by kernel_rfl) (fun _ _ _ h => h) (Or.inl ⟨by rfl, ?hya1⟩) (by assumption) ?resta1
      case hya1 => intro w hSw; (try dsimp only at hSw); go_simp; (try with_reducible rfl)
      simp only [Act.put]
      refine wpAnyH_take (i := 2) (v := ?va2) rfl (by kernel_rfl) (by kernel_rfl) (by kernel_rfl) (fun _ _ _ h => h) (Or.inl ⟨by rfl, ?hya2⟩) (by assumption) ?resta2
      case hya2 => intro w hSw; (try dsimp only at hSw); go_simp; (try with_reducible rfl)
      simp only [Act.put]
      refine wpAnyH_take (i := 3) (v := ?va3) rfl (by kernel_rfl) (by kernel_rfl) (by kernel_rfl) (fun _ _ _ h => h) (Or.inl ⟨by rfl, ?hya3⟩) (by assumption) ?resta3
      case hya3 => intro w hSw; (try dsimp only at hSw); go_simp; (try with_reducible rfl)
      simp only [Act.put]
      refine wpAnyH_take (i := 5) (v := ?va5) rfl (by kernel_rfl) (by kernel_rfl) (by kernel_rfl) (fun _ _ _ h => h) (Or.inl ⟨by rfl, ?hya5⟩) (by assumption) ?resta5
      case hya5 => intro w hSw; (try dsimp only at hSw); go_simp; (try with_reducible rfl)
      simp only [Act.put]
      refine wpAnyH_take (i := 6) (v := ?va6) rfl (by kernel_rfl) (by kernel_rfl) (by kernel_rfl) (fun _ _ _ h => h) (Or.inl ⟨by rfl, ?hya6⟩) (by assumption) ?resta6
      case hya6 => intro w hSw; (try dsimp only at hSw); go_simp; (try with_reducible rfl)
      simp only [Act.put]
      refine wpAnyH_take (i := 7) (v := ?va7) rfl (by kernel_rfl) (by kernel_rfl) (by kernel_rfl) (fun _ _ _ h => h) (Or.inl ⟨by rfl, ?hya7⟩) (by assumption) ?resta7
      case hya7 => intro w hSw; (try dsimp only at hSw); go_simp; (try with_reducible rfl)
      simp only [Act.put]
      refine wpAnyH_take (i := 8) (v := ?va8) rfl (by kernel_rfl) (by kernel_rfl) (by kernel_rfl) (fun _ _ _ h => h) (Or.inl ⟨by rfl, ?hya8⟩) (by assumption) ?resta8
      case hya8 => intro w hSw; (try dsimp only at hSw); go_simp; (try with_reducible rfl)
      simp only [Act.put]
      refine wpAnyH_take (i := 9) (v := ?va9) rfl (by kernel_rfl) (by kernel_rfl) (by kernel_rfl) (fun _ _ _ h => h) (Or.inl ⟨by rfl, ?hya9⟩) (by assumption) ?resta9
      case hya9 => intro w hSw; (try dsimp only at hSw); go_simp; (try with_reducible rfl)
      simp only [Act.put]
      refine wpAnyH_take (i := 10) (v := ?va10) rfl (by kernel_rfl) (by kernel_rfl) (by kernel_rfl) (fun _ _ _ h => h) (Or.inl ⟨by rfl, ?hya10⟩) (by assumption) ?resta10
      case hya10 => intro w hSw; (try dsimp only at hSw); go_simp; (try with_reducible rfl)
      simp only [Act.put]
      refine wpAnyH_take (i := 11) (v := ?va11) rfl (by kernel_rfl) (by kernel_rfl) (by kernel_rfl) (fun _ _ _ h => h) (Or.inl ⟨by rfl, ?hya11⟩) (by assumption) ?resta11
      case hya11 => intro w hSw; (try dsimp only at hSw); go_simp; (try with_reducible rfl)
      simp only [Act.put]
      refine wpAnyH_ready (rs := [4, 12]) (by kernel_rfl) (by simp) ?_
      refine AllReadyH.cons rfl (fun K hK => ?_) (AllReadyH.cons rfl (fun K hK => ?_) AllReadyH.nil)
      · go_simp
        refine hK.out _ _ (by exact hHeld) (fun hHeld => ?_)
        clear hK K
        refine wpAnyH_ready (rs := [12]) (by kernel_rfl) (by simp) ?_
        refine AllReadyH.cons rfl (fun K hK => ?_) AllReadyH.nil
        go_simp
        refine hK.out _ _ (by exact cell_later (((Below.refl _ _).alloc (Nat.le_refl _) _).drew) x1) (fun hHeld => ?_)
        clear hK K
        refine wpAnyH_ready (rs := [13]) (by kernel_rfl) (by simp) ?_
        refine AllReadyH.cons rfl (fun K hK => ?_) AllReadyH.nil
        refine step_lies_at 27 rfl w1.heap.size.succ rfl (.tmp 18) (.tmp 26) 106 rfl 0 149 i0 (.agg #[.bool false, .string ⟨#[]⟩, .int .i64 0]) 3 32 Try.underlying106 hi hz0 hz1 hz2 rfl (by decide) (.slice av cs.length capv) cs.length (CH cs) (by simp [Act.eval]) (World.ownsRow.alloc ho1 _) ⟨w1.heap.size, 0, none⟩ 1 1 (CH1 ⟨false, c.doc, id⟩) (by simp [Act.eval]) rfl (World.news_of_block (cs := #[.bool false, .string c.doc, .int .i64 (id : Int)]) (heap_alloc_new w1 _)) (by intro u hu2; simp [CH1] at hu2; rcases hu2 with rfl | rfl | rfl <;> rfl) (by decide) (by unfold maxLen; omega) (by omega) (Nat.zero_le _) (by simp) ?_
        intro g' cap' w3 hown3 hgrow0 hat3 hlt3
        have hgrow3 : (w1.alloc (.cells #[.bool false, .string c.doc, .int .i64 (id : Int)] 149)).grownBy w3 (Value.slice av cs.length capv).ownBlock := ⟨hgrow0.os, hgrow0.tape, hgrow0.output, hgrow0.size, hgrow0.block⟩
        have R := put_change (c := ⟨false, c.doc, id⟩) (o := .cells #[.bool false, .string c.doc, .int .i64 (id : Int)] 149) hr1 ho1 hown3 hgrow3 hat3
        have hd3 := RefAt.kept (RefAt.below hr1 ((Below.refl _ _).alloc (Nat.le_refl _) (.cells #[.bool false, .string c.doc, .int .i64 (id : Int)] 149))) hgrow3 (ho1.apart hr1)
        have c33 := hd3.c3
        have f33 := hd3.free 3
        have hcd : w3.cell? ⟨gl, k * 3 + 1, none⟩ = some (.string c.doc) := World.grownBy.cell (w := w1.alloc (.cells #[.bool false, .string c.doc, .int .i64 (id : Int)] 149)) hgrow3 (cell_later ((Below.refl _ _).alloc (Nat.le_refl _) _) x1) hgv
        refine hK.out _ _ hcd (fun hHeld => ?_)
        clear hK K
        refine wpAnyH_take (i := 14) (v := ?vb14) rfl (by kernel_rfl) (by kernel_rfl) (by kernel_rfl) (fun _ _ _ h => h) (Or.inl ⟨by rfl, ?hyb14⟩) (by assumption) ?restb14
        case hyb14 => intro w hSw; (try dsimp only at hSw); go_simp; (try with_reducible rfl)
        simp only [Act.put]
        refine wpAnyH_take (i := 15) (v := ?vb15) rfl (by kernel_rfl) (by kernel_rfl) (by kernel_rfl) (fun _ _ _ h => h) (Or.inl ⟨by rfl, ?hyb15⟩) (by assumption) ?restb15
        case hyb15 => intro w hSw; (try dsimp only at hSw); go_simp; (try with_reducible rfl)
        simp only [Act.put]
        refine wpAnyH_ready (rs := [16]) (by kernel_rfl) (by simp) ?_
        refine AllReadyH.cons rfl (fun K hK => ?_) AllReadyH.nil
        go_simp
        refine hK.out _ _ (by rw [World.cell?_setCell_other _ _ _ _ (by simp)]; exact hcd) (fun hHeld => ?_)
        clear hK K
        refine wpAnyH_done (by kernel_rfl) ?_ _
        go_wp2
        go_ret
        exact ⟨rfl, _, R.1, R.2.1, (Only.of_below hb1).trans R.2.2.1, fun j hj => (R.2.2.2 j hj).imp (fun h => h) (fun h => by have := hb1.size; omega)⟩
      · go_simp
        refine hK.out _ _ (by exact cell_later (((Below.refl _ _).alloc (Nat.le_refl _) _).drew) x1) (fun hHeld => ?_)
        clear hK K
        refine wpAnyH_ready (rs := [4]) (by kernel_rfl) (by simp) ?_
        refine AllReadyH.cons rfl (fun K hK => ?_) AllReadyH.nil
        go_simp
        refine hK.out _ _ (by exact hHeld) (fun hHeld => ?_)
        clear hK K
        refine wpAnyH_ready (rs := [13]) (by kernel_rfl) (by simp) ?_
        refine AllReadyH.cons rfl (fun K hK => ?_) AllReadyH.nil
        refine step_lies_at 27 rfl w1.heap.size.succ rfl (.tmp 18) (.tmp 26) 106 rfl 0 149 i0 (.agg #[.bool false, .string ⟨#[]⟩, .int .i64 0]) 3 32 Try.underlying106 hi hz0 hz1 hz2 rfl (by decide) (.slice av cs.length capv) cs.length (CH cs) (by simp [Act.eval]) (World.ownsRow.alloc ho1 _) ⟨w1.heap.size, 0, none⟩ 1 1 (CH1 ⟨false, c.doc, id⟩) (by simp [Act.eval]) rfl (World.news_of_block (cs := #[.bool false, .string c.doc, .int .i64 (id : Int)]) (heap_alloc_new w1 _)) (by intro u hu2; simp [CH1] at hu2; rcases hu2 with rfl | rfl | rfl <;> rfl) (by decide) (by unfold maxLen; omega) (by omega) (Nat.zero_le _) (by simp) ?_
        intro g' cap' w3 hown3 hgrow0 hat3 hlt3
        have hgrow3 : (w1.alloc (.cells #[.bool false, .string c.doc, .int .i64 (id : Int)] 149)).grownBy w3 (Value.slice av cs.length capv).ownBlock := ⟨hgrow0.os, hgrow0.tape, hgrow0.output, hgrow0.size, hgrow0.block⟩
        have R := put_change (c := ⟨false, c.doc, id⟩) (o := .cells #[.bool false, .string c.doc, .int .i64 (id : Int)] 149) hr1 ho1 hown3 hgrow3 hat3
        have hd3 := RefAt.kept (RefAt.below hr1 ((Below.refl _ _).alloc (Nat.le_refl _) (.cells #[.bool false, .string c.doc, .int .i64 (id : Int)] 149))) hgrow3 (ho1.apart hr1)
        have c33 := hd3.c3
        have f33 := hd3.free 3
        have hcd : w3.cell? ⟨gl, k * 3 + 1, none⟩ = some (.string c.doc) := World.grownBy.cell (w := w1.alloc (.cells #[.bool false, .string c.doc, .int .i64 (id : Int)] 149)) hgrow3 (cell_later ((Below.refl _ _).alloc (Nat.le_refl _) _) x1) hgv
        refine hK.out _ _ hcd (fun hHeld => ?_)
        clear hK K
        refine wpAnyH_take (i := 14) (v := ?vc14) rfl (by kernel_rfl) (by kernel_rfl) (by kernel_rfl) (fun _ _ _ h => h) (Or.inl ⟨by rfl, ?hyc14⟩) (by assumption) ?restc14
        case hyc14 => intro w hSw; (try dsimp only at hSw); go_simp; (try with_reducible rfl)
        simp only [Act.put]
        refine wpAnyH_take (i := 15) (v := ?vc15) rfl (by kernel_rfl) (by kernel_rfl) (by kernel_rfl) (fun _ _ _ h => h) (Or.inl ⟨by rfl, ?hyc15⟩) (by assumption) ?restc15
        case hyc15 => intro w hSw; (try dsimp only at hSw); go_simp; (try with_reducible rfl)
        simp only [Act.put]
        refine wpAnyH_ready (rs := [16]) (by kernel_rfl) (by simp) ?_
        refine AllReadyH.cons rfl (fun K hK => ?_) AllReadyH.nil
        go_simp
        refine hK.out _ _ (by rw [World.cell?_setCell_other _ _ _ _ (by simp)]; exact hcd) (fun hHeld => ?_)
        clear hK K
        refine wpAnyH_done (by kernel_rfl) ?_ _
        go_wp2
        go_ret
        exact ⟨rfl, _, R.1, R.2.1, (Only.of_below hb1).trans R.2.2.1, fun j hj => (R.2.2.2 j hj).imp (fun h => h) (fun h => by have := hb1.size; omega)⟩

end Go.Proofs.Ythkndfkkgncjfab

namespace Go.Proofs.Ythkndfkkgncjfab
open Go.RowKit
set_option maxRecDepth 100000

theorem OwnV.shape2 {w : World} {B : Nat} {v : Value} {l : List Nat} (h : OwnV w B v l) : ∃ ao cap, v = .slice ao l.length cap := by
  rcases h.2 with ⟨rfl, h0⟩ | ⟨g, cap, cur, rfl, _⟩
  · exact ⟨none, 0, by rw [h0]⟩
  · exact ⟨_, cap, rfl⟩
theorem kinds_apartC {w : World} {B C : Nat} {v1 v2 : Value} {n1 n2 : Nat} {x1 x2 : List Value} (h1 : w.ownsRow B 149 3 v1 n1 x1) (h2 : w.ownsRow C 3 1 v2 n2 x2) : v1.ownBlock = none ∨ v1.ownBlock ≠ v2.ownBlock := by
  rcases h1.2 with ⟨e1, _⟩ | ⟨g1, cap1, cur1, e1, _, hg1, _⟩
  · left; rw [e1]; rfl
  · right
    rcases h2.2 with ⟨e2, _⟩ | ⟨g2, cap2, cur2, e2, _, hg2, _⟩
    · rw [e1, e2]; simp [Value.ownBlock]
    · rw [e1, e2]
      intro e
      simp [Value.ownBlock] at e
      rw [e, hg2] at hg1
      simp at hg1
/-- one id more, a row of changes beside it -/
theorem ids_step {w w1 w0 : World} {B C : Nat} {v v' f : Value} {m : List Nat} {cs : List Do.Chg} {b : Nat} {o : Obj} (hf : OwnC w C f cs) (hu : OwnV w B v m) (hbl : Below B w0 w) (hB : B ≤ w.heap.size)
    (h1 : w1.ownsRow B 3 1 v' (m.length + 1) (I m ++ [.int .i64 (b : Int)])) (h2 : (w.alloc o).grownBy w1 v.ownBlock) : OwnC w1 C f cs ∧ OwnV w1 B v' (m ++ [b]) ∧ Below B w0 w1 := by
  have hf' : OwnC (w.alloc o) C f cs := World.ownsRow.alloc hf o
  have hu' : OwnV (w.alloc o) B v m := World.ownsRow.alloc hu o
  refine ⟨World.ownsRow.kept hf' h2 (kinds_apartC hf' hu'), ?_, (hbl.alloc hB o).grown h2 (by simp; omega) (fun k hk => (World.ownsRow.lt hu k hk).1)⟩
  rw [I_append] at h1
  unfold OwnV
  simpa using h1

set_option maxHeartbeats 400000 in
theorem rList_arg (r : Nat) (t n : Int) (w : World) (h : n < 1 ∨ 8 < n) :
    Calls Try.prog 59 #[.pointer (some ⟨r, 0, none⟩), .int .i64 t, .int .i64 n] w fun e w' => e = .returned (.tuple #[.slice none 0 0, .int .i64 9]) ∧ w' = w := by
  rcases h with h | h
  · go_enter Try.func59, Try.ntmps59
    go_wp2
    go_ret2
    exact ⟨rfl, rfl⟩
  · have h0 : ¬ n < 1 := by omega
    go_enter Try.func59, Try.ntmps59
    go_wp2
    go_ret2
    exact ⟨rfl, rfl⟩

set_option maxHeartbeats 2000000 in
theorem rList_ok (r : Nat) (a b p : Int) (cs : List Do.Chg) (t : Int) (n : Nat) (w : World) (hl : cs.length ≤ 2000000000000) (h : IdxAt w r a b p cs) (hn : 1 ≤ n ∧ n ≤ 8) :
    Calls Try.prog 59 #[.pointer (some ⟨r, 0, none⟩), .int .i64 t, .int .i64 (n : Int)] w fun e w' => ∃ v, e = .returned (.tuple #[v, .int .i64 0]) ∧ OwnV w' w.heap.size v (Do.ids (Do.there cs) t n) ∧ Below w.heap.size w w' := by
  obtain ⟨i0, hi, hz0, hz1, hz2⟩ := info_parts Try.info3
  have hlen : (Do.there cs).length ≤ cs.length := Do.thereTo_len cs cs.length
  obtain ⟨L, hL⟩ : ∃ L, Do.there cs = L := ⟨_, rfl⟩
  have HTH : Hid (Do.there cs = L) := hL
  rw [hL] at hlen
  rw [hL]
  clear hL
  have hn1 : decide ((n : Int) < 1) = false := by rw [decide_eq_false_iff_not]; omega
  have hn8 : decide ((8 : Int) < (n : Int)) = false := by rw [decide_eq_false_iff_not]; omega
  obtain ⟨hna, hnb⟩ := hn
  go_enter Try.func59, Try.ntmps59
  go_wp2_with fail
  refine (there_any r a b p cs _ hl h).mono ?_
  rintro e w1 ⟨u, rfl, hu, hb1⟩
  rw [HTH.out] at hu
  clear HTH h
  rcases hu.shape with ⟨rfl, rfl⟩ | ⟨g, cap, rfl, _, _⟩
  · go_wp2
    refine wp_loop_rounds 1 ?_
    rw [rounds_succ]
    go_wp2
    go_ret2
    exact ⟨_, rfl, World.ownsRow_nil _ _ _ _, hb1⟩
  · go_wp2
    go_loopw [9, 10] (fun v i wr => ∃ k : Nat, k ≤ L.length ∧ i = .int .i64 k ∧ OwnV wr w.heap.size v (Do.idsTo L t n k) ∧ OwnC wr w.heap.size (.slice (some ⟨g, 0, none⟩) L.length cap) L ∧ Below w.heap.size w wr) (fun _ i _ => L.length - (intOf i).toNat)
    case atStart => exact ⟨0, Nat.zero_le _, rfl, World.ownsRow_nil _ _ _ _, hu, hb1⟩
    case round =>
      obtain ⟨k, hk, rfl, ho, hc, hb⟩ := hrel
      clear hu hb1
      have hil := Do.idsTo_len L t n k
      obtain ⟨ao, capo, rfl⟩ := ho.shape2
      by_cases hlt : k < L.length
      · obtain ⟨c, hck⟩ : ∃ c, L[k]? = some c := ⟨L[k], List.getElem?_eq_getElem hlt⟩
        obtain ⟨_, _, x2⟩ := hc.cell rfl k c hck
        have HC : Hid (L[k]? = some c) := hck
        clear hck
        obtain ⟨M, hM⟩ : ∃ M, Do.idsTo L t n k = M := ⟨_, rfl⟩
        have HM : Hid (Do.idsTo L t n k = M) := hM
        rw [hM] at hil ho
        rw [hM]
        clear hM
        by_cases h1 : t < (c.id : Int)
        · by_cases h2 : M.length < n
          · have h2i : (M.length : Int) < (n : Int) := by omega
            go_wp2_with (at_builtin; refine wpList_append_own _ rfl _ _ 35 rfl w.heap.size 3 i0 (.int .i64 0) 1 8 Try.underlying35 hi hz0 hz1 hz2 rfl (by decide) _ _ _ rfl (World.ownsRow.alloc ho _) ⟨wr.heap.size, 0, none⟩ 1 1 [.int .i64 (c.id : Int)] rfl rfl (cell_one_new _ _ _) (by intro u hu2; simp at hu2; subst hu2; rfl) (by unfold maxLen; omega) (by omega) (by have := hb.size; simp; omega) ?_; intro v' w3 hown3 hgrow3 _)
            have R := ids_step hc ho hb hb.size hown3 hgrow3
            clear hown3 hgrow3 ho hb hc
            go_wp2
            go_roundw
            case rel => exact ⟨k + 1, by omega, by go_num, by rw [Do.idsTo_hit L t n k c HC.out h1 (by rw [HM.out]; exact h2), HM.out]; exact R.2.1, R.1, R.2.2⟩
            case measure => simp [intOf]; omega
          · have h2i : decide ((M.length : Int) < (n : Int)) = false := by rw [decide_eq_false_iff_not]; omega
            have HMI : Hid (Do.idsTo L t n (k + 1) = M) := by show Do.idsTo L t n (k + 1) = M; rw [Do.idsTo_miss L t n k c HC.out (by rw [HM.out]; omega), HM.out]
            go_wp2
            go_roundw
            case rel => exact ⟨k + 1, by omega, by go_num, by rw [HMI.out]; exact ho, hc, hb⟩
            case measure => simp [intOf]; omega
        · have h1i : decide (t < (c.id : Int)) = false := by rw [decide_eq_false_iff_not]; omega
          have HMI : Hid (Do.idsTo L t n (k + 1) = M) := by show Do.idsTo L t n (k + 1) = M; rw [Do.idsTo_miss L t n k c HC.out (by omega), HM.out]
          go_wp2
          go_roundw
          case rel => exact ⟨k + 1, by omega, by go_num, by rw [HMI.out]; exact ho, hc, hb⟩
          case measure => simp [intOf]; omega
      · have hke : k = L.length := by omega
        subst hke
        go_wp2
        go_ret2
        exact ⟨_, rfl, ho, hb⟩

end Go.Proofs.Ythkndfkkgncjfab

namespace Go.Proofs.Ythkndfkkgncjfab
open Go.RowKit
set_option maxRecDepth 100000

/-- a configuration that may be -/
def okConf (a b p : Int) : Bool := decide (1 ≤ a) && decide (a ≤ 400) && decide (1 ≤ b) && decide (b ≤ 80) && decide (1 ≤ p) && decide (p ≤ 8)

set_option maxHeartbeats 1000000 in
theorem rNew_ok (a b p : Int) (w : World) (ha : 1 ≤ a ∧ a ≤ 400) (hb : 1 ≤ b ∧ b ≤ 80) (hp : 1 ≤ p ∧ p ≤ 8) :
    Calls Try.prog 32 #[.agg #[.int .i64 a, .int .i64 b, .int .i64 p]] w fun e w' => ∃ r, e = .returned (.tuple #[.pointer (some ⟨r, 0, none⟩), .int .i64 0]) ∧ w.heap.size ≤ r ∧ RefAt w' r a b p (.slice none 0 0) ∧ Below w.heap.size w w' := by
  obtain ⟨ha1, ha2⟩ := ha
  obtain ⟨hb1, hb2⟩ := hb
  obtain ⟨hp1, hp2⟩ := hp
  have e1 : decide (a < 1) = false := by rw [decide_eq_false_iff_not]; omega
  have e2 : decide (400 < a) = false := by rw [decide_eq_false_iff_not]; omega
  have e3 : decide (b < 1) = false := by rw [decide_eq_false_iff_not]; omega
  have e4 : decide (80 < b) = false := by rw [decide_eq_false_iff_not]; omega
  have e5 : decide (p < 1) = false := by rw [decide_eq_false_iff_not]; omega
  have e6 : decide (8 < p) = false := by rw [decide_eq_false_iff_not]; omega
  go_enter Try.func32, Try.ntmps32
  go_wp2
  go_ret2
  refine ⟨w.heap.size + 1, rfl, by omega, ?_, ((Below.refl _ _).alloc (Nat.le_refl _) _).alloc (by simp) _⟩
  have := heap_alloc_new (w.alloc (.cells #[.int .i64 a, .int .i64 b, .int .i64 p] 23)) (.cells #[.int .i64 a, .int .i64 b, .int .i64 p, .slice none 0 0] 108)
  simpa [RefAt] using this

set_option maxHeartbeats 1000000 in
theorem rNew_no (a b p : Int) (w : World) (h : ¬ (1 ≤ a ∧ a ≤ 400 ∧ 1 ≤ b ∧ b ≤ 80 ∧ 1 ≤ p ∧ p ≤ 8)) :
    Calls Try.prog 32 #[.agg #[.int .i64 a, .int .i64 b, .int .i64 p]] w fun e w' => e = .returned (.tuple #[.pointer none, .int .i64 1]) ∧ Below w.heap.size w w' := by
  by_cases h1 : a < 1
  · go_enter Try.func32, Try.ntmps32
    go_wp2
    go_ret2
    exact ⟨rfl, (Below.refl _ _).alloc (Nat.le_refl _) _⟩
  · by_cases h2 : 400 < a
    · go_enter Try.func32, Try.ntmps32
      go_wp2
      go_ret2
      exact ⟨rfl, (Below.refl _ _).alloc (Nat.le_refl _) _⟩
    · by_cases h3 : b < 1
      · go_enter Try.func32, Try.ntmps32
        go_wp2
        go_ret2
        exact ⟨rfl, (Below.refl _ _).alloc (Nat.le_refl _) _⟩
      · by_cases h4 : 80 < b
        · go_enter Try.func32, Try.ntmps32
          go_wp2
          go_ret2
          exact ⟨rfl, (Below.refl _ _).alloc (Nat.le_refl _) _⟩
        · by_cases h5 : p < 1
          · go_enter Try.func32, Try.ntmps32
            go_wp2
            go_ret2
            exact ⟨rfl, (Below.refl _ _).alloc (Nat.le_refl _) _⟩
          · have h6 : 8 < p := by omega
            clear h
            go_enter Try.func32, Try.ntmps32
            go_wp2
            go_ret2
            exact ⟨rfl, (Below.refl _ _).alloc (Nat.le_refl _) _⟩

/-- what Extract answers -/
def exRes (L : List Do.Chg) (id fr to : Int) : ByteArray × Int := match Do.at? L id with
  | none => (⟨#[]⟩, 4)
  | some k => match L[k]? with
    | none => (⟨#[]⟩, 4)
    | some c => if fr < 0 ∨ to < fr ∨ (c.doc.size : Int) < to then (⟨#[]⟩, 7) else (c.doc.extract fr.toNat to.toNat, 0)

theorem find_at (B : Nat) (v : Value) (cs : List Do.Chg) (id : Int) (o : Option Nat) (w : World) (ho : Do.at? cs id = o) (hl : cs.length ≤ 2000000000000) (h : OwnC w B v cs) :
    Calls Try.prog 86 #[v, .int .i64 id] w fun e w' => e = .returned (.int .i64 (atVal o)) ∧ w' = w := by
  rw [← ho]; exact find_any B v cs id w hl h

set_option maxHeartbeats 1000000 in
theorem rExtract_none (r : Nat) (a b p : Int) (cs : List Do.Chg) (id fr to : Int) (w : World) (hl : cs.length ≤ 2000000000000) (h : IdxAt w r a b p cs) (hf : Do.at? (Do.there cs) id = none) :
    Calls Try.prog 61 #[.pointer (some ⟨r, 0, none⟩), .int .i64 id, .int .i64 fr, .int .i64 to] w fun e w' => e = .returned (.tuple #[.string ⟨#[]⟩, .int .i64 4]) ∧ Below w.heap.size w w' := by
  have hlen : (Do.there cs).length ≤ cs.length := Do.thereTo_len cs cs.length
  have HF : Hid (Do.at? (Do.there cs) id = none) := hf
  clear hf
  go_enter Try.func61, Try.ntmps61
  go_wp2_with fail
  refine (there_any r a b p cs _ hl h).mono ?_
  rintro e w1 ⟨u, rfl, hu, hb1⟩
  obtain ⟨ao, cap, rfl⟩ := hu.shape2
  have HT : Hid (Calls Try.prog 86 #[.slice ao (Do.there cs).length cap, .int .i64 id] w1 fun e w' => e = .returned (.int .i64 (-1)) ∧ w' = w1) := find_at _ _ _ id none w1 HF.out (by omega) hu
  generalize (Do.there cs).length = m at *
  go_wp2_with fail
  refine HT.out.mono ?_
  rintro e w2 ⟨rfl, hw2⟩; rw [hw2]; clear hw2
  go_wp2_with fail
  go_ret2
  exact ⟨rfl, hb1⟩

set_option maxHeartbeats 1000000 in
theorem rExtract_some (r : Nat) (a b p : Int) (cs : List Do.Chg) (id fr to : Int) (k : Nat) (c : Do.Chg) (w : World) (hl : cs.length ≤ 2000000000000) (h : IdxAt w r a b p cs) (hf : Do.at? (Do.there cs) id = some k) (hck : (Do.there cs)[k]? = some c) (_hd : c.doc.size ≤ 40) :
    Calls Try.prog 61 #[.pointer (some ⟨r, 0, none⟩), .int .i64 id, .int .i64 fr, .int .i64 to] w fun e w' => e = .returned (if fr < 0 ∨ to < fr ∨ (c.doc.size : Int) < to then .tuple #[.string ⟨#[]⟩, .int .i64 7] else .tuple #[.string (c.doc.extract fr.toNat to.toNat), .int .i64 0]) ∧ Below w.heap.size w w' := by
  have hlen : (Do.there cs).length ≤ cs.length := Do.thereTo_len cs cs.length
  have hkl : k < (Do.there cs).length := by
    rcases Nat.lt_or_ge k (Do.there cs).length with h | h
    · exact h
    · rw [List.getElem?_eq_none h] at hck; cases hck
  have HF : Hid (Do.at? (Do.there cs) id = some k) := hf
  have HC : Hid ((Do.there cs)[k]? = some c) := hck
  clear hf hck
  go_enter Try.func61, Try.ntmps61
  go_wp2_with fail
  refine (there_any r a b p cs _ hl h).mono ?_
  rintro e w1 ⟨u, rfl, hu, hb1⟩
  rcases hu.shape with ⟨rfl, he⟩ | ⟨gl, cap, rfl, hgl, hgl2⟩
  · rw [he] at hkl; simp at hkl
  · obtain ⟨_, x1, _⟩ := hu.cell rfl k c HC.out
    have HT : Hid (Calls Try.prog 86 #[.slice (some ⟨gl, 0, none⟩) (Do.there cs).length cap, .int .i64 id] w1 fun e w' => e = .returned (.int .i64 (k : Int)) ∧ w' = w1) := find_at _ _ _ id (some k) w1 HF.out (by omega) hu
    clear HC HF hu h
    generalize (Do.there cs).length = m at *
    go_wp2_with fail
    refine HT.out.mono ?_
    rintro e w2 ⟨rfl, hw2⟩; rw [hw2]; clear hw2 HT
    have hkm : (k : Int) < (m : Int) := by omega
    by_cases h1 : fr < 0
    · have HP : Hid (fr < 0 ∨ to < fr ∨ (c.doc.size : Int) < to) := .inl h1
      go_wp2_with fail
      go_ret2
      exact ⟨by first | rfl | (rw [if_pos HP.out]; rfl), hb1⟩
    · by_cases h2 : to < fr
      · have HP : Hid (fr < 0 ∨ to < fr ∨ (c.doc.size : Int) < to) := .inr (.inl h2)
        go_wp2_with fail
        go_ret2
        exact ⟨by first | rfl | (rw [if_pos HP.out]; rfl), hb1⟩
      · by_cases h3 : (c.doc.size : Int) < to
        · have HP : Hid (fr < 0 ∨ to < fr ∨ (c.doc.size : Int) < to) := .inr (.inr h3)
          go_wp2_with fail
          go_ret2
          exact ⟨by first | rfl | (rw [if_pos HP.out]; rfl), hb1⟩
        · have HP : Hid (¬ (fr < 0 ∨ to < fr ∨ (c.doc.size : Int) < to)) := by show ¬ _; omega
          obtain ⟨f, rfl⟩ := Int.eq_ofNat_of_zero_le (show 0 ≤ fr by omega)
          obtain ⟨t, rfl⟩ := Int.eq_ofNat_of_zero_le (show 0 ≤ to by omega)
          have hft : f ≤ t := by omega
          have htd : t ≤ c.doc.size := by omega
          clear h1 h2 h3
          go_wp2_with fail
          go_ret2
          exact ⟨by first | rfl | (rw [if_neg HP.out]; rfl), hb1⟩

end Go.Proofs.Ythkndfkkgncjfab

namespace Go.Proofs.Ythkndfkkgncjfab.Fo

/-- does the suffix at i begin with the pattern? -/
def pre (t p : List UInt8) (i : Nat) : Bool := decide ((t.drop i).take p.length = p)
/-- how many suffixes do -/
def begun (t p : List UInt8) : Nat := cnt (pre t p) (t.length + 1)

theorem pre_short (t p : List UInt8) (i : Nat) (h : t.length < i + p.length) : pre t p i = false ∨ p = [] := by
  by_cases e : p = []
  · exact .inr e
  · left
    unfold pre
    rw [decide_eq_false_iff_not]
    intro h2
    have := congrArg List.length h2
    simp at this
    have hp : 0 < p.length := by cases p with | nil => exact absurd rfl e | cons => simp
    omega
theorem cnt_false (p : Nat → Bool) (k : Nat) : ∀ d, (∀ i, k ≤ i → i < k + d → p i = false) → cnt p (k + d) = cnt p k
  | 0, _ => rfl
  | d + 1, h => by
      show cnt p (k + d) + (if p (k + d) then 1 else 0) = _
      rw [cnt_false p k d (fun i h1 h2 => h i h1 (by omega)), h (k + d) (by omega) (by omega)]; rfl
theorem begun_short (t p : List UInt8) (h : t.length < p.length) : begun t p = 0 := by
  unfold begun
  have := cnt_false (pre t p) 0 (t.length + 1) (fun i _ hi => by
    rcases pre_short t p i (by omega) with h1 | h1
    · exact h1
    · rw [h1] at h; simp at h)
  simpa [cnt] using this
theorem begun_long (t p : List UInt8) (h : p.length ≤ t.length) : begun t p = cnt (pre t p) (t.length - p.length + 1) := by
  unfold begun
  have := cnt_false (pre t p) (t.length - p.length + 1) p.length (fun i h1 hh => by
    rcases pre_short t p i (by omega) with h2 | h2
    · exact h2
    · have : p.length = 0 := by rw [h2]; rfl
      omega)
  rwa [show t.length - p.length + 1 + p.length = t.length + 1 by omega] at this

/-! a text and a pattern: the one goes ahead, or begins with it, or goes behind -/
theorem lt_pre : ∀ (a p : List UInt8), a.take p.length = p → Op.bytesLess a p = false
  | _, [], _ => by cases ‹List UInt8› <;> rfl
  | [], y :: p, h => by simp at h
  | x :: a, y :: p, h => by
      simp only [List.length_cons, List.take_succ_cons, List.cons.injEq] at h
      obtain ⟨rfl, h⟩ := h
      simp [Op.bytesLess, lt_pre a p h, UInt8.lt_irrefl]
theorem part3 : ∀ (a p : List UInt8), Op.bytesLess a p = true ∨ a.take p.length = p ∨ (Op.bytesLess p a = true ∧ a.take p.length ≠ p)
  | _, [] => .inr (.inl (by simp))
  | [], _ :: _ => .inl rfl
  | x :: a, y :: p => by
      simp only [Op.bytesLess, Bool.or_eq_true, Bool.and_eq_true, decide_eq_true_eq, beq_iff_eq, List.length_cons, List.take_succ_cons, List.cons.injEq, ne_eq]
      rcases Nat.lt_trichotomy x.toNat y.toNat with h | h | h
      · left; left; exact UInt8.lt_iff_toNat_lt.2 h
      · have e : x = y := UInt8.toNat_inj.1 h
        subst e
        rcases part3 a p with h1 | h1 | h1
        · left; right; exact ⟨rfl, h1⟩
        · right; left; exact ⟨rfl, h1⟩
        · right; right
          exact ⟨.inr ⟨rfl, h1.1⟩, fun h2 => h1.2 h2.2⟩
      · right; right
        exact ⟨.inl (UInt8.lt_iff_toNat_lt.2 h), fun h2 => by rw [h2.1] at h; omega⟩
/-- what goes behind a pattern without beginning with it goes behind all that begin with it -/
theorem lt_behind : ∀ (a b p : List UInt8), a.take p.length = p → Op.bytesLess p b = true → b.take p.length ≠ p → Op.bytesLess a b = true
  | _, _, [], _, _, h => by simp at h
  | [], _, _ :: _, h, _, _ => by simp at h
  | _ :: _, [], _ :: _, _, h, _ => by simp [Op.bytesLess] at h
  | x :: a, y :: b, z :: p, h1, h2, h3 => by
      simp only [List.length_cons, List.take_succ_cons, List.cons.injEq, ne_eq] at h1 h3
      obtain ⟨rfl, h1⟩ := h1
      simp only [Op.bytesLess, Bool.or_eq_true, Bool.and_eq_true, decide_eq_true_eq, beq_iff_eq] at *
      rcases h2 with h2 | ⟨rfl, h2⟩
      · left; exact h2
      · right; exact ⟨rfl, lt_behind a b p h1 h2 (fun h => h3 ⟨rfl, h⟩)⟩

section
variable (t p : List UInt8)

theorem ahead_rows : cnt (fun r => Op.bytesLess (t.drop (off t r)) p) (t.length + 1) = ahead t p :=
  cnt_perm (t.length + 1) (off t) (fun i => Op.bytesLess (t.drop i) p) (fun r _ => by have := off_le t r; omega) (fun r q hr hq => off_inj t r q (by omega) (by omega))
theorem begun_rows : cnt (fun r => pre t p (off t r)) (t.length + 1) = begun t p :=
  cnt_perm (t.length + 1) (off t) (pre t p) (fun r _ => by have := off_le t r; omega) (fun r q hr hq => off_inj t r q (by omega) (by omega))

/-- the rows ahead of the pattern are the first ones -/
theorem row_ahead (r : Nat) (hr : r ≤ t.length) : Op.bytesLess (t.drop (off t r)) p = true ↔ r < ahead t p := by
  have h := cnt_run (fun r => Op.bytesLess (t.drop (off t r)) p) (t.length + 1) (fun i j hij hj hq => lt_trans _ _ _ (off_rises t i j (by omega) hij) hq) r (by omega)
  rw [ahead_rows] at h
  exact h
theorem row_upto (r : Nat) (hr : r ≤ t.length) : (Op.bytesLess (t.drop (off t r)) p || pre t p (off t r)) = true ↔ r < ahead t p + begun t p := by
  have h := cnt_run (fun r => Op.bytesLess (t.drop (off t r)) p || pre t p (off t r)) (t.length + 1) (fun i j hij hj hq => ?_) r (by omega)
  · rw [cnt_or (fun r => Op.bytesLess (t.drop (off t r)) p) (fun r => pre t p (off t r)) _ (fun _ => rfl) (fun i hi => ?_), ahead_rows, begun_rows] at h
    · exact h
    · unfold pre
      rw [decide_eq_false_iff_not]
      intro h2
      rw [lt_pre _ _ h2] at hi; cases hi
  · simp only [Bool.or_eq_true] at *
    have hr1 := off_rises t i j (by omega) hij
    rcases hq with hq | hq
    · left; exact lt_trans _ _ _ hr1 hq
    · rcases part3 (t.drop (off t i)) p with h1 | h1 | h1
      · left; exact h1
      · right; unfold pre; rw [decide_eq_true_eq]; exact h1
      · unfold pre at hq
        rw [decide_eq_true_eq] at hq
        have := lt_behind _ _ _ hq h1.1 h1.2
        rw [lt_asymm _ _ this] at hr1; cases hr1
theorem rows_le : ahead t p + begun t p ≤ t.length + 1 := by
  rw [← ahead_rows, ← begun_rows, ← cnt_or (fun r => Op.bytesLess (t.drop (off t r)) p) (fun r => pre t p (off t r)) (fun r => Op.bytesLess (t.drop (off t r)) p || pre t p (off t r)) (fun _ => rfl) (fun i hi => ?_)]
  · exact cnt_le _ _
  · unfold pre
    rw [decide_eq_false_iff_not]
    intro h2
    rw [lt_pre _ _ h2] at hi; cases hi
end

end Go.Proofs.Ythkndfkkgncjfab.Fo

namespace Go.Proofs.Ythkndfkkgncjfab.Do

/-- an occurrence -/
structure Oc where
  id : Nat
  at' : Nat

/-- of one document, its first k offsets having been looked at -/
def hitsIn (c : Chg) (p : List UInt8) : Nat → List Oc
  | 0 => []
  | k + 1 => hitsIn c p k ++ (if Fo.pre c.doc.data.toList p k then [⟨c.id, k⟩] else [])
/-- of the first j documents -/
def hitsTo (cs : List Chg) (p : List UInt8) : Nat → List Oc
  | 0 => []
  | j + 1 => hitsTo cs p j ++ (match cs[j]? with | none => [] | some c => hitsIn c p c.doc.size)
def hits (cs : List Chg) (p : List UInt8) : List Oc := hitsTo cs p cs.length

theorem hitsIn_hit (c : Chg) (p : List UInt8) (k : Nat) (h : Fo.pre c.doc.data.toList p k = true) : hitsIn c p (k + 1) = hitsIn c p k ++ [⟨c.id, k⟩] := by rw [hitsIn, if_pos h]
theorem hitsIn_miss (c : Chg) (p : List UInt8) (k : Nat) (h : Fo.pre c.doc.data.toList p k = false) : hitsIn c p (k + 1) = hitsIn c p k := by rw [hitsIn, h]; simp
theorem hitsTo_succ (cs : List Chg) (p : List UInt8) (j : Nat) (c : Chg) (h : cs[j]? = some c) : hitsTo cs p (j + 1) = hitsTo cs p j ++ hitsIn c p c.doc.size := by rw [hitsTo, h]
theorem hitsIn_len (c : Chg) (p : List UInt8) : ∀ k, (hitsIn c p k).length ≤ k
  | 0 => Nat.le_refl _
  | k + 1 => by
      have := hitsIn_len c p k
      rw [hitsIn, List.length_append]
      split <;> simp <;> omega
theorem hitsTo_len (cs : List Chg) (p : List UInt8) (h : ∀ c ∈ cs, c.doc.size ≤ 40) : ∀ j, (hitsTo cs p j).length ≤ 40 * j
  | 0 => Nat.le_refl _
  | j + 1 => by
      have := hitsTo_len cs p h j
      rw [hitsTo, List.length_append]
      cases hc : cs[j]? with
      | none => simp; omega
      | some c =>
        have h1 := hitsIn_len c p c.doc.size
        have h2 := h c (List.mem_of_getElem? hc)
        simp only
        omega

/-- does an occurrence stand ahead of a place? -/
def before (o : Oc) (id at' : Int) : Bool := decide ((o.id : Int) < id) || ((o.id : Int) == id && decide ((o.at' : Int) < at'))
/-- a page, and whether there are more: the first k having been looked at -/
def pageTo (l : List Oc) (id at' : Int) (m : Nat) : Nat → List Oc × Bool
  | 0 => ([], false)
  | k + 1 => match l[k]? with
    | none => pageTo l id at' m k
    | some o => if before o id at' then pageTo l id at' m k else if (pageTo l id at' m k).1.length = m then ((pageTo l id at' m k).1, true) else ((pageTo l id at' m k).1 ++ [o], (pageTo l id at' m k).2)
def page (l : List Oc) (id at' : Int) (m : Nat) : List Oc × Bool := pageTo l id at' m l.length
theorem pageTo_skip (l : List Oc) (id at' : Int) (m k : Nat) (o : Oc) (h : l[k]? = some o) (hb : before o id at' = true) : pageTo l id at' m (k + 1) = pageTo l id at' m k := by rw [pageTo, h]; simp only; rw [if_pos hb]
theorem pageTo_more (l : List Oc) (id at' : Int) (m k : Nat) (o : Oc) (h : l[k]? = some o) (hb : before o id at' = false) (hm : (pageTo l id at' m k).1.length = m) : pageTo l id at' m (k + 1) = ((pageTo l id at' m k).1, true) := by rw [pageTo, h]; simp only; rw [if_neg (by rw [hb]; simp), if_pos hm]
theorem pageTo_put (l : List Oc) (id at' : Int) (m k : Nat) (o : Oc) (h : l[k]? = some o) (hb : before o id at' = false) (hm : ¬ (pageTo l id at' m k).1.length = m) : pageTo l id at' m (k + 1) = ((pageTo l id at' m k).1 ++ [o], (pageTo l id at' m k).2) := by rw [pageTo, h]; simp only; rw [if_neg (by rw [hb]; simp), if_neg hm]
theorem pageTo_len (l : List Oc) (id at' : Int) (m : Nat) : ∀ k, (pageTo l id at' m k).1.length ≤ m
  | 0 => Nat.zero_le _
  | k + 1 => by
      have ih := pageTo_len l id at' m k
      rw [pageTo]
      cases l[k]? with
      | none => exact ih
      | some o =>
        simp only
        split
        · exact ih
        · split
          · exact ih
          · simp; omega

end Go.Proofs.Ythkndfkkgncjfab.Do

namespace Go.Proofs.Ythkndfkkgncjfab
open Go.RowKit
set_option maxRecDepth 100000

/-- what the document's own way comes to -/
def rRes (s : ByteArray) (r : Nat) (T X : List UInt8) (q : Nat) : Value := if X = s.data.toList ∧ q = r then .tuple #[S T, .int .i64 0] else .tuple #[S [], .int .i64 8]
theorem rRes_yes {s : ByteArray} {r : Nat} {T X : List UInt8} {q : Nat} (h1 : X = s.toList) (h2 : ((q : Int) != (r : Int)) = false) : rRes s r T X q = .tuple #[S T, .int .i64 0] := by
  rw [ByteArray.toList_eq] at h1
  rw [bne_eq_false_iff_eq] at h2
  unfold rRes; rw [if_pos ⟨h1, by omega⟩]
theorem rRes_row {s : ByteArray} {r : Nat} {T X : List UInt8} {q : Nat} (h2 : ((q : Int) != (r : Int)) = true) : rRes s r T X q = .tuple #[S [], .int .i64 8] := by
  rw [bne_iff_ne] at h2
  unfold rRes; rw [if_neg (fun h => h2 (by omega))]
theorem rRes_bytes {s : ByteArray} {r : Nat} {T X : List UInt8} {q : Nat} (h1 : ¬ X = s.toList) : rRes s r T X q = .tuple #[S [], .int .i64 8] := by
  rw [ByteArray.toList_eq] at h1
  unfold rRes; rw [if_neg (fun h => h1 h.1)]

theorem rturn_T (T X : List UInt8) (q : Nat) (w : World) (h : T.length ≤ 120) (hX : Fo.turn T = (X, q)) :
    Calls Try.prog 78 #[.string ⟨T.toArray⟩] w fun e w' => e = .returned (.tuple #[.string ⟨X.toArray⟩, .int .i64 (q : Int)]) ∧ Below w.heap.size w w' := by
  have := ref_turn_any ⟨T.toArray⟩ w (by show T.length ≤ 1000000; omega)
  rw [show (⟨T.toArray⟩ : ByteArray).data.toList = T from rfl, hX] at this
  exact this

set_option maxRecDepth 100000 in
set_option maxHeartbeats 400000 in
theorem rUnturn_in (s : ByteArray) (r : Nat) (T : List UInt8) (w : World) (hs : s.size ≤ 120) (hr : r ≤ s.size) (hT : (Fo.fw s.data.toList r s.size).2 = T) (hTl : T.length ≤ 120)
    (X : List UInt8) (q : Nat) (hX : Fo.turn T = (X, q)) :
    Calls Try.prog 52 #[.string s, .int .i64 (r : Int)] w fun e w' => e = .returned (rRes s r T X q) ∧ Below w.heap.size w w' := by
  have HX : Hid (Fo.turn T = (X, q)) := hX
  clear hX
  obtain ⟨i0, hi, hz0, hz1, hz2⟩ := info_parts Try.info5
  have hr0 : decide ((r : Int) < 0) = false := by simp
  have h120 : decide ((120 : Int) < (s.size : Int)) = false := by simp; omega
  have HT : Hid ((Fo.fw s.data.toList r s.size).2 = T) := hT
  clear hT
  go_enter Try.func52, Try.ntmps52
  go_wp2_with fail
  refine (firsts_any s _ (by omega)).mono ?_
  rintro e w1 ⟨f, F, rfl, hF, hIF, hf1, hb1⟩
  rcases Nat.eq_zero_or_pos s.size with h0 | h0
  · have hT0 : T = [] := by rw [← HT.out, h0]; rfl
    have hn0 : OwnU w1 w.heap.size (.slice none 0 0) [] := World.ownsRow_nil _ _ _ _
    have hst := hn0.string
    clear hn0
    subst hT0
    clear HT
    have hc0 : decide ((0 : Int) < (s.size : Int)) = false := by rw [decide_eq_false_iff_not]; omega
    go_wp2_with fail
    refine wp_loop_rounds 1 ?_
    rw [rounds_succ]
    go_wp2_with fail
    refine (rturn_T [] X q _ hTl HX.out).mono ?_
    rintro e w3 ⟨rfl, hb3⟩
    have hz3 := hb1.size
    go_wp2_with fail
    · go_ret2
      exact ⟨by rw [rRes_row (by assumption)]; rfl, hb1.trans (hb3.mono (by omega))⟩
    · go_ret2
      exact ⟨by rw [rRes_yes (by assumption) (by assumption)]; rfl, hb1.trans (hb3.mono (by omega))⟩
    · go_ret2
      exact ⟨by rw [rRes_bytes (by assumption)]; rfl, hb1.trans (hb3.mono (by omega))⟩
  · obtain ⟨g, cap, hfv, _, _⟩ := World.ownsRow.form hf1 (by omega)
    rw [hF] at hfv
    rw [hfv]
    rw [hfv] at hf1
    clear hfv f
    have hzb := hb1.size
    go_wp2_with fail
    go_loopw [7, 8, 9] (fun v a i wr => ∃ j : Nat, j ≤ s.size ∧ i = .int .i64 j ∧ a = .int .i64 ((Fo.fw s.data.toList r j).1 : Nat) ∧ OwnU wr w.heap.size v (Fo.fw s.data.toList r j).2 ∧ OwnV wr w.heap.size (.slice (some ⟨g, 0, none⟩) s.size cap) F ∧ Below w.heap.size w wr) (fun _ _ i _ => s.size - (intOf i).toNat)
    case atStart => exact ⟨0, Nat.zero_le _, rfl, rfl, World.ownsRow_nil _ _ _ _, hf1, hb1⟩
    case round =>
      obtain ⟨j, hj, rfl, rfl, hu, hf, hb⟩ := hrel
      clear hf1 hb1
      have hle := Fo.fw_le s.data.toList r hr j
      have hln := Fo.fw_len s.data.toList r j
      rw [size_len] at hle
      by_cases hjn : j < s.size
      · obtain ⟨a, ha⟩ : ∃ a, (Fo.fw s.data.toList r j).1 = a := ⟨_, rfl⟩
        rw [ha] at hle
        rw [ha]
        have HA : Hid ((Fo.fw s.data.toList r j).1 = a) := ha
        clear ha
        cases a with
        | zero =>
          have hE : (Fo.fw s.data.toList r j).2 = T := by rw [← fw_zero _ r j HA.out hj]; exact HT.out
          rw [hE] at hu
          have hst := hu.string
          clear hE HA HT
          go_wp2_with fail
          refine (rturn_T T X q _ hTl HX.out).mono ?_
          rintro e w3 ⟨rfl, hb3⟩
          have hz3 := hb.size
          go_wp2_with fail
          · go_ret2
            exact ⟨by rw [rRes_row (by assumption)]; rfl, hb.trans (hb3.mono (by omega))⟩
          · go_ret2
            exact ⟨by rw [rRes_yes (by assumption) (by assumption)]; rfl, hb.trans (hb3.mono (by omega))⟩
          · go_ret2
            exact ⟨by rw [rRes_bytes (by assumption)]; rfl, hb.trans (hb3.mono (by omega))⟩
        | succ a =>
          have hga := hf.cell hF a (by omega)
          obtain ⟨k, hk⟩ : ∃ k, F.getD a 0 = k := ⟨_, rfl⟩
          have hkl : k < s.size := by rw [← hk, ← hIF.get a]; exact Fo.firsts_lt s.data.toList a (by rw [size_len]; omega)
          have HG : Hid (Fo.fw s.data.toList r (j + 1) = (Fo.seat r k, (Fo.fw s.data.toList r j).2 ++ [s[k]])) := by
            have h := fw_go s.data.toList F hIF r j a k HA.out hk
            rw [getD_byte s k hkl] at h; exact h
          rw [hk] at hga
          clear hk HA
          have e1 : ((a + 1 : Nat) : Int) = (a : Int) + 1 := by omega
          rw [e1]
          clear e1
          have hp1 : (0 : Int) < (a : Int) + 1 := by omega
          by_cases hkr : r ≤ k
          · go_wp2_with (at_builtin; refine wpList_append_own _ rfl _ _ 143 rfl w.heap.size 5 i0 (.int .u8 0) 1 1 Try.underlying143 hi hz0 hz1 hz2 rfl (by decide) _ _ _ rfl (World.ownsRow.alloc hu _) ⟨wr.heap.size, 0, none⟩ 1 1 [.int .u8 (s[k].toNat : Int)] rfl rfl (cell_one_new _ _ _) (by intro u hu2; simp at hu2; subst hu2; rfl) (by unfold maxLen; omega) (by omega) (by have := hb.size; simp; omega) ?_; intro v' w3 hown3 hgrow3 _)
            have R := fw_step hf hu hb hb.size hown3 hgrow3
            clear hown3 hgrow3 hu hb hf
            go_wp2
            go_roundw
            case rel => exact ⟨j + 1, by omega, by go_num, by rw [HG.out]; unfold Fo.seat; rw [if_neg (by omega)]; go_num, by rw [HG.out]; exact R.2.1, R.1, R.2.2⟩
            case measure => simp [intOf]; omega
          · go_wp2_with (at_builtin; refine wpList_append_own _ rfl _ _ 143 rfl w.heap.size 5 i0 (.int .u8 0) 1 1 Try.underlying143 hi hz0 hz1 hz2 rfl (by decide) _ _ _ rfl (World.ownsRow.alloc hu _) ⟨wr.heap.size, 0, none⟩ 1 1 [.int .u8 (s[k].toNat : Int)] rfl rfl (cell_one_new _ _ _) (by intro u hu2; simp at hu2; subst hu2; rfl) (by unfold maxLen; omega) (by omega) (by have := hb.size; simp; omega) ?_; intro v' w3 hown3 hgrow3 _)
            have R := fw_step hf hu hb hb.size hown3 hgrow3
            clear hown3 hgrow3 hu hb hf
            go_wp2
            go_roundw
            case rel => exact ⟨j + 1, by omega, by go_num, by rw [HG.out]; unfold Fo.seat; rw [if_pos (by omega)], by rw [HG.out]; exact R.2.1, R.1, R.2.2⟩
            case measure => simp [intOf]; omega
      · have hje : j = s.size := by omega
        subst hje
        rw [HT.out] at hu
        have hst := hu.string
        go_wp2_with fail
        refine (rturn_T T X q _ hTl HX.out).mono ?_
        rintro e w3 ⟨rfl, hb3⟩
        have hz3 := hb.size
        go_wp2_with fail
        · go_ret2
          exact ⟨by rw [rRes_row (by assumption)]; rfl, hb.trans (hb3.mono (by omega))⟩
        · go_ret2
          exact ⟨by rw [rRes_yes (by assumption) (by assumption)]; rfl, hb.trans (hb3.mono (by omega))⟩
        · go_ret2
          exact ⟨by rw [rRes_bytes (by assumption)]; rfl, hb.trans (hb3.mono (by omega))⟩

end Go.Proofs.Ythkndfkkgncjfab

namespace Go.Proofs.Ythkndfkkgncjfab
open Go.RowKit
set_option maxRecDepth 100000

/-- what Unturn answers -/
def uRes (s : ByteArray) (r : Int) : List UInt8 × Int :=
  if 120 < s.size then ([], 2) else if r < 0 ∨ (s.size : Int) < r then ([], 8) else if (unRes s.data.toList r.toNat).2 then ((unRes s.data.toList r.toNat).1, 0) else ([], 8)

theorem unRes_cases (l : List UInt8) (r : Nat) : unRes l r = ([], false) ∨ (∃ T, unRes l r = (T, true)) := by
  unfold unRes
  cases Fo.un l r l.length with
  | none => exact .inl rfl
  | some x => exact .inr ⟨x.2, rfl⟩

theorem Unturn_any (s : ByteArray) (r : Int) (w : World) :
    Calls Try.prog 51 #[.string s, .int .i64 r] w fun e w' => e = .returned (.tuple #[S (uRes s r).1, .int .i64 (uRes s r).2]) ∧ Below w.heap.size w w' := by
  unfold uRes
  by_cases h1 : 120 < s.size
  · rw [if_pos h1]
    exact (Unturn_long s r w h1).mono fun e w' ⟨he, hw⟩ => ⟨he, by rw [hw]; exact Below.refl _ _⟩
  · rw [if_neg h1]
    by_cases h2 : r < 0 ∨ (s.size : Int) < r
    · rw [if_pos h2]
      exact (Unturn_out s r w (by omega) h2).mono fun e w' ⟨he, hw⟩ => ⟨he, by rw [hw]; exact Below.refl _ _⟩
    · rw [if_neg h2]
      obtain ⟨n, rfl⟩ := Int.eq_ofNat_of_zero_le (show 0 ≤ r by omega)
      rw [Int.toNat_natCast]
      rcases unRes_cases s.data.toList n with h3 | ⟨T, h3⟩
      · rw [h3]
        exact Unturn_no s n w (by omega) (by omega) h3
      · rw [h3]
        exact Unturn_yes s n T w (by omega) (by omega) h3

theorem rRes_eq (s : ByteArray) (n : Nat) (T X : List UInt8) (q : Nat) (hn : n ≤ s.size) (hT : (Fo.fw s.data.toList n s.size).2 = T) (hX : Fo.turn T = (X, q)) :
    rRes s n T X q = .tuple #[S (if (unRes s.data.toList n).2 then ((unRes s.data.toList n).1, (0 : Int)) else ([], 8)).1, .int .i64 (if (unRes s.data.toList n).2 then ((unRes s.data.toList n).1, (0 : Int)) else ([], 8)).2] := by
  by_cases hok : ∀ j, j < s.data.toList.length → Fo.pos s.data.toList n j ≠ n
  · have h1 := unRes_all s.data.toList n hok
    have h2 := Fo.turn_text s.data.toList n hn hok
    have h3 := Fo.fw_of_turn s.data.toList n _ h2
    rw [size_len, hT] at h3
    rw [h1, if_pos rfl]
    rw [← h3, hX] at h2
    simp only [Prod.mk.injEq] at h2
    unfold rRes
    rw [if_pos h2, h3]
  · have hno : unRes s.data.toList n = ([], false) := by
      rcases unRes_cases s.data.toList n with h3 | ⟨Tb, h3⟩
      · exact h3
      · exfalso
        apply hok
        unfold unRes at h3
        cases hu : Fo.un s.data.toList n s.data.toList.length with
        | none => rw [hu] at h3; simp at h3
        | some x => exact (Fo.un_some _ _ _ _ hu).1
    rw [hno]
    unfold rRes
    rw [if_neg (fun h => ?_)]
    · rfl
    · obtain ⟨rfl, rfl⟩ := h
      have := Fo.un_of_turn _ _ T hX
      unfold unRes at hno
      rw [this] at hno
      simp at hno

theorem rUnturn_any (s : ByteArray) (r : Int) (w : World) :
    Calls Try.prog 52 #[.string s, .int .i64 r] w fun e w' => e = .returned (.tuple #[S (uRes s r).1, .int .i64 (uRes s r).2]) ∧ Below w.heap.size w w' := by
  unfold uRes
  by_cases h1 : 120 < s.size
  · rw [if_pos h1]
    exact (rUnturn_long s r w h1).mono fun e w' ⟨he, hw⟩ => ⟨he, by rw [hw]; exact Below.refl _ _⟩
  · rw [if_neg h1]
    by_cases h2 : r < 0 ∨ (s.size : Int) < r
    · rw [if_pos h2]
      exact (rUnturn_out s r w (by omega) h2).mono fun e w' ⟨he, hw⟩ => ⟨he, by rw [hw]; exact Below.refl _ _⟩
    · rw [if_neg h2]
      obtain ⟨n, rfl⟩ := Int.eq_ofNat_of_zero_le (show 0 ≤ r by omega)
      rw [Int.toNat_natCast]
      have hl := Fo.fw_len s.data.toList n s.size
      rw [← rRes_eq s n _ _ _ (by omega) rfl rfl]
      exact rUnturn_in s n _ w (by omega) (by omega) rfl (by omega) _ _ rfl

theorem take_data (s : ByteArray) (k m : Nat) : (s.extract k (k + m)).toList = (s.data.toList.drop k).take m := by
  rw [ByteArray.toList_eq, Lib.extract_data, Nat.add_sub_cancel_left]
theorem pre_at (s b : ByteArray) (k : Nat) : Fo.pre s.data.toList b.data.toList k = ((s.extract k (k + b.size)).toList == b.toList) := by
  rw [take_data, ByteArray.toList_eq, Bool.eq_iff_iff]
  unfold Fo.pre
  rw [decide_eq_true_eq, beq_iff_eq, size_len]
theorem begTo_succ (t p : List UInt8) (k : Nat) : Fo.cnt (Fo.pre t p) (k + 1) = Fo.cnt (Fo.pre t p) k + (if Fo.pre t p k then 1 else 0) := rfl

set_option maxHeartbeats 400000 in
theorem stands_any (s b : ByteArray) (k : Nat) (w : World) (hs : s.size ≤ 1000000) (hk : k ≤ s.size) (hb : b.size ≤ 9223372036854775807) :
    Calls Try.prog 69 #[.string s, .string b, .int .i64 (k : Int)] w fun e w' => e = .returned (.bool (Fo.pre s.data.toList b.data.toList k)) ∧ w' = w := by
  have hk0 : decide ((k : Int) < 0) = false := by rw [decide_eq_false_iff_not]; omega
  by_cases hlen : s.size < k + b.size
  · have HB : Hid (Fo.pre s.data.toList b.data.toList k = false) := by
      rcases Fo.pre_short s.data.toList b.data.toList k (by rw [size_len, size_len]; exact hlen) with h | h
      · exact h
      · have : b.size = 0 := by rw [← size_len, h]; rfl
        omega
    have hd : decide ((s.size : Int) - (b.size : Int) < (k : Int)) = true := by rw [decide_eq_true_eq]; omega
    go_enter Try.func69, Try.ntmps69
    go_wp2
    go_ret
    exact ⟨by rw [HB.out]; rfl, rfl⟩
  · have HB : Hid (Fo.pre s.data.toList b.data.toList k = ((s.extract k (k + b.size)).toList == b.toList)) := pre_at s b k
    have hd : decide ((s.size : Int) - (b.size : Int) < (k : Int)) = false := by rw [decide_eq_false_iff_not]; omega
    go_enter Try.func69, Try.ntmps69
    go_wp2
    go_ret
    exact ⟨by rw [HB.out]; rfl, rfl⟩
theorem stands_at (s b : ByteArray) (k : Nat) (q : Bool) (h : Fo.pre s.data.toList b.data.toList k = q) (w : World) (hs : s.size ≤ 1000000) (hk : k ≤ s.size) (hb : b.size ≤ 9223372036854775807) :
    Calls Try.prog 69 #[.string s, .string b, .int .i64 (k : Int)] w fun e w' => e = .returned (.bool q) ∧ w' = w := by
  rw [← h]; exact stands_any s b k w hs hk hb

set_option maxHeartbeats 400000 in
theorem begun_any (s b : ByteArray) (w : World) (hs : s.size ≤ 1000000) (hb : b.size ≤ 9223372036854775807) :
    Calls Try.prog 101 #[.string s, .string b] w fun e w' => e = .returned (.int .i64 (Fo.begun s.data.toList b.data.toList : Nat)) ∧ w' = w := by
  have HB : Hid (Fo.begun s.data.toList b.data.toList = Fo.cnt (Fo.pre s.data.toList b.data.toList) (s.size + 1)) := by
    show Fo.cnt _ (s.data.toList.length + 1) = _
    rw [size_len]
  go_enter Try.func101, Try.ntmps101
  go_wp2
  go_loop [5, 6] (fun n i => ∃ k : Nat, k ≤ s.size + 1 ∧ i = .int .i64 k ∧ n = .int .i64 (Fo.cnt (Fo.pre s.data.toList b.data.toList) k : Nat)) (fun _ i => s.size + 1 - (intOf i).toNat)
  case atStart => exact ⟨0, Nat.zero_le _, rfl, rfl⟩
  case round =>
    obtain ⟨k, hk, rfl, rfl⟩ := hrel
    have hc := Fo.cnt_le (Fo.pre s.data.toList b.data.toList) k
    by_cases hlt : k ≤ s.size
    · have HS : Hid (Fo.cnt (Fo.pre s.data.toList b.data.toList) (k + 1) = Fo.cnt (Fo.pre s.data.toList b.data.toList) k + (if Fo.pre s.data.toList b.data.toList k then 1 else 0)) := begTo_succ s.data.toList b.data.toList k
      obtain ⟨q, hq⟩ : ∃ q, Fo.pre s.data.toList b.data.toList k = q := ⟨_, rfl⟩
      have HQ : Hid (Fo.pre s.data.toList b.data.toList k = q) := hq
      clear hq
      have hdk : decide ((k : Int) ≤ (s.size : Int)) = true := by rw [decide_eq_true_eq]; omega
      cases q
      all_goals
        go_wp2_with fail
        refine (stands_at s b k _ HQ.out _ hs hlt hb).mono ?_
        rintro e w1 ⟨rfl, hw1⟩; rw [hw1]; clear hw1
        go_wp2_with fail
        go_round
        case rel => exact ⟨k + 1, by omega, by go_num, by rw [HS.out, HQ.out]; simp⟩
        case measure => simp [intOf]; omega
    · go_wp2
      go_ret
      have e : k = s.size + 1 := by omega
      exact ⟨ret_int (by rw [HB.out, e]), rfl⟩

set_option maxHeartbeats 400000 in
theorem rows_any (s b : ByteArray) (w : World) (hs : s.size ≤ 1000000) (hb : b.size ≤ 9223372036854775807) :
    Calls Try.prog 81 #[.string s, .string b] w fun e w' => e = .returned (.tuple #[.int .i64 (Fo.ahead s.data.toList b.data.toList : Nat), .int .i64 ((Fo.ahead s.data.toList b.data.toList + Fo.begun s.data.toList b.data.toList : Nat) : Int)]) ∧ w' = w := by
  have h1 := Fo.ahead_le s.data.toList b.data.toList
  have h2 := Fo.cnt_le (Fo.pre s.data.toList b.data.toList) (s.data.toList.length + 1)
  rw [size_len] at h1 h2
  have h3 : Fo.begun s.data.toList b.data.toList ≤ s.size + 1 := h2
  clear h2
  go_enter Try.func81, Try.ntmps81
  go_wp2_with (first | (go_at_call 99; refine (ahead_any _ _ _ hs).mono ?_; rintro e w1 ⟨rfl, hw1⟩; rw [hw1]; clear hw1) | (go_at_call 101; refine (begun_any _ _ _ hs hb).mono ?_; rintro e w1 ⟨rfl, hw1⟩; rw [hw1]; clear hw1))
  go_ret2
  exact ⟨by simp, rfl⟩

/-- what Rows answers -/
def rowRes (s : ByteArray) (r : Int) (b : ByteArray) : Int × Int × Int :=
  if (uRes s r).2 = 0 then ((Fo.ahead (uRes s r).1 b.data.toList : Nat), ((Fo.ahead (uRes s r).1 b.data.toList + Fo.begun (uRes s r).1 b.data.toList : Nat) : Int), 0) else (0, 0, (uRes s r).2)

theorem uRes_len (s : ByteArray) (r : Int) : (uRes s r).1.length ≤ 120 := by
  unfold uRes
  by_cases h1 : 120 < s.size
  · rw [if_pos h1]; simp
  · rw [if_neg h1]
    by_cases h2 : r < 0 ∨ (s.size : Int) < r
    · rw [if_pos h2]; simp
    · rw [if_neg h2]
      unfold unRes
      cases hu : Fo.un s.data.toList r.toNat s.data.toList.length with
      | none => simp
      | some x =>
        have := (Fo.un_some _ _ _ _ hu).2
        simp only [if_true]
        rw [this]
        show (Fo.bytesTo _ _ _).length ≤ 120
        rw [Fo.bytesTo_len, size_len]; omega

set_option maxHeartbeats 1000000 in
theorem Rows_any (s b : ByteArray) (r : Int) (w : World) (hb : b.size ≤ 9223372036854775807) :
    Calls Try.prog 53 #[.string s, .int .i64 r, .string b] w fun e w' => e = .returned (.tuple #[.int .i64 (rowRes s r b).1, .int .i64 (rowRes s r b).2.1, .int .i64 (rowRes s r b).2.2]) ∧ Below w.heap.size w w' := by
  have hun := Unturn_any s r w
  have hlen := uRes_len s r
  unfold rowRes
  generalize (uRes s r).1 = T at *
  generalize (uRes s r).2 = q at *
  by_cases hq : q = 0
  · subst hq
    rw [if_pos rfl]
    have HU : Hid (Calls Try.prog 51 #[.string s, .int .i64 r] w fun e w' => e = .returned (.tuple #[S T, .int .i64 0]) ∧ Below w.heap.size w w') := hun
    clear hun
    go_enter Try.func53, Try.ntmps53
    go_wp2_with fail
    refine HU.out.mono ?_
    rintro e w1 ⟨rfl, hb1⟩
    unfold S
    go_wp2_with fail
    refine (rows_any ⟨T.toArray⟩ b _ (by show T.length ≤ 1000000; omega) hb).mono ?_
    rintro e w2 ⟨rfl, hw2⟩; rw [hw2]; clear hw2
    go_wp2_with fail
    go_ret3
    exact ⟨rfl, hb1⟩
  · rw [if_neg hq]
    have HU : Hid (Calls Try.prog 51 #[.string s, .int .i64 r] w fun e w' => e = .returned (.tuple #[S T, .int .i64 q]) ∧ Below w.heap.size w w') := hun
    clear hun
    have hq1 : (q != 0) = true := by rw [bne_iff_ne]; exact hq
    clear hq
    go_enter Try.func53, Try.ntmps53
    go_wp2_with fail
    refine HU.out.mono ?_
    rintro e w1 ⟨rfl, hb1⟩
    unfold S
    go_wp2_with fail
    go_ret3
    exact ⟨rfl, hb1⟩

set_option maxHeartbeats 400000 in
theorem begins_any (a b : ByteArray) (w : World) (ha : a.size ≤ 9223372036854775807) (_hb : b.size ≤ 9223372036854775807) :
    Calls Try.prog 82 #[.string a, .string b] w fun e w' => e = .returned (.bool (Fo.pre a.data.toList b.data.toList 0)) ∧ w' = w := by
  have hp := pre_at a b 0
  rw [Nat.zero_add] at hp
  by_cases h : b.size ≤ a.size
  · have HP : Hid (Fo.pre a.data.toList b.data.toList 0 = ((a.extract 0 b.size).toList == b.toList)) := hp
    clear hp
    go_enter Try.func82, Try.ntmps82
    go_wp2
    go_ret
    exact ⟨ret_bool (by rw [HP.out]), rfl⟩
  · have HP : Hid (Fo.pre a.data.toList b.data.toList 0 = false) := by
      rcases Fo.pre_short a.data.toList b.data.toList 0 (by rw [size_len, size_len]; omega) with h1 | h1
      · exact h1
      · have : b.data.toList.length = 0 := by rw [h1]; rfl
        rw [size_len] at this; omega
    clear hp
    go_enter Try.func82, Try.ntmps82
    go_wp2
    go_ret
    exact ⟨ret_bool (by rw [HP.out]), rfl⟩

theorem begins_at (a b : ByteArray) (q : Bool) (h : Fo.pre a.data.toList b.data.toList 0 = q) (w : World) (ha : a.size ≤ 9223372036854775807) (hb : b.size ≤ 9223372036854775807) :
    Calls Try.prog 82 #[.string a, .string b] w fun e w' => e = .returned (.bool q) ∧ w' = w := by
  rw [← h]; exact begins_any a b w ha hb
theorem pre_drop (t p : List UInt8) (k : Nat) : Fo.pre (t.drop k) p 0 = Fo.pre t p k := by unfold Fo.pre; rw [List.drop_zero]
theorem aheadTo_next (t p : List UInt8) (k : Nat) : Fo.aheadTo t p (k + 1) = Fo.aheadTo t p k + (if Op.bytesLess (t.drop k) p then 1 else 0) := rfl

set_option maxHeartbeats 1000000 in
theorem rRows_yes (s t b : ByteArray) (r : Int) (w : World) (hb : b.size ≤ 9223372036854775807) (ht : t.size ≤ 120)
    (hun : Calls Try.prog 52 #[.string s, .int .i64 r] w fun e w' => e = .returned (.tuple #[.string t, .int .i64 0]) ∧ Below w.heap.size w w') :
    Calls Try.prog 54 #[.string s, .int .i64 r, .string b] w fun e w' => e = .returned (.tuple #[.int .i64 (Fo.ahead t.data.toList b.data.toList : Nat), .int .i64 ((Fo.ahead t.data.toList b.data.toList + Fo.begun t.data.toList b.data.toList : Nat) : Int), .int .i64 0]) ∧ Below w.heap.size w w' := by
  have HU : Hid (Calls Try.prog 52 #[.string s, .int .i64 r] w fun e w' => e = .returned (.tuple #[.string t, .int .i64 0]) ∧ Below w.heap.size w w') := hun
  clear hun
  go_enter Try.func54, Try.ntmps54
  go_wp2_with fail
  refine HU.out.mono ?_
  rintro e w1 ⟨rfl, hb1⟩
  clear HU
  go_wp2_with fail
  go_loopw [11, 12, 13] (fun lo n i wr => ∃ k : Nat, k ≤ t.size + 1 ∧ i = .int .i64 k ∧ lo = .int .i64 (Fo.aheadTo t.data.toList b.data.toList k : Nat) ∧ n = .int .i64 (Fo.cnt (Fo.pre t.data.toList b.data.toList) k : Nat) ∧ Below w.heap.size w wr) (fun _ _ i _ => t.size + 1 - (intOf i).toNat)
  case atStart => exact ⟨0, Nat.zero_le _, rfl, rfl, rfl, hb1⟩
  case round =>
    obtain ⟨k, hk, rfl, rfl, rfl, hbw⟩ := hrel
    clear hb1
    have hA : Fo.aheadTo t.data.toList b.data.toList k ≤ k := Fo.cnt_le _ _
    have hC := Fo.cnt_le (Fo.pre t.data.toList b.data.toList) k
    by_cases hlt : k ≤ t.size
    · obtain ⟨q1, hq1⟩ : ∃ q, Fo.pre t.data.toList b.data.toList k = q := ⟨_, rfl⟩
      obtain ⟨q2, hq2⟩ : ∃ q, Op.bytesLess (t.data.toList.drop k) b.data.toList = q := ⟨_, rfl⟩
      have hex : q1 = true → q2 = false := fun h => by
        rw [h] at hq1
        unfold Fo.pre at hq1
        rw [decide_eq_true_eq] at hq1
        rw [← hq2]; exact Fo.lt_pre _ _ hq1
      have H1 : Hid (Fo.pre (t.extract k t.size).data.toList b.data.toList 0 = q1) := by show Fo.pre (t.extract k t.size).data.toList b.data.toList 0 = q1; rw [Lib.extract_to_end, pre_drop]; exact hq1
      have H2 : Hid (Op.bytesLess (t.extract k t.size).data.toList b.data.toList = q2) := by show Op.bytesLess (t.extract k t.size).data.toList b.data.toList = q2; rw [Lib.extract_to_end]; exact hq2
      have H3 : Hid (Fo.aheadTo t.data.toList b.data.toList (k + 1) = Fo.aheadTo t.data.toList b.data.toList k + (if q2 then 1 else 0)) := by have h := aheadTo_next t.data.toList b.data.toList k; rw [hq2] at h; exact h
      have H4 : Hid (Fo.cnt (Fo.pre t.data.toList b.data.toList) (k + 1) = Fo.cnt (Fo.pre t.data.toList b.data.toList) k + (if q1 then 1 else 0)) := by have h := begTo_succ t.data.toList b.data.toList k; rw [hq1] at h; exact h
      clear hq1 hq2
      go_wp2_with fail
      refine (begins_at _ _ q1 H1.out _ (ext_le t k (by omega)) hb).mono ?_
      rintro e w2 ⟨rfl, hw2⟩; rw [hw2]; clear hw2
      go_wp2_with fail
      refine (less_at _ _ q2 H2.out _ (ext_le t k (by omega)) hb).mono ?_
      rintro e w2 ⟨rfl, m, hw2⟩; rw [hw2]; clear hw2
      cases q1 with
      | true =>
        obtain rfl := hex rfl
        clear hex
        go_wp2_with fail
        go_roundw
        case rel => exact ⟨k + 1, by omega, by go_num, by rw [H3.out]; rfl, by rw [H4.out]; rfl, below_drewN hbw _⟩
        case measure => simp [intOf]; omega
      | false =>
        clear hex
        cases q2
        all_goals
          go_wp2_with fail
          go_roundw
          case rel => exact ⟨k + 1, by omega, by go_num, by rw [H3.out]; rfl, by rw [H4.out]; rfl, below_drewN hbw _⟩
          case measure => simp [intOf]; omega
    · go_wp2_with fail
      go_ret3
      have e : k = t.size + 1 := by omega
      subst e
      exact ⟨rfl, hbw⟩

end Go.Proofs.Ythkndfkkgncjfab
