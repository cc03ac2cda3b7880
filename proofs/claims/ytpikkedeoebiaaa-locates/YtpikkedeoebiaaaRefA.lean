/- The document's index in memory; walk: there. -/
import Derived.Test.YtpikkedeoebiaaaWalkI
import Derived.Test.YtpikkedeoebiaaaDocA
import Derived.WalkKit
import Derived.WalkSpells
import Derived.WalkLawsBesides
import Derived.Deep.QuietTactic
import Derived.BigQuiet
import Derived.Deep.AppendLies
namespace Go.Proofs.Ytpikkedeoebiaaa
open Go.RowKit
set_option maxRecDepth 100000

theorem Try.info147 : (Try.prog.info? 147).map (fun i => (i.zero, i.size, i.bytes)) = some (some (.agg #[.bool false, .string ⟨#[]⟩, .int .i64 0]), 3, 32) := by kernel_rfl

/-- a change's cells -/
def CH1 (c : Do.Chg) : List Value := [.bool c.ins, .string c.doc, .int .i64 (c.id : Int)]
def CH (cs : List Do.Chg) : List Value := cs.flatMap CH1
theorem CH_len (cs : List Do.Chg) : (CH cs).length = cs.length * 3 := by
  induction cs with
  | nil => rfl
  | cons c r ih => rw [CH, List.flatMap_cons, List.length_append]; show 3 + (CH r).length = _; rw [ih, List.length_cons]; omega
theorem CH_append (a b : List Do.Chg) : CH (a ++ b) = CH a ++ CH b := by simp [CH]
theorem CH_get (cs : List Do.Chg) (k j : Nat) (c : Do.Chg) (hc : cs[k]? = some c) (hj : j < 3) : (CH cs)[k * 3 + j]? = (CH1 c)[j]? := by
  induction cs generalizing k with
  | nil => simp at hc
  | cons d r ih =>
    cases k with
    | zero =>
      simp at hc; subst hc
      show (CH1 d ++ CH r)[0 * 3 + j]? = _
      rw [Nat.zero_mul, Nat.zero_add, List.getElem?_append_left (by show j < 3; exact hj)]
    | succ k =>
      simp at hc
      show (CH1 d ++ CH r)[(k + 1) * 3 + j]? = _
      rw [List.getElem?_append_right (by show 3 ≤ _; omega), ← ih k hc]
      congr 1
      show (k + 1) * 3 + j - 3 = _; omega

/-- a row of changes -/
def OwnC (w : World) (B : Nat) (v : Value) (cs : List Do.Chg) : Prop := w.ownsRow B 147 3 v cs.length (CH cs)
theorem OwnC.below {w w' : World} {B : Nat} {v : Value} {cs : List Do.Chg} (h : OwnC w B v cs) (hb : Below w.heap.size w w') : OwnC w' B v cs := row_below h hb
theorem OwnC.cell {w : World} {B g cap n : Nat} {cs : List Do.Chg} (h : OwnC w B (.slice (some ⟨g, 0, none⟩) n cap) cs) (hn : cs.length = n) (k : Nat) (c : Do.Chg) (hc : cs[k]? = some c) :
    w.cell? ⟨g, k * 3, none⟩ = some (.bool c.ins) ∧ w.cell? ⟨g, k * 3 + 1, none⟩ = some (.string c.doc) ∧ w.cell? ⟨g, k * 3 + 2, none⟩ = some (.int .i64 (c.id : Int)) := by
  subst hn
  have hk : k < cs.length := by
    rcases Nat.lt_or_ge k cs.length with h | h
    · exact h
    · rw [List.getElem?_eq_none h] at hc; cases hc
  refine ⟨?_, ?_, ?_⟩
  · rw [World.ownsRow.cellAt h (k * 3) (by omega)]
    have := CH_get cs k 0 c hc (by omega)
    simpa [CH1] using this
  · rw [World.ownsRow.cellAt h (k * 3 + 1) (by omega)]
    have := CH_get cs k 1 c hc (by omega)
    simpa [CH1] using this
  · rw [World.ownsRow.cellAt h (k * 3 + 2) (by omega)]
    have := CH_get cs k 2 c hc (by omega)
    simpa [CH1] using this

/-- the document's index, whole: its configuration and its changes -/
def RefAt (w : World) (r : Nat) (a b p : Int) (v : Value) : Prop := w.heap[r]? = some (.cells #[.int .i64 a, .int .i64 b, .int .i64 p, v] 131 (0, 0))
theorem RefAt.lt {w : World} {r : Nat} {a b p : Int} {v : Value} (h : RefAt w r a b p v) : r < w.heap.size := lt_of_block h
theorem RefAt.below {w w' : World} {r : Nat} {a b p : Int} {v : Value} (h : RefAt w r a b p v) (hb : Below w.heap.size w w') : RefAt w' r a b p v := (hb.block r h.lt).trans h
theorem RefAt.c0 {w : World} {r : Nat} {a b p : Int} {v : Value} (h : RefAt w r a b p v) : w.cell? ⟨r, 0, none⟩ = some (.int .i64 a) := by rw [cell_of_row w r 0 _ 131 (0, 0) h]; rfl
theorem RefAt.c2 {w : World} {r : Nat} {a b p : Int} {v : Value} (h : RefAt w r a b p v) : w.cell? ⟨r, 2, none⟩ = some (.int .i64 p) := by rw [cell_of_row w r 2 _ 131 (0, 0) h]; rfl
theorem RefAt.c3 {w : World} {r : Nat} {a b p : Int} {v : Value} (h : RefAt w r a b p v) : w.cell? ⟨r, 3, none⟩ = some v := by rw [cell_of_row w r 3 _ 131 (0, 0) h]; rfl
theorem RefAt.free {w : World} {r : Nat} {a b p : Int} {v : Value} (h : RefAt w r a b p v) (j : Nat) : w.frozen? ⟨r, j, none⟩ = false := frozen_of_row w r j _ 131 h

theorem chg_step {w w1 w0 : World} {B : Nat} {v v' : Value} {m : List Do.Chg} {c : Do.Chg} {o : Obj} (hu : OwnC w B v m) (hbl : Below B w0 w) (hB : B ≤ w.heap.size)
    (h1 : w1.ownsRow B 147 3 v' (m.length + 1) (CH m ++ CH1 c)) (h2 : (w.alloc o).grownBy w1 v.ownBlock) : OwnC w1 B v' (m ++ [c]) ∧ Below B w0 w1 := by
  refine ⟨?_, (hbl.alloc hB o).grown h2 (by simp; omega) (fun k hk => (World.ownsRow.lt hu k hk).1)⟩
  unfold OwnC
  rw [CH_append, List.length_append]
  have : CH [c] = CH1 c := by simp [CH]
  rw [this]; exact h1

set_option maxHeartbeats 1000000 in
theorem there_some (r g n cap : Nat) (a b p : Int) (cs : List Do.Chg) (w : World) (hn : cs.length = n) (hl : n ≤ 2000000000000) (h : RefAt w r a b p (.slice (some ⟨g, 0, none⟩) n cap)) (hc : OwnC w 0 (.slice (some ⟨g, 0, none⟩) n cap) cs) :
    Calls Try.prog 93 #[.pointer (some ⟨r, 0, none⟩)] w fun e w' => ∃ v, e = .returned v ∧ OwnC w' w.heap.size v (Do.there cs) ∧ Below w.heap.size w w' := by
  obtain ⟨i0, hi, hz0, hz1, hz2⟩ := info_parts Try.info147
  have c3 := h.c3
  go_enter Try.func93, Try.ntmps93
  go_wp2
  clear c3
  go_loopw [3, 4] (fun v i wr => ∃ k : Nat, k ≤ n ∧ i = .int .i64 k ∧ OwnC wr w.heap.size v (Do.thereTo cs k) ∧ Below w.heap.size w wr) (fun _ i _ => n - (intOf i).toNat)
  case atStart => exact ⟨0, Nat.zero_le _, rfl, World.ownsRow_nil _ _ _ _, Below.refl _ _⟩
  case round =>
    obtain ⟨k, hk, rfl, hu, hb⟩ := hrel
    have h1 := h.below hb
    have hc1 := hc.below hb
    have c3 := h1.c3
    by_cases hlt : k < n
    · obtain ⟨c, hck⟩ : ∃ c, cs[k]? = some c := ⟨cs[k], List.getElem?_eq_getElem (by omega)⟩
      obtain ⟨x0, x1, x2⟩ := hc1.cell hn k c hck
      obtain ⟨wo, hwo⟩ : ∃ wo, wo = wr := ⟨_, rfl⟩
      subst hwo
      go_wp2
      have y0 := World.news_of_block (heap_alloc_new wo (.cells #[.bool c.ins, .string c.doc, .int .i64 (c.id : Int)] 147))
      have z2 : (wo.alloc (.cells #[.bool c.ins, .string c.doc, .int .i64 (c.id : Int)] 147)).cell? ⟨wo.heap.size, 2, none⟩ = some (.int .i64 (c.id : Int)) := y0 2 _ rfl
      have z0 : (wo.alloc (.cells #[.bool c.ins, .string c.doc, .int .i64 (c.id : Int)] 147)).cell? ⟨wo.heap.size, 0, none⟩ = some (.bool c.ins) := y0 0 _ rfl
      have z1 : (wo.alloc (.cells #[.bool c.ins, .string c.doc, .int .i64 (c.id : Int)] 147)).cell? ⟨wo.heap.size, 1, none⟩ = some (.string c.doc) := y0 1 _ rfl
      have hbo : Below wo.heap.size wo (wo.alloc (.cells #[.bool c.ins, .string c.doc, .int .i64 (c.id : Int)] 147)) := (Below.refl _ _).alloc (Nat.le_refl _) _
      clear y0 x0 x1 x2 c3
      generalize wo.alloc (.cells #[.bool c.ins, .string c.doc, .int .i64 (c.id : Int)] 147) = w1 at *
      have h2 := h1.below hbo
      have hc2 := hc1.below hbo
      have c3 := h2.c3
      have hbs := hb.size
      have hz := hbo.size
      go_loopw [6, 7] (fun q i wr => ∃ j : Nat, k + 1 ≤ j ∧ j ≤ n ∧ i = .int .i64 j ∧ q = .bool (Do.goneTo cs (!c.ins) k c.id j) ∧ ∃ m, wr = w1.drewN m) (fun _ i _ => n - (intOf i).toNat)
      case atStart => exact ⟨k + 1, by omega, by omega, by go_num, by rw [Do.goneTo_start], 0, rfl⟩
      case round =>
        obtain ⟨j, hj1, hj2, rfl, rfl, hw⟩ := hrel
        have HW : Hid (∃ m, wr = w1.drewN m) := hw
        clear hw
        have hsame : ∀ x, wr.cell? x = w1.cell? x := fun x => by obtain ⟨m, hm⟩ := HW.out; rw [hm]; rfl
        have c3' : wr.cell? ⟨r, 3, none⟩ = some (.slice (some ⟨g, 0, none⟩) n cap) := by rw [hsame]; exact c3
        have z2' : wr.cell? ⟨wo.heap.size, 2, none⟩ = some (.int .i64 (c.id : Int)) := by rw [hsame]; exact z2
        have z0' : wr.cell? ⟨wo.heap.size, 0, none⟩ = some (.bool c.ins) := by rw [hsame]; exact z0
        have z1' : wr.cell? ⟨wo.heap.size, 1, none⟩ = some (.string c.doc) := by rw [hsame]; exact z1
        by_cases hjn : j < n
        · obtain ⟨d, hdj⟩ : ∃ d, cs[j]? = some d := ⟨cs[j], List.getElem?_eq_getElem (by omega)⟩
          obtain ⟨u0, u1, u2⟩ := hc2.cell hn j d hdj
          have u0' : wr.cell? ⟨g, j * 3, none⟩ = some (.bool d.ins) := by rw [hsame]; exact u0
          have u2' : wr.cell? ⟨g, j * 3 + 2, none⟩ = some (.int .i64 (d.id : Int)) := by rw [hsame]; exact u2
          have HG : Hid (Do.goneTo cs (!c.ins) k c.id (j + 1) = (Do.goneTo cs (!c.ins) k c.id j || (!d.ins && d.id == c.id))) := Do.goneTo_step cs _ k c.id j d hj1 hdj
          clear hsame u0 u1 u2 z0' z1' c3 z0 z1 z2
          obtain ⟨q, hq⟩ : ∃ q, Do.goneTo cs (!c.ins) k c.id j = q := ⟨_, rfl⟩
          obtain ⟨e, he⟩ : ∃ e, d.ins = e := ⟨_, rfl⟩
          rw [hq]
          have HQ : Hid (Do.goneTo cs (!c.ins) k c.id j = q) := hq
          have HE : Hid (d.ins = e) := he
          rw [he] at u0'
          clear hq he
          cases q
          · cases e
            · by_cases hid : d.id = c.id
              · have hid1 : ((d.id : Int) == (c.id : Int)) = true := by rw [beq_iff_eq]; omega
                have HI : Hid (d.id = c.id) := hid
                clear hid
                go_wp2
                go_quiet (fail)
                go_wp2
                go_roundw
                case rel => exact ⟨j + 1, by omega, by omega, by go_num, by rw [HG.out, HQ.out, HE.out]; simp [HI.out], by obtain ⟨m, hm⟩ := HW.out; exact ⟨m + nq, by rw [hm, World.drewN_drewN]⟩⟩
                case measure => simp [intOf]; omega
              · have hid1 : ((d.id : Int) == (c.id : Int)) = false := by rw [beq_eq_false_iff_ne]; omega
                have HI : Hid (¬ d.id = c.id) := hid
                clear hid
                go_wp2
                go_quiet (fail)
                go_wp2
                go_roundw
                case rel => exact ⟨j + 1, by omega, by omega, by go_num, by rw [HG.out, HQ.out, HE.out]; simp [HI.out], by obtain ⟨m, hm⟩ := HW.out; exact ⟨m + nq, by rw [hm, World.drewN_drewN]⟩⟩
                case measure => simp [intOf]; omega
            · go_wp2
              go_quiet (fail)
              go_wp2
              go_roundw
              case rel => exact ⟨j + 1, by omega, by omega, by go_num, by rw [HG.out, HQ.out, HE.out]; simp, by obtain ⟨m, hm⟩ := HW.out; exact ⟨m + nq, by rw [hm, World.drewN_drewN]⟩⟩
              case measure => simp [intOf]; omega
          · go_wp2
            go_quiet (fail)
            go_wp2
            go_roundw
            case rel => exact ⟨j + 1, by omega, by omega, by go_num, by rw [HG.out, HQ.out, HE.out]; simp, by obtain ⟨m, hm⟩ := HW.out; exact ⟨m + nq, by rw [hm, World.drewN_drewN]⟩⟩
            case measure => simp [intOf]; omega
        · have hje : j = n := by omega
          subst hje
          have HG : Hid (Do.goneTo cs (!c.ins) k c.id j = !Do.keep cs k) := by
            show Do.goneTo cs (!c.ins) k c.id j = !Do.keep cs k
            rw [Do.goneTo_end cs _ k c.id j (by omega), Do.keep_eq cs k c hck, Bool.not_not]
          have hbw : Below w1.heap.size w1 wr := by obtain ⟨m, hm⟩ := HW.out; rw [hm]; exact below_drewN (Below.refl _ _) _
          have huw : OwnC wr w.heap.size u3 (Do.thereTo cs k) := (hu.below hbo).below hbw
          have hbb : Below w.heap.size w wr := (hb.trans (hbo.mono (by omega))).trans (hbw.mono (by omega))
          have hlen := Do.thereTo_len cs k
          clear hsame c3 z0 z1 z2 hbw hbo hu hb
          rw [HG.out]
          obtain ⟨q, hq⟩ : ∃ q, Do.keep cs k = q := ⟨_, rfl⟩
          have HK : Hid (Do.keep cs k = q) := hq
          rw [hq]
          clear hq
          have hdn : decide ((j : Int) < (j : Int)) = false := by simp
          cases q
          · go_wp2
            go_roundw
            case rel => exact ⟨k + 1, by omega, by go_num, by rw [Do.thereTo_miss cs k HK.out]; exact huw, hbb⟩
            case measure => simp [intOf]; omega
          · go_wp2_with (at_builtin; refine wpList_append_own _ rfl _ _ 129 rfl w.heap.size 147 i0 (.agg #[.bool false, .string ⟨#[]⟩, .int .i64 0]) 3 32 Try.underlying129 hi hz0 hz1 hz2 rfl (by decide) _ _ _ rfl (World.ownsRow.alloc huw _) ⟨wr.heap.size, 0, none⟩ 1 1 (CH1 c) rfl rfl (World.news_of_block (cs := #[.bool c.ins, .string c.doc, .int .i64 (c.id : Int)]) (heap_alloc_new wr _)) (by intro u hu2; simp [CH1] at hu2; rcases hu2 with rfl | rfl | rfl <;> rfl) (by unfold maxLen; omega) (by omega) (by have := hbb.size; simp; omega) ?_; intro v' w3 hown3 hgrow3 _)
            have R := chg_step huw hbb hbb.size hown3 hgrow3
            clear hown3 hgrow3 huw hbb
            go_wp2
            go_roundw
            case rel => exact ⟨k + 1, by omega, by go_num, by rw [Do.thereTo_hit cs k c hck HK.out]; exact R.1, R.2⟩
            case measure => simp [intOf]; omega
    · have hke : k = n := by omega
      subst hke
      go_wp2
      go_ret
      exact ⟨_, rfl, by rw [← hn] at hu; exact hu, hb⟩

end Go.Proofs.Ytpikkedeoebiaaa
