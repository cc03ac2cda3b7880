/- Walks of the law: step. -/
import Derived.Test.YtpikkedeoebiaaaLawE
import Derived.Deep.RegionHeld3
namespace Go.Proofs.Ytpikkedeoebiaaa
open Go.RowKit
set_option maxRecDepth 100000

section
variable {At : World → Nat → Int → Int → Int → List Do.Chg → (Nat → Prop) → Prop} {DP : World → Nat → (Nat → Prop) → Prop}
variable {B G D : Nat} {v : Value} {bs : List Bk}

/-- a step's cells, behind its coming in -/
def opObj (o : OpV) : Obj := .cells #[.int .i64 o.k, .int .i64 o.on, .int .i64 o.a, .int .i64 o.b, .int .i64 o.c, .string o.s, .int .i64 o.f0, .int .i64 o.f1, .int .i64 o.f2] 98

set_option maxHeartbeats 1000000 in
theorem step_new (Q : Ending → World → Prop) (o : OpV) (w : World) (hk : o.k = 1) (hc : Calls Try.prog 48 #[.pointer (some ⟨G, 0, none⟩), .agg #[.int .i64 o.f0, .int .i64 o.f1, .int .i64 o.f2]] (w.alloc (opObj o)) fun e w' => e = .returned (.bool true) ∧ Q e w') :
    Calls Try.prog 49 #[.pointer (some ⟨G, 0, none⟩), opV o] w fun e w' => e = .returned (.bool true) ∧ Q e w' := by
  obtain ⟨ok, oon, oa, ob, oc, os, f0, f1, f2⟩ := o
  unfold opObj at hc
  dsimp only at *
  subst hk
  unfold opV
  dsimp only
  have y := World.news_of_block (heap_alloc_new w (.cells #[.int .i64 1, .int .i64 oon, .int .i64 oa, .int .i64 ob, .int .i64 oc, .string os, .int .i64 f0, .int .i64 f1, .int .i64 f2] 98))
  have y0 := y 0 _ rfl
  have y6 := y 6 _ rfl
  have y7 := y 7 _ rfl
  have y8 := y 8 _ rfl
  clear y
  go_enter Try.func49, Try.ntmps49
  go_wp2_with fail
  refine hc.mono ?_
  rintro e w2 ⟨rfl, hq⟩
  go_wp2_with fail
  go_ret
  exact ⟨rfl, hq⟩

set_option maxHeartbeats 1000000 in
theorem step_none (o : OpV) (w : World) (a0 : Option Addr) (cap : Nat) (h1 : (o.k == 1) = false) (h10 : (o.k == 10) = false) (h11 : (o.k == 11) = false) (hw : w.cell? ⟨G, 0, none⟩ = some (.slice a0 0 cap)) (hG : G < w.heap.size) :
    Calls Try.prog 49 #[.pointer (some ⟨G, 0, none⟩), opV o] w fun e w' => e = .returned (.bool true) ∧ Below w.heap.size w w' := by
  obtain ⟨ok, oon, oa, ob, oc, os, f0, f1, f2⟩ := o
  dsimp only at *
  unfold opV
  dsimp only
  have y := World.news_of_block (heap_alloc_new w (.cells #[.int .i64 ok, .int .i64 oon, .int .i64 oa, .int .i64 ob, .int .i64 oc, .string os, .int .i64 f0, .int .i64 f1, .int .i64 f2] 98))
  have y0 := y 0 _ rfl
  have y1 := y 1 _ rfl
  clear y
  have hb : Below w.heap.size w (w.alloc (.cells #[.int .i64 ok, .int .i64 oon, .int .i64 oa, .int .i64 ob, .int .i64 oc, .string os, .int .i64 f0, .int .i64 f1, .int .i64 f2] 98)) := (Below.refl _ _).alloc (Nat.le_refl _) _
  have cG := (hb.cell (p := ⟨G, 0, none⟩) hG).trans hw
  go_enter Try.func49, Try.ntmps49
  go_wp2_with fail
  go_ret
  exact ⟨rfl, hb⟩

theorem pick_det (c : Int) (n : Nat) (hc : inR c) (hn : 0 < n) (hn2 : n ≤ 2000000000000) :
    ∃ k : Nat, k < n ∧ ∀ w, Calls Try.prog 70 #[.int .i64 c, .int .i64 (n : Int)] w fun e w' => e = .returned (.int .i64 (k : Int)) ∧ w' = w := by
  obtain ⟨hc1, hc2⟩ := hc
  obtain ⟨k, hk, he⟩ := pick_lt c n hn
  refine ⟨k, hk, fun w => ?_⟩
  by_cases h : c < 0
  · rw [if_pos h] at he
    go_enter Try.func70, Try.ntmps70
    go_wp2
    go_ret
    exact ⟨rfl, rfl⟩
  · rw [if_neg h] at he
    go_enter Try.func70, Try.ntmps70
    go_wp2
    go_ret
    exact ⟨rfl, rfl⟩

set_option maxHeartbeats 2000000 in
theorem step_at (Q : Ending → World → Prop) (o : OpV) (w : World) (g n cap : Nat) (h1 : (o.k == 1) = false) (h10 : (o.k == 10) = false) (h11 : (o.k == 11) = false) (hon : inR o.on) (hw : w.cell? ⟨G, 0, none⟩ = some (.slice (some ⟨g, 0, none⟩) n cap)) (hG : G < w.heap.size) (hg : g < w.heap.size)
    (hn : 0 < n) (hn2 : n ≤ 2000000000000)
    (hbk : ∀ k : Nat, k < n → ∃ x r : Nat, w.cell? ⟨g, k * 2, none⟩ = some (.pointer (some ⟨x, 0, none⟩)) ∧ w.cell? ⟨g, k * 2 + 1, none⟩ = some (.pointer (some ⟨r, 0, none⟩)) ∧
      ∀ w1, Below w.heap.size w w1 → Calls Try.prog (if o.k = 2 ∨ o.k = 3 then 71 else 72) (if o.k = 2 ∨ o.k = 3 then #[.agg #[.pointer (some ⟨x, 0, none⟩), .pointer (some ⟨r, 0, none⟩)], opV o] else #[.pointer (some ⟨G, 0, none⟩), .agg #[.pointer (some ⟨x, 0, none⟩), .pointer (some ⟨r, 0, none⟩)], opV o]) w1 fun e w' => e = .returned (.bool true) ∧ Q e w') :
    Calls Try.prog 49 #[.pointer (some ⟨G, 0, none⟩), opV o] w fun e w' => e = .returned (.bool true) ∧ Q e w' := by
  obtain ⟨ok, oon, oa, ob, oc, os, f0, f1, f2⟩ := o
  dsimp only at *
  unfold opV at *
  dsimp only at *
  have y := World.news_of_block (heap_alloc_new w (.cells #[.int .i64 ok, .int .i64 oon, .int .i64 oa, .int .i64 ob, .int .i64 oc, .string os, .int .i64 f0, .int .i64 f1, .int .i64 f2] 98))
  have y0 := y 0 _ rfl
  have y1 := y 1 _ rfl
  have y2 := y 2 _ rfl
  have y3 := y 3 _ rfl
  have y4 := y 4 _ rfl
  have y5 := y 5 _ rfl
  have y6 := y 6 _ rfl
  have y7 := y 7 _ rfl
  have y8 := y 8 _ rfl
  clear y
  have hb : Below w.heap.size w (w.alloc (.cells #[.int .i64 ok, .int .i64 oon, .int .i64 oa, .int .i64 ob, .int .i64 oc, .string os, .int .i64 f0, .int .i64 f1, .int .i64 f2] 98)) := (Below.refl _ _).alloc (Nat.le_refl _) _
  have cG := (hb.cell (p := ⟨G, 0, none⟩) hG).trans hw
  have hn0 : ((n : Int) == 0) = false := by simp; omega
  go_enter Try.func49, Try.ntmps49
  go_wp2_with fail
  have hsz : (w.alloc (.cells #[.int .i64 ok, .int .i64 oon, .int .i64 oa, .int .i64 ob, .int .i64 oc, .string os, .int .i64 f0, .int .i64 f1, .int .i64 f2] 98)).heap.size = w.heap.size + 1 := by simp
  generalize w.alloc (.cells #[.int .i64 ok, .int .i64 oon, .int .i64 oa, .int .i64 ob, .int .i64 oc, .string os, .int .i64 f0, .int .i64 f1, .int .i64 f2] 98) = w1 at *
  obtain ⟨k, hk, hp⟩ := pick_det oon n hon hn hn2
  obtain ⟨x, r, hx, hr, hcall⟩ := hbk k hk
  have cx := (hb.cell (p := ⟨g, k * 2, none⟩) hg).trans hx
  have cr := (hb.cell (p := ⟨g, k * 2 + 1, none⟩) hg).trans hr
  have y1' : w1.cell? ⟨w.heap.size, 1, none⟩ = some (.int .i64 oon) := by simpa [Addr.add] using y1
  have e1 := World.new_ne w1 _ cG
  have e2 := World.new_ne w1 _ cx
  have e3 := World.new_ne w1 _ cr
  have e4 := World.new_ne w1 _ y1'
  have hkn : (k : Int) < n := by omega
  clear hbk hw hx hr
  have zz := World.news_of_block (heap_alloc_new w1 (.cells #[.pointer (some ⟨x, 0, none⟩), .pointer (some ⟨r, 0, none⟩)] 121))
  have zx : ((w1.alloc (.cells #[.pointer (some ⟨x, 0, none⟩), .pointer (some ⟨r, 0, none⟩)] 121)).drew).cell? ⟨w.heap.size + 1, 0, none⟩ = some (.pointer (some ⟨x, 0, none⟩)) := by have := zz 0 _ rfl; simpa [Addr.add, hsz, World.cell?_drew] using this
  have zr : ((w1.alloc (.cells #[.pointer (some ⟨x, 0, none⟩), .pointer (some ⟨r, 0, none⟩)] 121)).drew).cell? ⟨w.heap.size + 1, 1, none⟩ = some (.pointer (some ⟨r, 0, none⟩)) := by have := zz 1 _ rfl; simpa [Addr.add, hsz, World.cell?_drew] using this
  have hb1 : Below w1.heap.size w1 ((w1.alloc (.cells #[.pointer (some ⟨x, 0, none⟩), .pointer (some ⟨r, 0, none⟩)] 121)).drew) := ((Below.refl _ _).alloc (Nat.le_refl _) _).drew
  have ys : ∀ (j : Nat) (u : Value), w1.cell? ((⟨w.heap.size, 0, none⟩ : Addr).add j) = some u → ((w1.alloc (.cells #[.pointer (some ⟨x, 0, none⟩), .pointer (some ⟨r, 0, none⟩)] 121)).drew).cell? ⟨w.heap.size, j, none⟩ = some u := fun j u hu => by
    rw [hb1.cell (by show w.heap.size < w1.heap.size; omega)]; by_cases hj : j = 0
    · subst hj; simpa [Addr.add] using hu
    · simpa [Addr.add, hj] using hu
  have u0 := ys 0 _ y0
  have u1 := ys 1 _ y1
  have u2 := ys 2 _ y2
  have u3 := ys 3 _ y3
  have u4 := ys 4 _ y4
  have u5 := ys 5 _ y5
  have u6 := ys 6 _ y6
  have u7 := ys 7 _ y7
  have u8 := ys 8 _ y8
  have HB2 : Hid (Below w.heap.size w ((w1.alloc (.cells #[.pointer (some ⟨x, 0, none⟩), .pointer (some ⟨r, 0, none⟩)] 121)).drew)) := hb.trans (hb1.mono (by omega))
  clear hb hb1 ys zz y0 y1 y2 y3 y4 y5 y6 y7 y8
  go_region_held3 (fun w' => w'.cell? ⟨G, 0, none⟩ = some (.slice (some ⟨g, 0, none⟩) n cap) ∧ w'.cell? ⟨w.heap.size, 1, none⟩ = some (.int .i64 oon) ∧ w'.cell? ⟨g, k * 2, none⟩ = some (.pointer (some ⟨x, 0, none⟩)) ∧ w'.cell? ⟨g, k * 2 + 1, none⟩ = some (.pointer (some ⟨r, 0, none⟩))) (go_keep)
    (first | (go_at_call 70; refine (hp _).mono ?_; rintro e w' ⟨rfl, rfl⟩))
  all_goals generalize (w1.alloc (.cells #[.pointer (some ⟨x, 0, none⟩), .pointer (some ⟨r, 0, none⟩)] 121)).drew = w2 at *
  all_goals clear cG cx cr e1 e2 e3 e4 y1' hp
  all_goals
    by_cases h2 : ok = 2
    · subst h2
      have hcall' := hcall w2 HB2.out
      rw [if_pos (.inl rfl), if_pos (.inl rfl)] at hcall'
      clear hcall
      go_wp2_with fail
      refine hcall'.mono ?_
      rintro e w3 ⟨rfl, hq⟩
      go_wp2_with fail
      go_ret
      exact ⟨rfl, hq⟩
    · by_cases h3 : ok = 3
      · subst h3
        have hcall' := hcall w2 HB2.out
        rw [if_pos (.inr rfl), if_pos (.inr rfl)] at hcall'
        clear hcall
        go_wp2_with fail
        refine hcall'.mono ?_
        rintro e w3 ⟨rfl, hq⟩
        go_wp2_with fail
        go_ret
        exact ⟨rfl, hq⟩
      · have hcall' := hcall w2 HB2.out
        rw [if_neg (by omega), if_neg (by omega)] at hcall'
        have k2 : (ok == 2) = false := by simpa using h2
        have k3 : (ok == 3) = false := by simpa using h3
        clear hcall h2 h3
        go_wp2_with fail
        refine hcall'.mono ?_
        rintro e w3 ⟨rfl, hq⟩
        go_wp2_with fail
        go_ret
        exact ⟨rfl, hq⟩
end

end Go.Proofs.Ytpikkedeoebiaaa
