/- BASE2. Locate asked in a script: what came out is laid into the drawer. Its law. -/
import Derived.Test.YtpikkedeoebiaaaLawR
import Derived.Test.YtpikkedeoebiaaaLawO
import Derived.Test.YtpikkedeoebiaaaLawI
namespace Go.Proofs.Ytpikkedeoebiaaa
open Go.RowKit
set_option maxRecDepth 100000

section
variable {At : World → Nat → Int → Int → Int → List Do.Chg → (Nat → Prop) → Prop}
variable {B G D m : Nat} {v : Value} {bs : List Bk}

set_option maxHeartbeats 2000000 in
theorem asked_loc (hC : Serves At 67 73 74 28 34 36 56 35) (own : Nat → Nat) (i : Nat) (b : Bk) (o : OpV) (w : World) (hm : m ≤ 1999999999998) (h : Inv At (DS m) w B G D v bs own) (hB : B ≤ w.heap.size) (hi : bs[i]? = some b) (hcx : b.cx = b.cr) (hl : b.cr.length ≤ 2000000000000) (hk : o.k = 8) (hra : inR o.a) (hrb : inR o.b) (hrc : inR o.c) (hs : o.s.size ≤ 9223372036854775807) :
    Calls Try.prog 72 #[.pointer (some ⟨G, 0, none⟩), bkV b, opV o] w fun e w' => e = .returned (.bool true) ∧ (∃ own', Inv At (DS (m + 1)) w' B G D v bs own') ∧ Below B w w' := by
  obtain ⟨ok, oon, oa, ob, oc, os, f0, f1, f2⟩ := o
  dsimp only at *
  subst hk
  unfold bkV opV
  dsimp only
  have hD := drawn_some m
  go_enter Try.func72, Try.ntmps72
  have y0 := World.news_of_block (Below.heap_alloc _ (.cells #[.int .i64 8, .int .i64 oon, .int .i64 oa, .int .i64 ob, .int .i64 oc, .string os, .int .i64 f0, .int .i64 f1, .int .i64 f2] 98) w.heap.size (by simp) |>.trans (heap_alloc_new w (.cells #[.pointer (some ⟨b.x, 0, none⟩), .pointer (some ⟨b.r, 0, none⟩)] 121)))
  have y1 := World.news_of_block (heap_alloc_new (w.alloc (.cells #[.pointer (some ⟨b.x, 0, none⟩), .pointer (some ⟨b.r, 0, none⟩)] 121)) (.cells #[.int .i64 8, .int .i64 oon, .int .i64 oa, .int .i64 ob, .int .i64 oc, .string os, .int .i64 f0, .int .i64 f1, .int .i64 f2] 98))
  have hb0 : Below w.heap.size w ((w.alloc (.cells #[.pointer (some ⟨b.x, 0, none⟩), .pointer (some ⟨b.r, 0, none⟩)] 121)).alloc (.cells #[.int .i64 8, .int .i64 oon, .int .i64 oa, .int .i64 ob, .int .i64 oc, .string os, .int .i64 f0, .int .i64 f1, .int .i64 f2] 98)) := ((Below.refl _ _).alloc (Nat.le_refl _) _).alloc (by simp) _
  have hsz : ((w.alloc (.cells #[.pointer (some ⟨b.x, 0, none⟩), .pointer (some ⟨b.r, 0, none⟩)] 121)).alloc (.cells #[.int .i64 8, .int .i64 oon, .int .i64 oa, .int .i64 ob, .int .i64 oc, .string os, .int .i64 f0, .int .i64 f1, .int .i64 f2] 98)).heap.size = w.heap.size + 2 := by simp
  have zp := y0 1 _ rfl
  have z2 := y1 2 _ rfl
  have z3 := y1 3 _ rfl
  have z4 := y1 4 _ rfl
  have z5 := y1 5 _ rfl
  clear y0 y1
  go_wp2_with fail
  have hI1 := h.quiet hC hD hb0
  generalize (w.alloc (.cells #[.pointer (some ⟨b.x, 0, none⟩), .pointer (some ⟨b.r, 0, none⟩)] 121)).alloc (.cells #[.int .i64 8, .int .i64 oon, .int .i64 oa, .int .i64 ob, .int .i64 oc, .string os, .int .i64 f0, .int .i64 f1, .int .i64 f2] 98) = w1 at *
  refine (hC.locate os oa ob oc (by rw [hcx]; exact hl) hs hra hrb hrc (hI1.code i b hi)).mono ?_
  rintro e w2 ⟨lv, rfl, hlv, hb2⟩
  have s2 := hb2.size
  have zzp : w2.cell? ⟨w.heap.size, 1, none⟩ = some (.pointer (some ⟨b.r, 0, none⟩)) := by
    rw [hb2.cell (by show w.heap.size < w1.heap.size; omega)]; simpa [Addr.add] using zp
  have zz2 : w2.cell? ⟨w.heap.size + 1, 2, none⟩ = some (.int .i64 oa) := by
    rw [hb2.cell (by show w.heap.size + 1 < w1.heap.size; omega)]; simpa [Addr.add] using z2
  have zz3 : w2.cell? ⟨w.heap.size + 1, 3, none⟩ = some (.int .i64 ob) := by
    rw [hb2.cell (by show w.heap.size + 1 < w1.heap.size; omega)]; simpa [Addr.add] using z3
  have zz4 : w2.cell? ⟨w.heap.size + 1, 4, none⟩ = some (.int .i64 oc) := by
    rw [hb2.cell (by show w.heap.size + 1 < w1.heap.size; omega)]; simpa [Addr.add] using z4
  have zz5 : w2.cell? ⟨w.heap.size + 1, 5, none⟩ = some (.string os) := by
    rw [hb2.cell (by show w.heap.size + 1 < w1.heap.size; omega)]; simpa [Addr.add] using z5
  have hI2 := hI1.quiet hC hD hb2
  have hcf : okc b.a b.b b.p := (hI2.ref i b hi).conf
  have HR : Hid (Calls Try.prog 84 #[.pointer (some ⟨b.r, 0, none⟩), .string os, .int .i64 oa, .int .i64 ob, .int .i64 oc] w2 fun e w' => ∃ v, e = .returned (.tuple #[v, .bool (locRes b.cr b.p os oa ob oc).2.1, .int .i64 (locRes b.cr b.p os oa ob oc).2.2]) ∧ OwnO w' w2.heap.size v (locRes b.cr b.p os oa ob oc).1 ∧ Below w2.heap.size w2 w') := ref_serves.locate os oa ob oc hl hs hra hrb hrc (hI2.ref i b hi)
  have hlen : (locRes b.cr b.p os oa ob oc).1.length ≤ 8 := by
    unfold locRes
    split
    · simp
    · split
      · simp
      · have h1 := Do.pageTo_len (Do.hits (Do.there b.cr) os.data.toList) ob oc b.p.toNat (Do.hits (Do.there b.cr) os.data.toList).length
        unfold okc at hcf
        show (Do.pageTo _ _ _ _ _).1.length ≤ 8
        omega
  clear hI1 zp z2 z3 z4 z5
  rw [hcx]
  rw [hcx] at hlv
  generalize (locRes b.cr b.p os oa ob oc).1 = q1 at *
  generalize (locRes b.cr b.p os oa ob oc).2.1 = q2 at *
  generalize (locRes b.cr b.p os oa ob oc).2.2 = q3 at *
  have hbq : (q2 == q2) = true := by simp
  go_wp2_with fail
  refine HR.out.mono ?_
  rintro e w3 ⟨mv, rfl, hmv, hb3⟩
  have s3 := hb3.size
  have hlv3 := hlv.below hb3
  have hI3 := hI2.quiet hC hD hb3
  clear HR zzp zz2 zz3 zz4 zz5 hlv hI2
  go_wp2_with fail
  refine (sameH_any _ _ lv mv q1 w3 (by omega) hlv3 hmv).mono ?_
  rintro e w4 ⟨rfl, hb4⟩
  have s4 := hb4.size
  have hlv4 := hlv3.below hb4
  have hI4 := hI3.quiet hC hD hb4
  clear hlv3 hmv hI3
  have cD : w4.cell? ⟨G, 1, none⟩ = some (.pointer (some ⟨D, 0, none⟩)) := by rw [cell_of_row w4 _ 1 _ 31 (0, 0) hI4.wo]; rfl
  have h0 : ∀ k, w.heap.size ≤ k → own k = 0 := fun k hk => by
    cases hc : own k with
    | zero => rfl
    | succ n => have := (h.mine k (by rw [hc]; omega)).2; omega
  have hlb : ∀ g, lv.ownBlock = some g → w.heap.size ≤ g := fun g hg => by have := (World.ownsRow.lt hlv4 g hg).1; omega
  obtain ⟨hmm, vi, vh, vn, vm, Li, Lh, hda⟩ := hI4.dr
  have HK : Hid (Calls Try.prog 86 #[.pointer (some ⟨D, 0, none⟩), lv] w4 fun e w' => e = .returned (.tuple #[]) ∧ Only (fun k => own k = 2 ∨ lv.ownBlock = some k) w4 w' ∧ ∃ G, DS (m + 1) w' D G ∧ ∀ k, G k → own k = 2 ∨ lv.ownBlock = some k ∨ w4.heap.size ≤ k) :=
    keepH_any m D _ vi vh vn vm Li Lh lv q1.length (OC q1) w4 hm (by omega) hda (OwnO.weaken hlv4 (Nat.zero_le _)) (fun g hg => by rw [h0 g (hlb g hg)]; decide)
  clear hda hlv4
  go_wp2_with fail
  refine HK.out.mono ?_
  rintro e w5 ⟨rfl, ho5, hn5⟩
  obtain ⟨own', hI5⟩ := hI4.drawStep hC (drawn_some (m + 1)) (fun k => lv.ownBlock = some k) (fun k hk => ⟨h0 k (hlb k hk), by have := hlb k hk; omega⟩) ho5 hn5 (by omega)
  have hbl : Below B w w5 := by
    refine ((hb0.trans (hb2.mono (by omega))).trans ((hb3.mono (by omega)).trans (hb4.mono (by omega)))).mono hB |>.trans ⟨ho5.os, ho5.tape, ho5.output, ho5.size, fun k hk => ho5.block k (by omega) (fun hf => ?_)⟩
    rcases hf with hf | hf
    · have := (h.mine k (by rw [hf]; decide)).1; omega
    · have := hlb k hf; omega
  clear HK hI4 cD ho5 hn5
  go_wp2_with fail
  refine (num_any _ _).mono ?_
  rintro e w6 ⟨rfl, hw6⟩; rw [hw6]; clear hw6
  go_wp2_with fail
  go_ret
  exact ⟨rfl, ⟨own', hI5⟩, hbl⟩

/-- the steps of Locates -/
theorem steps_locates (hC : Serves At 67 73 74 28 34 36 56 35) : StepsTo 1999999999999 At DS 8 8 := by
  intro B G D m n v bs own o w hm hI hB hg hn ho hk
  by_cases h8 : o.k = 8
  · refine step_lays hC B G D m n v bs own o w hm hI hB hg (by omega) ho (by omega) (by omega) (by omega) (by omega) (by omega) ?_
    intro k b w1 hi hcx hl hI1 hB1
    exact asked_loc hC own k b o w1 (by omega) hI1 hB1 hi hcx hl h8 ho.2.2.1 ho.2.2.2.1 ho.2.2.2.2.1 ho.2.2.2.2.2.2.2.2
  · refine (step_inv hC (drawn_some m) own n o w hI hB hg (by omega) ho (by omega) h8 (by omega) (by omega) (by omega)).mono ?_
    rintro e w' ⟨he, v', bs', own', q1, q2, q3⟩
    exact ⟨he, m, v', bs', own', by omega, q1, q2, q3⟩

theorem locates_law (hC : Serves At 67 73 74 28 34 36 56 35) (sv : Value) (len : Nat) (os : Nat → OpV) (w : World) (hsc : Script w sv len os) (hlen : len ≤ 1999999999999) :
    Calls Try.prog 11 #[sv] w fun e w' => e = .returned (.bool true) ∧ Below w.heap.size w w' := by
  go_enter Try.func11, Try.ntmps11
  go_wp2_with fail
  refine (plays_to (M := 1999999999999) (by omega) hC drawn_some drawn_start 8 8 (steps_locates hC) sv len os w hsc hlen).mono ?_
  rintro e w1 ⟨rfl, hb⟩
  go_wp2_with fail
  go_ret
  exact ⟨rfl, hb⟩
end

open Go.ChangeShapes Go.WideShapes Go.ChangeAt
set_option linter.unusedVariables false

section
variable {At : World → Nat → Int → Int → Int → List Do.Chg → (Nat → Prop) → Prop}

theorem locates_lifted (hC : Serves At 67 73 74 28 34 36 56 35) (os : Os) (started : os.Started) (H : Type) (enc : TypeId × Value → H) :
    ReturnsInHanded {} Try.checked os 11 .any (Rows.locatesSpec.pre6 enc Try.prog Try.f11 Rows.locatesRow.domain false) (Rows.locatesSpec.post enc Try.prog Try.f11 false true false false) := by
  refine returnsInHanded_of_change_sized (C := Try.checked) script_own started (by kernel_rfl) Try.func11
    (ChangeSpec.witness6 (enc := enc) (C := Try.checked) false ⟨#[], #[.slice none 0 0], []⟩ 8 (by kernel_rfl) (by kernel_rfl) (by kernel_rfl) (by kernel_rfl)) ?_
  intro W base args ds gs before hval0 hW hcnd hsz0 _
  have hval : ∀ (j : Nat) t v, Try.f11.params[j]? = some t → args[j]? = some v → Value.okWide Try.prog W .any base t v := hval0
  have hW' := hW
  obtain ⟨p, q, hA0, hV, rfl, hfz, hnd⟩ := hW
  have hA : DataW.TrodAll enc Try.prog W 0 (fun _ => true) true Try.f11.params.toList args.toList ds p := hA0
  have hsz : (DataW.weightsEach Try.prog (Try.f11.params.toList ++ Rows.locatesSpec.plain.varTypes Try.prog) (ds ++ gs)).all (· ≤ reachBytes) = true := hsz0
  rw [Try.params11] at hA hval hsz
  obtain ⟨v0, vs0, d0, ds0, p0, q0, hargs, rfl, rfl, h0, r0⟩ := trodAll_cons hA
  obtain ⟨rfl, rfl, rfl⟩ := trodAll_nil r0
  obtain rfl : args = #[v0] := by cases args; simp_all
  obtain ⟨rfl, rfl⟩ := trodVars_none hV
  obtain ⟨a0, n0, cap0, rfl⟩ := okWide_slice Try.underlying47 (hval 0 47 v0 rfl rfl)
  have h0k := h0
  obtain ⟨fuel, hf⟩ := h0
  clear hA0 hval0
  have hlt : ∀ x ∈ p0, x.block < W.heap.size := fun x hx => by simpa using hW'.lt x (by simp [hx])
  obtain ⟨len, ops, hsc, hlen⟩ := script_len (x := (d0, p0)) hf hsz (j := 0) rfl rfl
  refine (locates_law hC _ len ops W hsc hlen).mono fun e W' ⟨he, bel⟩ => ?_
  subst he
  exact ⟨_, rfl, _, _, _, [], _, [], hW', trodAll_mk1 (shut_bool Try.underlying4 _), trodAll_cons_mk (Below.trod script_laid (by kernel_rfl) (of_decide_eq_true (by kernel_rfl)) h0k bel hlt) trodAll_mk0, rfl, bel.frame _, fun h => by cases h⟩

theorem locates_holds (hC : Serves At 67 73 74 28 34 36 56 35) : Rows.LocatesSaid :=
  OpenClaim.holds_of_wide 11 Try.f11 rfl rfl rfl rfl rfl rfl rfl ⟨rfl, rfl, rfl, rfl, rfl⟩ rfl rfl rfl rfl rfl (by kernel_rfl) Try.func11 (by kernel_rfl)
    (of_decide_eq_true (by kernel_rfl)) (by unfold Func.isWrapper; first | (rw [if_pos (by decide +kernel)]; kernel_rfl) | (rw [if_neg (by decide +kernel)]; exact ⟨rfl, rfl⟩))
    (fun os started H enc _ => locates_lifted hC os started H enc)

end

end Go.Proofs.Ytpikkedeoebiaaa
