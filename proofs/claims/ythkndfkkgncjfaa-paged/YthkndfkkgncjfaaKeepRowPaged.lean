/- KeepRowPaged. -/
import Derived.Test.YthkndfkkgncjfaaKeepDJA
import Derived.Test.YthkndfkkgncjfaaRows
import Derived.ProofKit
import Derived.OpenShut
import Derived.Carry
import Derived.SizedLaws
namespace Go.Proofs.Ythkndfkkgncjfaa
open Go.ChangeShapes Go.WideShapes Go.ChangeAt Go.RowKit
set_option linter.unusedVariables false
set_option maxRecDepth 100000

theorem paged_own : ownKnob Try.prog.godebug = none := by kernel_rfl
theorem paged_laid : laidOutB Try.prog = true := by kernel_rfl

section
variable {M : Nat} {At : World → Nat → Int → Int → Int → List Do.Chg → (Nat → Prop) → Prop}

set_option maxHeartbeats 400000 in
theorem paged_lifted (hC : Keeps M At 67 73 74 28 34 36 56 35) (hM : M ≤ 9000000000000000) (hL : 5000000000000 ≤ M) (os : Os) (started : os.Started) (H : Type) (enc : TypeId × Value → H) :
    ReturnsInHanded {} Try.checked os 13 .any (Rows.pagedSpec.pre6 enc Try.prog Try.f13 Rows.pagedRow.domain false) (Rows.pagedSpec.post enc Try.prog Try.f13 false true false false) := by
  refine returnsInHanded_of_change_sized (C := Try.checked) paged_own started (by kernel_rfl) Try.func13
    (ChangeSpec.witness6 (enc := enc) (C := Try.checked) false ⟨#[], #[.agg #[.int .i64 0, .int .i64 0, .int .i64 0], .slice none 0 0, .string ByteArray.empty, .int .i64 0], []⟩ 8 (by kernel_rfl) (by kernel_rfl) (by kernel_rfl) (by kernel_rfl)) ?_
  intro W base args ds gs before hval0 hW hcnd hsz0 _
  have hval : ∀ (j : Nat) t v, Try.f13.params[j]? = some t → args[j]? = some v → Value.okWide Try.prog W .any base t v := hval0
  have hW' := hW
  obtain ⟨p, q, hA0, hV, rfl, hfz, hnd⟩ := hW
  have hA : DataW.TrodAll enc Try.prog W 0 (fun _ => true) true Try.f13.params.toList args.toList ds p := hA0
  have hsz : (DataW.weightsEach Try.prog (Try.f13.params.toList ++ Rows.pagedSpec.plain.varTypes Try.prog) (ds ++ gs)).all (· ≤ reachBytes) = true := hsz0
  rw [Try.params13] at hA hval hsz
  obtain ⟨v0, vs0, d0, ds0, p0, q0, hargs, rfl, rfl, h0, r0⟩ := trodAll_cons hA
  obtain ⟨v1, vs1, d1, ds1, p1, q1, rfl, rfl, rfl, h1, r1⟩ := trodAll_cons r0
  obtain ⟨v2, vs2, d2, ds2, p2, q2, rfl, rfl, rfl, h2, r2⟩ := trodAll_cons r1
  obtain ⟨v3, vs3, d3, ds3, p3, q3, rfl, rfl, rfl, h3, r3⟩ := trodAll_cons r2
  obtain ⟨rfl, rfl, rfl⟩ := trodAll_nil r3
  obtain rfl : args = #[v0, v1, v2, v3] := by cases args; simp_all
  obtain ⟨rfl, rfl⟩ := trodVars_none hV
  obtain ⟨cs0, rfl, hcs0⟩ := okWide_struct Try.underlying51 (hval 0 51 v0 rfl rfl)
  have h0k := h0
  obtain ⟨fu0, hf0⟩ := h0
  obtain ⟨hl0, ca0, cb0, cp0, ea0, eb0, ep0, ra0, rb0, rp0⟩ := conf_cells hf0
  obtain rfl := agg3 cs0 _ _ _ hl0 ea0 eb0 ep0
  obtain ⟨sa1, sn1, sc1, rfl⟩ := okWide_slice Try.underlying52 (hval 1 52 v1 rfl rfl)
  have h1k := h1
  obtain ⟨fu1, hf1⟩ := h1
  obtain ⟨len, ops, hsc, hlen⟩ := open_steps (x := (d1, p1)) hf1 hsz (q := 1) rfl rfl
  obtain ⟨st2, rfl⟩ := okWide_string Try.underlying9 (hval 2 9 v2 rfl rfl)
  have h2k := h2
  obtain ⟨fu2, hf2⟩ := h2
  have rs2 : st2.size ≤ 9223372036854775807 := by
    obtain ⟨s, e, _, hs⟩ := DataW.trod_string Try.underlying9 hf2
    have e' : [Value.string st2] = [Value.string s] := e
    simp at e'
    rw [e']; unfold maxLen at hs; omega
  obtain ⟨m3, rfl⟩ := okWide_int Try.underlying3 (hval 3 3 v3 rfl rfl)
  have h3k := h3
  obtain ⟨fu3, hf3⟩ := h3
  have ri3 : inR m3 := by
    obtain ⟨m, e, _, wf⟩ := DataW.trod_int Try.underlying3 hf3
    have e' : [Value.int .i64 m3] = [Value.int .i64 m] := e
    simp at e'
    rw [e']; exact bounds_i64 wf
  clear hA0 hval0
  have hlt0 : ∀ x ∈ p0, x.block < W.heap.size := fun x hx => by simpa using hW'.lt x (by simp [hx])
  have hlt1 : ∀ x ∈ p1, x.block < W.heap.size := fun x hx => by simpa using hW'.lt x (by simp [hx])
  have hlt2 : ∀ x ∈ p2, x.block < W.heap.size := fun x hx => by simpa using hW'.lt x (by simp [hx])
  have hlt3 : ∀ x ∈ p3, x.block < W.heap.size := fun x hx => by simpa using hW'.lt x (by simp [hx])
  refine (paged_law hC hM ca0 cb0 cp0 m3 ra0 rb0 rp0 ri3 _ len ops st2 rs2 W hsc (by omega)).mono fun e W' ⟨he, bel⟩ => ?_
  subst he
  exact ⟨_, rfl, _, _, _, [], _, [], hW', trodAll_mk1 (shut_bool Try.underlying4 _), trodAll_cons_mk (Below.trod paged_laid (by kernel_rfl) (of_decide_eq_true (by kernel_rfl)) h0k bel hlt0) (trodAll_cons_mk (Below.trod paged_laid (by kernel_rfl) (of_decide_eq_true (by kernel_rfl)) h1k bel hlt1) (trodAll_cons_mk (Below.trod paged_laid (by kernel_rfl) (of_decide_eq_true (by kernel_rfl)) h2k bel hlt2) (trodAll_cons_mk (Below.trod paged_laid (by kernel_rfl) (of_decide_eq_true (by kernel_rfl)) h3k bel hlt3) trodAll_mk0))), rfl, bel.frame _, fun h => by cases h⟩

theorem paged_holds (hC : Keeps M At 67 73 74 28 34 36 56 35) (hM : M ≤ 9000000000000000) (hL : 5000000000000 ≤ M) : Rows.PagedSaid :=
  OpenClaim.holds_of_wide 13 Try.f13 rfl rfl rfl rfl rfl rfl rfl ⟨rfl, rfl, rfl, rfl, rfl⟩ rfl rfl rfl rfl rfl (by kernel_rfl) Try.func13 (by kernel_rfl)
    (of_decide_eq_true (by kernel_rfl)) (by unfold Func.isWrapper; first | (rw [if_pos (by decide +kernel)]; kernel_rfl) | (rw [if_neg (by decide +kernel)]; exact ⟨rfl, rfl⟩))
    (fun os started H enc _ => paged_lifted hC hM hL os started H enc)
end

end Go.Proofs.Ythkndfkkgncjfaa
