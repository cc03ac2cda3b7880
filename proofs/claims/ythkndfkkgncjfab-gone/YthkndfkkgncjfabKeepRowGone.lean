/- KeepRowGone. -/
import Derived.Test.YthkndfkkgncjfabKeepGJA
import Derived.Test.YthkndfkkgncjfabRows
import Derived.ProofKit
import Derived.OpenShut
import Derived.Carry
import Derived.SizedLaws
namespace Go.Proofs.Ythkndfkkgncjfab
open Go.ChangeShapes Go.WideShapes Go.ChangeAt Go.RowKit
set_option linter.unusedVariables false
set_option maxRecDepth 100000

theorem gone_own : ownKnob Try.prog.godebug = none := by kernel_rfl
theorem gone_laid : laidOutB Try.prog = true := by kernel_rfl

section
variable {M : Nat} {At : World → Nat → Int → Int → Int → List Do.Chg → (Nat → Prop) → Prop}

set_option maxHeartbeats 400000 in
theorem gone_lifted (hC : Keeps M At 28 21 23 60 62 20 58 11) (hM : M ≤ 9000000000000000) (hL : 6000000000000 ≤ M) (os : Os) (started : os.Started) (H : Type) (enc : TypeId × Value → H) :
    ReturnsInHanded {} Try.checked os 3 .any (Rows.goneSpec.pre6 enc Try.prog Try.f3 Rows.goneRow.domain false) (Rows.goneSpec.post enc Try.prog Try.f3 false true false false) := by
  refine returnsInHanded_of_change_sized (C := Try.checked) gone_own started (by kernel_rfl) Try.func3
    (ChangeSpec.witness6 (enc := enc) (C := Try.checked) false ⟨#[], #[.agg #[.int .i64 0, .int .i64 0, .int .i64 0], .slice none 0 0, .string ByteArray.empty, .string ByteArray.empty], []⟩ 8 (by kernel_rfl) (by kernel_rfl) (by kernel_rfl) (by kernel_rfl)) ?_
  intro W base args ds gs before hval0 hW hcnd hsz0 _
  have hval : ∀ (j : Nat) t v, Try.f3.params[j]? = some t → args[j]? = some v → Value.okWide Try.prog W .any base t v := hval0
  have hW' := hW
  obtain ⟨p, q, hA0, hV, rfl, hfz, hnd⟩ := hW
  have hA : DataW.TrodAll enc Try.prog W 0 (fun _ => true) true Try.f3.params.toList args.toList ds p := hA0
  have hsz : (DataW.weightsEach Try.prog (Try.f3.params.toList ++ Rows.goneSpec.plain.varTypes Try.prog) (ds ++ gs)).all (· ≤ reachBytes) = true := hsz0
  rw [Try.params3] at hA hval hsz
  obtain ⟨v0, vs0, d0, ds0, p0, q0, hargs, rfl, rfl, h0, r0⟩ := trodAll_cons hA
  obtain ⟨v1, vs1, d1, ds1, p1, q1, rfl, rfl, rfl, h1, r1⟩ := trodAll_cons r0
  obtain ⟨v2, vs2, d2, ds2, p2, q2, rfl, rfl, rfl, h2, r2⟩ := trodAll_cons r1
  obtain ⟨v3, vs3, d3, ds3, p3, q3, rfl, rfl, rfl, h3, r3⟩ := trodAll_cons r2
  obtain ⟨rfl, rfl, rfl⟩ := trodAll_nil r3
  obtain rfl : args = #[v0, v1, v2, v3] := by cases args; simp_all
  obtain ⟨rfl, rfl⟩ := trodVars_none hV
  obtain ⟨cs0, rfl, hcs0⟩ := okWide_struct Try.underlying23 (hval 0 23 v0 rfl rfl)
  have h0k := h0
  obtain ⟨fu0, hf0⟩ := h0
  obtain ⟨hl0, ca0, cb0, cp0, ea0, eb0, ep0, ra0, rb0, rp0⟩ := conf_cells hf0
  obtain rfl := agg3 cs0 _ _ _ hl0 ea0 eb0 ep0
  obtain ⟨sa1, sn1, sc1, rfl⟩ := okWide_slice Try.underlying24 (hval 1 24 v1 rfl rfl)
  have h1k := h1
  obtain ⟨fu1, hf1⟩ := h1
  obtain ⟨len, ops, hsc, hlen⟩ := open_steps (x := (d1, p1)) hf1 hsz (q := 1) rfl rfl
  obtain ⟨st2, rfl⟩ := okWide_string Try.underlying9 (hval 2 9 v2 rfl rfl)
  have h2k := h2
  obtain ⟨fu2, hf2⟩ := h2
  have rs2 : st2.size ≤ 9223372036854775807 := by
    obtain ⟨s, e, _, hs⟩ := DataW.trod_string Try.underlying9 hf2
    have e' : [Value.string st2] = [Value.string s] := e
    simp at e'
    rw [e']; unfold maxLen at hs; omega
  obtain ⟨st3, rfl⟩ := okWide_string Try.underlying9 (hval 3 9 v3 rfl rfl)
  have h3k := h3
  obtain ⟨fu3, hf3⟩ := h3
  have rs3 : st3.size ≤ 9223372036854775807 := by
    obtain ⟨s, e, _, hs⟩ := DataW.trod_string Try.underlying9 hf3
    have e' : [Value.string st3] = [Value.string s] := e
    simp at e'
    rw [e']; unfold maxLen at hs; omega
  clear hA0 hval0
  have hlt0 : ∀ x ∈ p0, x.block < W.heap.size := fun x hx => by simpa using hW'.lt x (by simp [hx])
  have hlt1 : ∀ x ∈ p1, x.block < W.heap.size := fun x hx => by simpa using hW'.lt x (by simp [hx])
  have hlt2 : ∀ x ∈ p2, x.block < W.heap.size := fun x hx => by simpa using hW'.lt x (by simp [hx])
  have hlt3 : ∀ x ∈ p3, x.block < W.heap.size := fun x hx => by simpa using hW'.lt x (by simp [hx])
  refine (gone_law hC hM ca0 cb0 cp0 ra0 rb0 rp0 _ len ops st2 st3 rs2 rs3 W hsc (by omega)).mono fun e W' ⟨he, bel⟩ => ?_
  subst he
  exact ⟨_, rfl, _, _, _, [], _, [], hW', trodAll_mk1 (shut_bool Try.underlying4 _), trodAll_cons_mk (Below.trod gone_laid (by kernel_rfl) (of_decide_eq_true (by kernel_rfl)) h0k bel hlt0) (trodAll_cons_mk (Below.trod gone_laid (by kernel_rfl) (of_decide_eq_true (by kernel_rfl)) h1k bel hlt1) (trodAll_cons_mk (Below.trod gone_laid (by kernel_rfl) (of_decide_eq_true (by kernel_rfl)) h2k bel hlt2) (trodAll_cons_mk (Below.trod gone_laid (by kernel_rfl) (of_decide_eq_true (by kernel_rfl)) h3k bel hlt3) trodAll_mk0))), rfl, bel.frame _, fun h => by cases h⟩

theorem gone_holds (hC : Keeps M At 28 21 23 60 62 20 58 11) (hM : M ≤ 9000000000000000) (hL : 6000000000000 ≤ M) : Rows.GoneSaid :=
  OpenClaim.holds_of_wide 3 Try.f3 rfl rfl rfl rfl rfl rfl rfl ⟨rfl, rfl, rfl, rfl, rfl⟩ rfl rfl rfl rfl rfl (by kernel_rfl) Try.func3 (by kernel_rfl)
    (of_decide_eq_true (by kernel_rfl)) (by unfold Func.isWrapper; first | (rw [if_pos (by decide +kernel)]; kernel_rfl) | (rw [if_neg (by decide +kernel)]; exact ⟨rfl, rfl⟩))
    (fun os started H enc _ => gone_lifted hC hM hL os started H enc)
end

end Go.Proofs.Ythkndfkkgncjfab
