/- LawI0, LawZ. -/
import Derived.Test.YthkndfkkgncjfabLawQJA
import Derived.Test.YthkndfkkgncjfabRows
import Derived.ProofKit
import Derived.OpenShut
import Derived.Carry
import Derived.SizedLaws
namespace Go.Proofs.Ythkndfkkgncjfab
open Go.ChangeShapes Go.WideShapes Go.ChangeAt Go.RowKit
set_option linter.unusedVariables false
set_option maxRecDepth 100000

/-- a script's length, by its weight -/
theorem script_len {H : Type} {enc : TypeId × Value → H} {w : World} {base n : Nat} {spare : Nat → Bool} {held : Bool} {v : Value} {x : DataW H × List MemPlace} (h : DataW.trod enc Try.prog w base spare held n 46 [v] = some x)
    {ts : List TypeId} {ds : List (DataW H)} (hsz : (DataW.weightsEach Try.prog ts ds).all (· ≤ reachBytes) = true) {j : Nat} (ht : ts[j]? = some 46) (hd : ds[j]? = some x.1) : ∃ len os, Script w v len os ∧ len ≤ 1999999999999 := by
  obtain ⟨len, os, hs⟩ := open_script h
  refine ⟨len, os, hs, ?_⟩
  rcases Deep.open_slice Try.underlying46 h with ⟨h0, _⟩ | ⟨a, len', cap, m, n2, D, Pl, hv, hb, hl, hm, hmm, hx, _⟩
  · simp only [List.cons.injEq, and_true] at h0
    rcases hs with ⟨_, h2⟩ | ⟨a, cap, h1, _⟩
    · omega
    · rw [h0] at h1; cases h1
  · simp only [List.cons.injEq, and_true] at hv
    have hll : len = len' := by
      rcases hs with ⟨h1, h2⟩ | ⟨a, cap, h1, _⟩
      · rw [h1] at hv; cases hv
      · rw [h1] at hv; cases hv; rfl
    subst hll
    rw [hx] at hd
    have := sized_slice hsz ht hd Try.underlying46
    rw [show Try.prog.bytesOf 82 = 80 from by kernel_rfl] at this
    simp only [List.length_map, List.length_range] at this
    unfold reachBytes at this
    omega

theorem script_own : ownKnob Try.prog.godebug = none := by kernel_rfl
theorem script_laid : laidOutB Try.prog = true := by kernel_rfl

end Go.Proofs.Ythkndfkkgncjfab

namespace Go.Proofs.Ythkndfkkgncjfab
open Go.ChangeShapes Go.WideShapes Go.ChangeAt Go.RowKit
set_option linter.unusedVariables false
set_option maxRecDepth 100000

section
variable {At : World → Nat → Int → Int → Int → List Do.Chg → (Nat → Prop) → Prop}

theorem steps_parts (hC : Serves At 28 21 23 60 62 20 58 11) (hS : Says At 16) : Steps At (fun _ => DNone) 9 9 := by
  intro B G D m n v bs own o w hm hI hB hg hn ho hk
  by_cases h9 : o.k = 9
  · refine (step_sta hC hS drawn_none own n o w hI hB hg hn ho h9).mono ?_
    rintro e w' ⟨he, v', bs', own', h1, h2, h3⟩
    exact ⟨he, 0, v', bs', own', Nat.zero_le _, h1, h2, h3⟩
  · refine (step_inv hC drawn_none own n o w hI hB hg hn ho (by omega) (by omega) h9 (by omega) (by omega)).mono ?_
    rintro e w' ⟨he, v', bs', own', h1, h2, h3⟩
    exact ⟨he, 0, v', bs', own', Nat.zero_le _, h1, h2, h3⟩

theorem parts_law (hC : Serves At 28 21 23 60 62 20 58 11) (hS : Says At 16) (sv : Value) (len : Nat) (os : Nat → OpV) (w : World) (hsc : Script w sv len os) (hlen : len ≤ 1999999999999) :
    Calls Try.prog 4 #[sv] w fun e w' => e = .returned (.bool true) ∧ Below w.heap.size w w' := by
  go_enter Try.func4, Try.ntmps4
  go_wp2_with fail
  refine (plays_law hC (fun _ => drawn_none) (fun w D h => ⟨h, rfl, fun k hk => by rw [hk]; exact lt_of_block h⟩) 9 9 (steps_parts hC hS) sv len os w hsc hlen).mono ?_
  rintro e w1 ⟨rfl, hb⟩
  go_wp2_with fail
  go_ret
  exact ⟨rfl, hb⟩

theorem parts_lifted (hC : Serves At 28 21 23 60 62 20 58 11) (hS : Says At 16) (os : Os) (started : os.Started) (H : Type) (enc : TypeId × Value → H) :
    ReturnsInHanded {} Try.checked os 4 .any (Rows.partsSpec.pre6 enc Try.prog Try.f4 Rows.partsRow.domain false) (Rows.partsSpec.post enc Try.prog Try.f4 false true false false) := by
  refine returnsInHanded_of_change_sized (C := Try.checked) script_own started (by kernel_rfl) Try.func4
    (ChangeSpec.witness6 (enc := enc) (C := Try.checked) false ⟨#[], #[.slice none 0 0], []⟩ 8 (by kernel_rfl) (by kernel_rfl) (by kernel_rfl) (by kernel_rfl)) ?_
  intro W base args ds gs before hval0 hW hcnd hsz0 _
  have hval : ∀ (j : Nat) t v, Try.f4.params[j]? = some t → args[j]? = some v → Value.okWide Try.prog W .any base t v := hval0
  have hW' := hW
  obtain ⟨p, q, hA0, hV, rfl, hfz, hnd⟩ := hW
  have hA : DataW.TrodAll enc Try.prog W 0 (fun _ => true) true Try.f4.params.toList args.toList ds p := hA0
  have hsz : (DataW.weightsEach Try.prog (Try.f4.params.toList ++ Rows.partsSpec.plain.varTypes Try.prog) (ds ++ gs)).all (· ≤ reachBytes) = true := hsz0
  rw [Try.params4] at hA hval hsz
  obtain ⟨v0, vs0, d0, ds0, p0, q0, hargs, rfl, rfl, h0, r0⟩ := trodAll_cons hA
  obtain ⟨rfl, rfl, rfl⟩ := trodAll_nil r0
  obtain rfl : args = #[v0] := by cases args; simp_all
  obtain ⟨rfl, rfl⟩ := trodVars_none hV
  obtain ⟨a0, n0, cap0, rfl⟩ := okWide_slice Try.underlying46 (hval 0 46 v0 rfl rfl)
  have h0k := h0
  obtain ⟨fuel, hf⟩ := h0
  clear hA0 hval0
  have hlt : ∀ x ∈ p0, x.block < W.heap.size := fun x hx => by simpa using hW'.lt x (by simp [hx])
  obtain ⟨len, ops, hsc, hlen⟩ := script_len (x := (d0, p0)) hf hsz (j := 0) rfl rfl
  refine (parts_law hC hS _ len ops W hsc hlen).mono fun e W' ⟨he, bel⟩ => ?_
  subst he
  exact ⟨_, rfl, _, _, _, [], _, [], hW', trodAll_mk1 (shut_bool Try.underlying4 _), trodAll_cons_mk (Below.trod script_laid (by kernel_rfl) (of_decide_eq_true (by kernel_rfl)) h0k bel hlt) trodAll_mk0, rfl, bel.frame _, fun h => by cases h⟩

theorem parts_holds (hC : Serves At 28 21 23 60 62 20 58 11) (hS : Says At 16) : Rows.PartsSaid :=
  OpenClaim.holds_of_wide 4 Try.f4 rfl rfl rfl rfl rfl rfl rfl ⟨rfl, rfl, rfl, rfl, rfl⟩ rfl rfl rfl rfl rfl (by kernel_rfl) Try.func4 (by kernel_rfl)
    (of_decide_eq_true (by kernel_rfl)) (by unfold Func.isWrapper; first | (rw [if_pos (by decide +kernel)]; kernel_rfl) | (rw [if_neg (by decide +kernel)]; exact ⟨rfl, rfl⟩))
    (fun os started H enc _ => parts_lifted hC hS os started H enc)

end

end Go.Proofs.Ythkndfkkgncjfab
