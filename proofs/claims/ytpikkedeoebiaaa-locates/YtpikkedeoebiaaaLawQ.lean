/- BASE2. Changes: from a script played to the given statement in its second form, for any index that serves. -/
import Derived.Test.YtpikkedeoebiaaaLawO
import Derived.Test.YtpikkedeoebiaaaRows
import Derived.ProofKit
import Derived.OpenShut
import Derived.JoinedCond
import Derived.Carry
import Derived.SizedLaws
namespace Go.Proofs.Ytpikkedeoebiaaa
open Go.ChangeShapes Go.WideShapes Go.ChangeAt Go.RowKit
set_option linter.unusedVariables false
set_option maxRecDepth 100000

theorem weigh_one {H : Type} : ∀ (d : DataW H), 0 < Rows.uptoBulk d
  | .lit l => by cases l <;> simp [Rows.uptoBulk]
  | .nil => by simp [Rows.uptoBulk]
  | .ptr _ => by simp [Rows.uptoBulk]
  | .slice _ _ => by simp [Rows.uptoBulk]
  | .agg _ => by simp [Rows.uptoBulk]
  | .iface _ _ => by simp [Rows.uptoBulk]
  | .map _ => by simp [Rows.uptoBulk]
  | .held _ => by simp [Rows.uptoBulk]
theorem weigh_many {H : Type} : ∀ (l : List (DataW H)), l.length ≤ Rows.uptoBulkAll l
  | [] => Nat.zero_le _
  | d :: r => by
    have h1 := weigh_one d
    have h2 := weigh_many r
    rw [List.length_cons, Rows.uptoBulkAll]; omega

/-- a script's length, by what it holds -/
theorem script_few {H : Type} {enc : TypeId × Value → H} {w : World} {base n : Nat} {spare : Nat → Bool} {held : Bool} {v : Value} {x : DataW H × List MemPlace} (h : DataW.trod enc Try.prog w base spare held n 47 [v] = some x)
    (hk : Rows.uptoSmall H [x.1] = true) : ∃ len os, Script w v len os ∧ len ≤ 1048576 := by
  obtain ⟨len, os, hs⟩ := open_script h
  refine ⟨len, os, hs, ?_⟩
  have hk2 : Rows.uptoBulkAll [x.1] ≤ 1048576 := of_decide_eq_true hk
  rcases Deep.open_slice Try.underlying47 h with ⟨h0, _⟩ | ⟨a, len', cap, m, n2, D, Pl, hv, hb, hl, hm, hmm, hx, _⟩
  · simp only [List.cons.injEq, and_true] at h0
    rcases hs with ⟨_, h2⟩ | ⟨a, cap, h1, _⟩
    · omega
    · rw [h0] at h1; cases h1
  · simp only [List.cons.injEq, and_true] at hv
    have hll : len = len' := by
      rcases hs with ⟨h1, h2⟩ | ⟨a, cap, h1, _⟩
      · rw [h1] at hv; cases hv
      · rw [h1] at hv; cases hv; rfl
    subst hll
    rw [hx] at hk2
    simp only [Rows.uptoBulkAll, Rows.uptoBulk] at hk2
    have := weigh_many ((List.range len).map D)
    simp only [List.length_map, List.length_range] at this
    omega

theorem script_own2 : ownKnob Try.prog.godebug = none := by kernel_rfl
theorem script_laid2 : laidOutB Try.prog = true := by kernel_rfl

section
variable {At : World → Nat → Int → Int → Int → List Do.Chg → (Nat → Prop) → Prop}

theorem changes_lifted (hC : Serves At 67 73 74 28 34 36 56 35) (os : Os) (started : os.Started) (H : Type) (enc : TypeId × Value → H) (K : Stop.Interp) :
    ReturnsInHanded {} Try.checked os 8 .any ((Rows.OpenSpec.upto Rows.changesSpec).pre6 enc Try.prog Try.f8 Rows.changesUptoRow.domain false) (((Rows.OpenSpec.upto Rows.changesSpec).at K).post enc Try.prog Try.f8 false true false false) := by
  refine returnsInHanded_of_cond (C := Try.checked) (s := Rows.OpenSpec.upto Rows.changesSpec) (k := Rows.uptoSmall) rfl script_own2 started (by kernel_rfl) Try.func8
    (OpenSpec.witness (enc := enc) (C := Try.checked) (s := Rows.OpenSpec.upto Rows.changesSpec) (k := Rows.uptoSmall) rfl false ⟨#[], #[.slice none 0 0], []⟩ 8 (by kernel_rfl) (by kernel_rfl) (by kernel_rfl)
      (x := ([.nil], [], [])) (by kernel_rfl) rfl (by kernel_rfl)) ?_
  intro W base args ds gs before hval0 hW _ hk _
  have hval : ∀ (j : Nat) t v, Try.f8.params[j]? = some t → args[j]? = some v → Value.okWide Try.prog W .any base t v := hval0
  have hW' := hW
  obtain ⟨p, q, hA0, hV, rfl, hfz, hnd⟩ := hW
  have hA : DataW.TrodAll enc Try.prog W 0 (fun _ => true) true Try.f8.params.toList args.toList ds p := hA0
  rw [Try.params8] at hA hval
  obtain ⟨v0, vs0, d0, ds0, p0, q0, hargs, rfl, rfl, h0, r0⟩ := trodAll_cons hA
  obtain ⟨rfl, rfl, rfl⟩ := trodAll_nil r0
  obtain rfl : args = #[v0] := by cases args; simp_all
  obtain ⟨rfl, rfl⟩ := trodVars_none hV
  obtain ⟨a0, n0, cap0, rfl⟩ := okWide_slice Try.underlying47 (hval 0 47 v0 rfl rfl)
  have h0k := h0
  obtain ⟨fuel, hf⟩ := h0
  clear hA0 hval0
  have hlt : ∀ x ∈ p0, x.block < W.heap.size := fun x hx => by simpa using hW'.lt x (by simp [hx])
  obtain ⟨len, ops, hsc, hlen⟩ := script_few (x := (d0, p0)) hf (by simpa using hk)
  refine (changes_law hC _ len ops W hsc hlen).mono fun e W' ⟨he, bel⟩ => ?_
  subst he
  exact ⟨_, rfl, _, _, _, [], _, [], hW', trodAll_mk1 (shut_bool Try.underlying4 _), trodAll_cons_mk (Below.trod script_laid2 (by kernel_rfl) (of_decide_eq_true (by kernel_rfl)) h0k bel hlt) trodAll_mk0, rfl, bel.frame _, fun h => by cases h⟩

theorem changes_holds (hC : Serves At 67 73 74 28 34 36 56 35) : Rows.ChangesUptoSaid :=
  OpenClaim.holds_of_cond 8 Try.f8 rfl rfl rfl rfl rfl rfl rfl ⟨rfl, rfl, rfl, rfl, rfl⟩ rfl rfl rfl rfl rfl (by kernel_rfl) Try.func8 (by kernel_rfl)
    (of_decide_eq_true (by kernel_rfl)) (by unfold Func.isWrapper; first | (rw [if_pos (by decide +kernel)]; kernel_rfl) | (rw [if_neg (by decide +kernel)]; exact ⟨rfl, rfl⟩))
    (fun os started H enc _ K => changes_lifted hC os started H enc K)
end

end Go.Proofs.Ytpikkedeoebiaaa
