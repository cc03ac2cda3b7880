/- A script that came in, opened: each step's cells. -/
import Derived.Test.YtpikkedeoebiaaaProg
import Derived.ProofKit
import Derived.OpenShut
import Derived.Deep.Slices
import Derived.KernelRfl
namespace Go.Proofs.Ytpikkedeoebiaaa
open Go.ChangeShapes Go.WideShapes Go.ChangeAt Go.RowKit Go.Deep
set_option maxRecDepth 100000

/-- a step of a script -/
structure OpV where
  k : Int
  on : Int
  a : Int
  b : Int
  c : Int
  s : ByteArray
  f0 : Int
  f1 : Int
  f2 : Int
def inR (x : Int) : Prop := -9223372036854775808 ≤ x ∧ x ≤ 9223372036854775807
/-- its numbers are ints -/
def OpV.ok (o : OpV) : Prop := inR o.k ∧ inR o.on ∧ inR o.a ∧ inR o.b ∧ inR o.c ∧ inR o.f0 ∧ inR o.f1 ∧ inR o.f2 ∧ o.s.size ≤ maxLen
def opCells (o : OpV) : List Value := [.int .i64 o.k, .int .i64 o.on, .int .i64 o.a, .int .i64 o.b, .int .i64 o.c, .string o.s, .int .i64 o.f0, .int .i64 o.f1, .int .i64 o.f2]

theorem Try.cells98 : Try.prog.cellsOf 98 = 9 := by kernel_rfl
theorem Try.cells51 : Try.prog.cellsOf 51 = 3 := by kernel_rfl
theorem Try.cells3 : Try.prog.cellsOf 3 = 1 := by kernel_rfl
theorem Try.cells9 : Try.prog.cellsOf 9 = 1 := by kernel_rfl

section
variable {H : Type} {enc : TypeId × Value → H} {w : World} {base : Nat} {spare : Nat → Bool} {held : Bool}

theorem drop_take1 (cs : List Value) (i : Nat) (h : i < cs.length) : (cs.drop i).take 1 = [cs[i]] := by
  rw [List.drop_eq_getElem_cons h]; rfl

theorem int_field {n i : Nat} {cs : List Value} {y : DataW H × List MemPlace} (hi : i < cs.length) (h : DataW.trod enc Try.prog w base spare held n 3 ((cs.drop i).take 1) = some y) : ∃ m, cs[i]? = some (.int .i64 m) ∧ inR m := by
  rw [drop_take1 cs i hi] at h
  obtain ⟨m, e, _, wf⟩ := DataW.trod_int Try.underlying3 h
  refine ⟨m, ?_, bounds_i64 wf⟩
  rw [List.getElem?_eq_getElem hi]
  simp only [List.cons.injEq, and_true] at e
  rw [e]
theorem str_field {n i : Nat} {cs : List Value} {y : DataW H × List MemPlace} (hi : i < cs.length) (h : DataW.trod enc Try.prog w base spare held n 9 ((cs.drop i).take 1) = some y) : ∃ s, cs[i]? = some (.string s) ∧ s.size ≤ maxLen := by
  rw [drop_take1 cs i hi] at h
  obtain ⟨s, e, _, hs⟩ := DataW.trod_string Try.underlying9 h
  refine ⟨s, ?_, hs⟩
  rw [List.getElem?_eq_getElem hi]
  simp only [List.cons.injEq, and_true] at e
  rw [e]

theorem conf_cells {n : Nat} {cs : List Value} {x : DataW H × List MemPlace} (h : DataW.trod enc Try.prog w base spare held n 51 cs = some x) :
    cs.length = 3 ∧ ∃ a b p : Int, cs[0]? = some (.int .i64 a) ∧ cs[1]? = some (.int .i64 b) ∧ cs[2]? = some (.int .i64 p) ∧ inR a ∧ inR b ∧ inR p := by
  obtain ⟨xs, m, _, _, hl, hxl, hf⟩ := DataW.trod_struct Try.underlying51 h
  rw [Try.cells51] at hl
  have hsz : xs.length = 3 := hxl
  have get : ∀ i, i < 3 → ∃ y, xs[i]? = some y := fun i hi => ⟨xs[i], List.getElem?_eq_getElem (by omega)⟩
  obtain ⟨y0, e0⟩ := get 0 (by omega)
  obtain ⟨y1, e1⟩ := get 1 (by omega)
  obtain ⟨y2, e2⟩ := get 2 (by omega)
  have g0 : DataW.trod enc Try.prog w base spare held m 3 ((cs.drop 0).take (Try.prog.cellsOf 3)) = xs[0]? := hf 0 _ rfl
  rw [Try.cells3] at g0
  have g1 : DataW.trod enc Try.prog w base spare held m 3 ((cs.drop 1).take (Try.prog.cellsOf 3)) = xs[1]? := hf 1 _ rfl
  rw [Try.cells3] at g1
  have g2 : DataW.trod enc Try.prog w base spare held m 3 ((cs.drop 2).take (Try.prog.cellsOf 3)) = xs[2]? := hf 2 _ rfl
  rw [Try.cells3] at g2
  rw [e0] at g0
  rw [e1] at g1
  rw [e2] at g2
  obtain ⟨a, ha, ra⟩ := int_field (by omega) g0
  obtain ⟨b, hb, rb⟩ := int_field (by omega) g1
  obtain ⟨p, hp, rp⟩ := int_field (by omega) g2
  exact ⟨hl, a, b, p, ha, hb, hp, ra, rb, rp⟩

theorem op_cells {n : Nat} {cs : List Value} {x : DataW H × List MemPlace} (h : DataW.trod enc Try.prog w base spare held n 98 cs = some x) :
    ∃ o : OpV, cs = opCells o ∧ o.ok := by
  obtain ⟨xs, m, _, _, hl, hxl, hf⟩ := DataW.trod_struct Try.underlying98 h
  rw [Try.cells98] at hl
  have hsz : xs.length = 7 := hxl
  have get : ∀ i, i < 7 → ∃ y, xs[i]? = some y := fun i hi => ⟨xs[i], List.getElem?_eq_getElem (by omega)⟩
  obtain ⟨y0, e0⟩ := get 0 (by omega)
  obtain ⟨y1, e1⟩ := get 1 (by omega)
  obtain ⟨y2, e2⟩ := get 2 (by omega)
  obtain ⟨y3, e3⟩ := get 3 (by omega)
  obtain ⟨y4, e4⟩ := get 4 (by omega)
  obtain ⟨y5, e5⟩ := get 5 (by omega)
  obtain ⟨y6, e6⟩ := get 6 (by omega)
  have g0 : DataW.trod enc Try.prog w base spare held m 3 ((cs.drop 0).take (Try.prog.cellsOf 3)) = xs[0]? := hf 0 _ rfl
  rw [Try.cells3] at g0
  have g1 : DataW.trod enc Try.prog w base spare held m 3 ((cs.drop 1).take (Try.prog.cellsOf 3)) = xs[1]? := hf 1 _ rfl
  rw [Try.cells3] at g1
  have g2 : DataW.trod enc Try.prog w base spare held m 3 ((cs.drop 2).take (Try.prog.cellsOf 3)) = xs[2]? := hf 2 _ rfl
  rw [Try.cells3] at g2
  have g3 : DataW.trod enc Try.prog w base spare held m 3 ((cs.drop 3).take (Try.prog.cellsOf 3)) = xs[3]? := hf 3 _ rfl
  rw [Try.cells3] at g3
  have g4 : DataW.trod enc Try.prog w base spare held m 3 ((cs.drop 4).take (Try.prog.cellsOf 3)) = xs[4]? := hf 4 _ rfl
  rw [Try.cells3] at g4
  have g5 : DataW.trod enc Try.prog w base spare held m 9 ((cs.drop 5).take (Try.prog.cellsOf 9)) = xs[5]? := hf 5 _ rfl
  rw [Try.cells9] at g5
  have g6 : DataW.trod enc Try.prog w base spare held m 51 ((cs.drop 6).take (Try.prog.cellsOf 51)) = xs[6]? := hf 6 _ rfl
  rw [Try.cells51] at g6
  rw [e0] at g0
  rw [e1] at g1
  rw [e2] at g2
  rw [e3] at g3
  rw [e4] at g4
  rw [e5] at g5
  rw [e6] at g6
  obtain ⟨k, hk, rk⟩ := int_field (by omega) g0
  obtain ⟨on, hon, ron⟩ := int_field (by omega) g1
  obtain ⟨a, ha, ra⟩ := int_field (by omega) g2
  obtain ⟨b, hb, rb⟩ := int_field (by omega) g3
  obtain ⟨c, hc, rc⟩ := int_field (by omega) g4
  obtain ⟨s, hs, hss⟩ := str_field (by omega) g5
  obtain ⟨_, f0, f1, f2, h0, h1, h2, r0, r1, r2⟩ := conf_cells g6
  refine ⟨⟨k, on, a, b, c, s, f0, f1, f2⟩, ?_, rk, ron, ra, rb, rc, r0, r1, r2, hss⟩
  have q0 : cs[6]? = some (.int .i64 f0) := by simpa [List.getElem?_take, List.getElem?_drop] using h0
  have q1 : cs[7]? = some (.int .i64 f1) := by simpa [List.getElem?_take, List.getElem?_drop] using h1
  have q2 : cs[8]? = some (.int .i64 f2) := by simpa [List.getElem?_take, List.getElem?_drop] using h2
  refine List.ext_getElem? (fun i => ?_)
  rcases (show i = 0 ∨ i = 1 ∨ i = 2 ∨ i = 3 ∨ i = 4 ∨ i = 5 ∨ i = 6 ∨ i = 7 ∨ i = 8 ∨ 9 ≤ i by omega) with rfl | rfl | rfl | rfl | rfl | rfl | rfl | rfl | rfl | hi
  · exact hk
  · exact hon
  · exact ha
  · exact hb
  · exact hc
  · exact hs
  · exact q0
  · exact q1
  · exact q2
  · rw [List.getElem?_eq_none (by omega), List.getElem?_eq_none (by show 9 ≤ i; exact hi)]

/-- a script's cells, step by step -/
def Script (w : World) (v : Value) (len : Nat) (os : Nat → OpV) : Prop :=
  (v = .slice none 0 0 ∧ len = 0) ∨ ∃ a cap, v = .slice (some a) len cap ∧ len ≤ maxLen ∧ ∀ i, i < len → (os i).ok ∧ ∀ j u, (opCells (os i))[j]? = some u → w.cell? (a.add (i * 9 + j)) = some u

theorem open_script {n : Nat} {v : Value} {x : DataW H × List MemPlace} (h : DataW.trod enc Try.prog w base spare held n 47 [v] = some x) : ∃ len os, Script w v len os := by
  rcases open_slice Try.underlying47 h with ⟨h0, _⟩ | ⟨a, len, cap, m, n2, D, Pl, hv, hb, hl, hm, hmm, _, hx⟩
  · simp only [List.cons.injEq, and_true] at h0
    exact ⟨0, fun _ => ⟨0, 0, 0, 0, 0, ⟨#[]⟩, 0, 0, 0⟩, .inl ⟨h0, rfl⟩⟩
  · simp only [List.cons.injEq, and_true] at hv
    have hlm : len ≤ m := by rw [hmm]; split <;> omega
    have each : ∀ i, i < len → ∃ o : OpV, o.ok ∧ ∀ j u, (opCells o)[j]? = some u → w.cell? (a.add (i * 9 + j)) = some u := by
      intro i hi
      obtain ⟨cs', h1, h2⟩ := hx i (by omega)
      rw [Try.cells98] at h1
      obtain ⟨_, hlen, hcell⟩ := World.cells?_some h1
      obtain ⟨o, rfl, hs⟩ := op_cells h2
      refine ⟨o, hs, fun j u hu => ?_⟩
      have hj : j < 9 := by
        rcases Nat.lt_or_ge j 9 with h | h
        · exact h
        · rw [List.getElem?_eq_none (show (opCells o).length ≤ j from h)] at hu; cases hu
      rw [← Deep.add_add, hcell j hj, hu]
    obtain ⟨os, hos⟩ := @choose_lt OpV ⟨⟨0, 0, 0, 0, 0, ⟨#[]⟩, 0, 0, 0⟩⟩ len _ each
    exact ⟨len, os, .inr ⟨a, cap, hv, by omega, hos⟩⟩
end

end Go.Proofs.Ytpikkedeoebiaaa
