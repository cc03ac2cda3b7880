/- A desk's script that came in, opened; short; what a script leaves. -/
import Derived.Test.YtpikkedeoebiaaaDeskE
namespace Go.Proofs.Ytpikkedeoebiaaa
open Go.ChangeShapes Go.WideShapes Go.ChangeAt Go.RowKit Go.Deep
set_option maxRecDepth 100000

def stCells (o : StV) : List Value := [.int .i64 o.k, .int .i64 o.a, .string o.s]
theorem Try.cells57 : Try.prog.cellsOf 57 = 3 := by kernel_rfl

section
variable {H : Type} {enc : TypeId × Value → H} {w : World} {base : Nat} {spare : Nat → Bool} {held : Bool}
theorem st_cells {n : Nat} {cs : List Value} {x : DataW H × List MemPlace} (h : DataW.trod enc Try.prog w base spare held n 57 cs = some x) : ∃ o : StV, cs = stCells o ∧ o.ok := by
  obtain ⟨xs, m, _, _, hl, hxl, hf⟩ := DataW.trod_struct Try.underlying57 h
  rw [Try.cells57] at hl
  have hsz : xs.length = 3 := hxl
  have get : ∀ i, i < 3 → ∃ y, xs[i]? = some y := fun i hi => ⟨xs[i], List.getElem?_eq_getElem (by omega)⟩
  obtain ⟨y0, e0⟩ := get 0 (by omega)
  obtain ⟨y1, e1⟩ := get 1 (by omega)
  obtain ⟨y2, e2⟩ := get 2 (by omega)
  have g0 : DataW.trod enc Try.prog w base spare held m 3 ((cs.drop 0).take (Try.prog.cellsOf 3)) = xs[0]? := hf 0 _ rfl
  rw [Try.cells3] at g0
  have g1 : DataW.trod enc Try.prog w base spare held m 3 ((cs.drop 1).take (Try.prog.cellsOf 3)) = xs[1]? := hf 1 _ rfl
  rw [Try.cells3] at g1
  have g2 : DataW.trod enc Try.prog w base spare held m 9 ((cs.drop 2).take (Try.prog.cellsOf 9)) = xs[2]? := hf 2 _ rfl
  rw [Try.cells9] at g2
  rw [e0] at g0
  rw [e1] at g1
  rw [e2] at g2
  obtain ⟨k, hk, rk⟩ := int_field (by omega) g0
  obtain ⟨a, ha, ra⟩ := int_field (by omega) g1
  obtain ⟨s, hs, hss⟩ := str_field (by omega) g2
  refine ⟨⟨k, a, s⟩, ?_, rk, ra, hss⟩
  refine List.ext_getElem? (fun i => ?_)
  rcases (show i = 0 ∨ i = 1 ∨ i = 2 ∨ 3 ≤ i by omega) with rfl | rfl | rfl | hi
  · exact hk
  · exact ha
  · exact hs
  · rw [List.getElem?_eq_none (by omega), List.getElem?_eq_none (by show 3 ≤ i; exact hi)]

/-- a script's cells, step by step -/
def Steps3 (w : World) (v : Value) (len : Nat) (os : Nat → StV) : Prop :=
  ∃ a0 cap, v = .slice a0 len cap ∧ ∀ k, k < len → ∃ gb off, a0 = some ⟨gb, off, none⟩ ∧ (os k).ok ∧ ∀ j u, (stCells (os k))[j]? = some u → w.cell? ⟨gb, off + k * 3 + j, none⟩ = some u

theorem open_steps {n : Nat} {v : Value} {x : DataW H × List MemPlace} (h : DataW.trod enc Try.prog w base spare held n 52 [v] = some x)
    {ts : List TypeId} {ds : List (DataW H)} (hsz : (DataW.weightsEach Try.prog ts ds).all (· ≤ reachBytes) = true) {q : Nat} (ht : ts[q]? = some 52) (hd : ds[q]? = some x.1) : ∃ len os, Steps3 w v len os ∧ len ≤ 4999999999999 := by
  rcases open_slice Try.underlying52 h with ⟨h0, _⟩ | ⟨a, len, cap, m, n2, D, Pl, hv, hb, hl, hm, hmm, hx1, hx⟩
  · simp only [List.cons.injEq, and_true] at h0
    exact ⟨0, fun _ => ⟨0, 0, ⟨#[]⟩⟩, ⟨none, 0, h0, fun k hk => by omega⟩, by omega⟩
  · simp only [List.cons.injEq, and_true] at hv
    have hlm : len ≤ m := by rw [hmm]; split <;> omega
    have each : ∀ i, i < len → ∃ o : StV, o.ok ∧ ∀ j u, (stCells o)[j]? = some u → w.cell? (a.add (i * 3 + j)) = some u := by
      intro i hi
      obtain ⟨cs', h1, h2⟩ := hx i (by omega)
      rw [Try.cells57] at h1
      obtain ⟨_, hlen, hcell⟩ := World.cells?_some h1
      obtain ⟨o, rfl, hs⟩ := st_cells h2
      refine ⟨o, hs, fun j u hu => ?_⟩
      have hj : j < 3 := by
        rcases Nat.lt_or_ge j 3 with h | h
        · exact h
        · rw [List.getElem?_eq_none (show (stCells o).length ≤ j from h)] at hu; cases hu
      rw [← Deep.add_add, hcell j hj, hu]
    obtain ⟨os, hos⟩ := @choose_lt StV ⟨⟨0, 0, ⟨#[]⟩⟩⟩ len _ each
    refine ⟨len, os, ⟨some a, cap, hv, fun k hk => ?_⟩, ?_⟩
    · have hsp := (hos 0 (by omega)).2 0 _ rfl
      obtain ⟨gb, off, spot⟩ := a
      have hs0 : spot = none := by
        cases spot with
        | none => rfl
        | some n =>
          exfalso
          simp [Addr.add, World.cell?] at hsp
          split at hsp <;> simp at hsp
      subst hs0
      refine ⟨gb, off, rfl, (hos k hk).1, fun j u hu => ?_⟩
      have := (hos k hk).2 j u hu
      rw [Nat.add_assoc]
      generalize k * 3 + j = q at *
      by_cases hq : q = 0
      · subst hq; simpa [Addr.add] using this
      · simpa [Addr.add, hq] using this
    · rw [hx1] at hd
      have := sized_slice hsz ht hd Try.underlying52
      rw [show Try.prog.bytesOf 57 = 32 from by kernel_rfl] at this
      simp only [List.length_map, List.length_range] at this
      unfold reachBytes at this
      omega
end

theorem agg3 (cs : Array Value) (x y z : Value) (hl : (Value.agg cs).cells.toList.length = 3) (e0 : (Value.agg cs).cells.toList[0]? = some x) (e1 : (Value.agg cs).cells.toList[1]? = some y) (e2 : (Value.agg cs).cells.toList[2]? = some z) : cs = #[x, y, z] := by
  have h : (Value.agg cs).cells = cs := rfl
  rw [h] at hl e0 e1 e2
  obtain ⟨l⟩ := cs
  match l, hl with
  | [a, b, c], _ =>
    simp at e0 e1 e2
    rw [e0, e1, e2]

/-- the changes behind the first k steps -/
def csAt (a : Int) (os : Nat → StV) : Nat → List Do.Chg
  | 0 => []
  | k + 1 => stRes a (csAt a os k) (os k)
theorem csAt_len (a : Int) (os : Nat → StV) : ∀ k, (csAt a os k).length ≤ k
  | 0 => Nat.le_refl _
  | k + 1 => by have := csAt_len a os k; have := stRes_len a (csAt a os k) (os k); rw [csAt]; omega

/-- at most so many bytes -/
def cut (s : ByteArray) (n : Nat) : ByteArray := if n < s.size then s.extract 0 n else s
theorem cut_size (s : ByteArray) (n : Nat) : (cut s n).size = min n s.size := by
  unfold cut
  split
  · rw [ByteArray.size_extract]; omega
  · omega
set_option maxHeartbeats 400000 in
theorem kshort_any (s : ByteArray) (n : Nat) (w : World) (_hs : s.size ≤ 9223372036854775807) (hn : n ≤ 1000) :
    Calls Try.prog 17 #[.string s, .int .i64 (n : Int)] w fun e w' => e = .returned (.string (cut s n)) ∧ w' = w := by
  by_cases h : n < s.size
  · have HC : Hid (cut s n = s.extract 0 n) := by show _ = _; unfold cut; rw [if_pos h]
    have d : decide ((n : Int) < (s.size : Int)) = true := by rw [decide_eq_true_eq]; omega
    go_enter Try.func17, Try.ntmps17
    go_wp2
    go_ret
    exact ⟨by rw [HC.out]; rfl, rfl⟩
  · have HC : Hid (cut s n = s) := by show _ = _; unfold cut; rw [if_neg h]
    have d : decide ((n : Int) < (s.size : Int)) = false := by rw [decide_eq_false_iff_not]; omega
    go_enter Try.func17, Try.ntmps17
    go_wp2
    go_ret
    exact ⟨by rw [HC.out]; rfl, rfl⟩

end Go.Proofs.Ytpikkedeoebiaaa
