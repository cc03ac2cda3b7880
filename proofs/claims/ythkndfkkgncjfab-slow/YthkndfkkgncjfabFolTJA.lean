/- FolT. -/
import Derived.Test.YthkndfkkgncjfabFolGJG
import Derived.Test.YthkndfkkgncjfabSlowHJA
namespace Go.Proofs.Ythkndfkkgncjfab
open Go.RowKit
set_option maxRecDepth 100000

theorem code_stats {w : World} {x : Nat} {a b p : Int} {cs : List Do.Chg} {F : Nat → Prop} (h : CIdx w x a b p cs F) :
    Calls Try.prog 16 #[.pointer (some ⟨x, 0, none⟩)] w fun e w' => e = .returned (told9 (Do.there cs) (Pa.parts b.toNat cs)) ∧ Below w.heap.size w w' := by
  obtain ⟨bx, bf, h1, h2, h3, h4, h5, h6, h7, h8, h9, h10, h11, h12⟩ := h
  have hbf : bf ≤ 80 := by have := h11.2.2.2.1; omega
  have e : b.toNat = bf := by rw [h1]; exact Int.toNat_natCast _
  rw [e]
  have := cStats_any x bx (tag (Pa.parts bf cs)) _ _ w (tag_few h7 hbf h12) (tag_small h7) (fun d hd => (tag_mem _ d hd).2) h2.lex.box h2.docs h2.left h2.hand
  rw [tag_there h7, (W_tag _).1, (W_tag _).2.1, (W_tag _).2.2, Wd_tag] at this
  exact this
theorem code_tells : Tells 9000000000000 CIdx 16 where
  stats := fun _ h => code_stats h
  inv := fun {w x a b p cs F} h => by
    obtain ⟨bx, bf, h1, h2, h3, h4, h5, h6, h7, _⟩ := h
    have e : b.toNat = bf := by rw [h1]; exact Int.toNat_natCast _
    rw [e]; exact h7
  hand := fun {w x a b p cs F} h => by
    obtain ⟨bx, bf, h1, h2, h3, h4, h5, h6, h7, h8, _⟩ := h
    have e : b.toNat = bf := by rw [h1]; exact Int.toNat_natCast _
    rw [e]; exact h8

end Go.Proofs.Ythkndfkkgncjfab
