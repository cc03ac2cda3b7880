/- FolV. -/
import Derived.Test.YthkndfkkgncjfabFolGJG
import Derived.Test.YthkndfkkgncjfabShtKJB
namespace Go.Proofs.Ythkndfkkgncjfab
open Go.RowKit
set_option maxRecDepth 100000

def CVal (w : World) (x : Nat) (a b p : Int) (cs : List Do.Chg) (F : Nat → Prop) : Prop := CIdx w x a b p cs F ∧ Valid b.toNat cs
theorem CIdx.conf {w : World} {x : Nat} {a b p : Int} {cs : List Do.Chg} {F : Nat → Prop} (h : CIdx w x a b p cs F) : okc a b p := by
  obtain ⟨bx, bf, _, _, _, _, _, _, _, _, _, _, h11, _⟩ := h
  exact h11
theorem CVal.small {w : World} {x : Nat} {a b p : Int} {cs : List Do.Chg} {F : Nat → Prop} (h : CVal w x a b p cs F) : b.toNat ≤ 80 := by
  have := h.1.conf.2.2.2.1
  omega
theorem val_serves : Serves CVal 28 21 23 60 62 20 58 11 where
  lt := fun h => h.1.lt
  frame := fun h hs hf => ⟨h.1.frame hs hf, h.2⟩
  wide := fun h hf hg => ⟨h.1.wide hf hg, h.2⟩
  new_ok := fun a b p w hc => (code_new a b p w hc).mono fun e w' ⟨x, F, he, h, hk, hb⟩ => ⟨x, F, he, ⟨h, Valid.nil _ (by have := hc.2.2.1; omega)⟩, hk, hb⟩
  new_no := cNew_no
  insert := fun s hl _ h => (code_ins s (by omega) h.1).mono fun e w' ⟨he, ho, G, hG, hk⟩ => ⟨he, ho, G, ⟨hG, h.2.ins h.small _ s⟩, hk⟩
  delete := fun id hl _ h => (code_del id (by omega) h.1).mono fun e w' ⟨he, ho, G, hG, hk⟩ => ⟨he, ho, G, ⟨hG, h.2.del h.small id⟩, hk⟩
  extract := fun id f t _ _ _ _ h => code_ext id f t h.1
  count := fun s _ _ h => code_cnt s h.1
  locate := fun s n i t _ _ _ _ _ h => code_loc s n i t h.1
  list := fun t n _ _ _ h => code_lst t n h.1
  version := fun _ h => code_ver h.1

theorem val_stats {w : World} {x : Nat} {a b p : Int} {cs : List Do.Chg} {F : Nat → Prop} (h : CVal w x a b p cs F) (P : Pa.Pt) (hP : Pa.parts b.toNat cs = P) (L : List Do.Chg) (hL : Do.there cs = L) (onv : Int) (hov : (if 0 < P.left then (1 : Int) else 0) = onv) :
    Calls Try.prog 16 #[.pointer (some ⟨x, 0, none⟩)] w fun e w' => e = .returned (.agg #[.int .i64 (L.length : Int), .int .i64 (Do.size L : Nat), .int .i64 (Pa.wt P.main : Nat), .int .i64 (Pa.wt P.frozen : Nat), .int .i64 (Pa.wt P.live : Nat), .int .i64 (Pa.wt (Pa.dead P.main) : Nat), .int .i64 (P.left : Int), .int .i64 onv, .int .i64 (P.hand : Int)]) ∧ Below w.heap.size w w' := by
  subst hov
  obtain ⟨bx, bf, h1, h2, h3, h4, h5, h6, h7, h8, h9, h10, h11, h12⟩ := h.1
  have hbf : bf ≤ 80 := by have := h11.2.2.2.1; omega
  have e : b.toNat = bf := by rw [h1]; exact Int.toNat_natCast _
  rw [e] at hP
  subst hP
  subst hL
  have := cStats_any x bx (tag (Pa.parts bf cs)) _ _ w (tag_few h7 hbf h12) (tag_small h7) (fun d hd => (tag_mem _ d hd).2) h2.lex.box h2.docs h2.left h2.hand
  rw [tag_there h7, (W_tag _).1, (W_tag _).2.1, (W_tag _).2.2, Wd_tag] at this
  exact this

end Go.Proofs.Ythkndfkkgncjfab
