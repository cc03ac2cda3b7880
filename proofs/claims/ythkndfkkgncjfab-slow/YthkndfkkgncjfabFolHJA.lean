/- FolH. -/
import Derived.Test.YthkndfkkgncjfabFolGJG
import Derived.Test.YthkndfkkgncjfabDeskDJA
namespace Go.Proofs.Ythkndfkkgncjfab
open Go.RowKit
set_option maxRecDepth 100000

theorem code_keeps : Keeps 9000000000000 CIdx 28 21 23 60 62 20 58 11 where
  lt := CIdx.lt
  frame := CIdx.frame
  wide := CIdx.wide
  new_ok := code_new
  insert := fun s hl _ h => code_ins s hl h
  delete := fun id hl _ h => code_del id hl h
  extract := fun id f t _ _ _ _ h => code_ext id f t h
  count := fun s _ _ h => code_cnt s h
  locate := fun s n i t _ _ _ _ _ h => code_loc s n i t h
  list := fun t n _ _ _ h => code_lst t n h
  version := fun _ h => code_ver h

end Go.Proofs.Ythkndfkkgncjfab
