import Derived.Test.YtibbhecojkehfaaGreatDoorMq20
set_option linter.all false
set_option maxRecDepth 100000
set_option maxHeartbeats 16000000
namespace Go.Proofs.YtibbhecojkehfaaGreatDoor
open Go Go.RowKit
def ansT:Array Value:=#[.string ⟨#[]⟩,.nilFunc,.string ⟨#[73,110,115,101,114,116]⟩,.func (.func 75) #[] #[],.string ⟨#[68,101,108,101,116,101]⟩,.func (.func 76) #[] #[],.string ⟨#[83,108,105,99,101]⟩,.func (.func 77) #[] #[],.string ⟨#[76,105,110,101,67,111,108]⟩,.func (.func 78) #[] #[],.string ⟨#[79,102,102,115,101,116]⟩,.func (.func 79) #[] #[],.string ⟨#[77,97,114,107]⟩,.func (.func 80) #[] #[],.string ⟨#[68,114,111,112]⟩,.func (.func 81) #[] #[],.string ⟨#[76,111,111,107]⟩,.func (.func 82) #[] #[],.string ⟨#[85,110,100,111]⟩,.func (.func 83) #[] #[],.string ⟨#[82,101,100,111]⟩,.func (.func 84) #[] #[],.string ⟨#[66,101,103,105,110]⟩,.func (.func 85) #[] #[],.string ⟨#[69,110,100]⟩,.func (.func 86) #[] #[],.string ⟨#[83,110,97,112]⟩,.func (.func 87) #[] #[],.string ⟨#[66,97,99,107]⟩,.func (.func 88) #[] #[],.string ⟨#[77,111,118,101]⟩,.func (.func 89) #[] #[],.string ⟨#[68,117,109,112]⟩,.func (.func 90) #[] #[]]
def ansZ:Array Value:=#[.string ⟨#[]⟩,.nilFunc,.string ⟨#[]⟩,.nilFunc,.string ⟨#[]⟩,.nilFunc,.string ⟨#[]⟩,.nilFunc,.string ⟨#[]⟩,.nilFunc,.string ⟨#[]⟩,.nilFunc,.string ⟨#[]⟩,.nilFunc,.string ⟨#[]⟩,.nilFunc,.string ⟨#[]⟩,.nilFunc,.string ⟨#[]⟩,.nilFunc,.string ⟨#[]⟩,.nilFunc,.string ⟨#[]⟩,.nilFunc,.string ⟨#[]⟩,.nilFunc,.string ⟨#[]⟩,.nilFunc,.string ⟨#[]⟩,.nilFunc,.string ⟨#[]⟩,.nilFunc,.string ⟨#[]⟩,.nilFunc]
theorem Je (w:World):Calls Tryz.prog 64 #[.int .i64 1] w fun e w'=>e= .returned (.tuple #[.agg #[.string ⟨#[73,110,115,101,114,116]⟩,.func (.func 75) #[] #[]],.nilIface])∧Below w.heap.size w w':=by
 have hsf:=Tryz.stF;have hsn:=Tryz.stN;have HBd:=hide (js 1 1 16 13 (w.alloc (.cells #[.string ⟨#[]⟩,.nilFunc] 171)))
 rw [show decide ((1:Int)<=1∧(1:Int)<=16)=true from rfl,show errV true 13= .nilIface from rfl]at HBd
 go_enter Tryz.func64,Tryz.ntmps64;go_wp2_with fail;refine HBd.out.mono ?_;rintro e w1 ⟨rfl,rfl⟩
 go_upto_region 4 with fail
 refine wp_region_lit ?_
 iterate 18 (refine wpList_plain rfl (fun K hK=>?_);go_simp;refine hK _ _ ?_;clear hK K)
 refine zH rfl 195 _ _ rfl (w.heap.size+1) ansZ ansT 195 rfl rfl (heap2 _ _ _ _) (by kernel_rfl) rfl (by kernel_rfl) ?_
 have KT:=hide (show(((w.alloc (.cells #[.string ⟨#[]⟩,.nilFunc] 171)).alloc (.cells #[.string ⟨#[]⟩,.nilFunc,.string ⟨#[]⟩,.nilFunc,.string ⟨#[]⟩,.nilFunc,.string ⟨#[]⟩,.nilFunc,.string ⟨#[]⟩,.nilFunc,.string ⟨#[]⟩,.nilFunc,.string ⟨#[]⟩,.nilFunc,.string ⟨#[]⟩,.nilFunc,.string ⟨#[]⟩,.nilFunc,.string ⟨#[]⟩,.nilFunc,.string ⟨#[]⟩,.nilFunc,.string ⟨#[]⟩,.nilFunc,.string ⟨#[]⟩,.nilFunc,.string ⟨#[]⟩,.nilFunc,.string ⟨#[]⟩,.nilFunc,.string ⟨#[]⟩,.nilFunc,.string ⟨#[]⟩,.nilFunc] 195)).setRow (w.heap.size+1) ansT).heap[w.heap.size+1]? =some (.cells ansT 195 (0,0))from setRow_heap _ _ _ _ _ _ (heap2 _ _ _ _))
 have KR:=hide (show(((w.alloc (.cells #[.string ⟨#[]⟩,.nilFunc] 171)).alloc (.cells #[.string ⟨#[]⟩,.nilFunc,.string ⟨#[]⟩,.nilFunc,.string ⟨#[]⟩,.nilFunc,.string ⟨#[]⟩,.nilFunc,.string ⟨#[]⟩,.nilFunc,.string ⟨#[]⟩,.nilFunc,.string ⟨#[]⟩,.nilFunc,.string ⟨#[]⟩,.nilFunc,.string ⟨#[]⟩,.nilFunc,.string ⟨#[]⟩,.nilFunc,.string ⟨#[]⟩,.nilFunc,.string ⟨#[]⟩,.nilFunc,.string ⟨#[]⟩,.nilFunc,.string ⟨#[]⟩,.nilFunc,.string ⟨#[]⟩,.nilFunc,.string ⟨#[]⟩,.nilFunc,.string ⟨#[]⟩,.nilFunc] 195)).setRow (w.heap.size+1) ansT).heap[w.heap.size]? =some (.cells #[.string ⟨#[]⟩,.nilFunc] 171 (0,0))from(setRow_other _ _ _ _ (by omega)).trans (heap1 _ _ _ _))
 have BW:=hide (show Below w.heap.size w (((w.alloc (.cells #[.string ⟨#[]⟩,.nilFunc] 171)).alloc (.cells #[.string ⟨#[]⟩,.nilFunc,.string ⟨#[]⟩,.nilFunc,.string ⟨#[]⟩,.nilFunc,.string ⟨#[]⟩,.nilFunc,.string ⟨#[]⟩,.nilFunc,.string ⟨#[]⟩,.nilFunc,.string ⟨#[]⟩,.nilFunc,.string ⟨#[]⟩,.nilFunc,.string ⟨#[]⟩,.nilFunc,.string ⟨#[]⟩,.nilFunc,.string ⟨#[]⟩,.nilFunc,.string ⟨#[]⟩,.nilFunc,.string ⟨#[]⟩,.nilFunc,.string ⟨#[]⟩,.nilFunc,.string ⟨#[]⟩,.nilFunc,.string ⟨#[]⟩,.nilFunc,.string ⟨#[]⟩,.nilFunc] 195)).setRow (w.heap.size+1) ansT)from below_setRow (bA (bA (Below.refl _ _) _) _) (by omega) _)
 generalize ((w.alloc (.cells #[.string ⟨#[]⟩,.nilFunc] 171)).alloc (.cells #[.string ⟨#[]⟩,.nilFunc,.string ⟨#[]⟩,.nilFunc,.string ⟨#[]⟩,.nilFunc,.string ⟨#[]⟩,.nilFunc,.string ⟨#[]⟩,.nilFunc,.string ⟨#[]⟩,.nilFunc,.string ⟨#[]⟩,.nilFunc,.string ⟨#[]⟩,.nilFunc,.string ⟨#[]⟩,.nilFunc,.string ⟨#[]⟩,.nilFunc,.string ⟨#[]⟩,.nilFunc,.string ⟨#[]⟩,.nilFunc,.string ⟨#[]⟩,.nilFunc,.string ⟨#[]⟩,.nilFunc,.string ⟨#[]⟩,.nilFunc,.string ⟨#[]⟩,.nilFunc,.string ⟨#[]⟩,.nilFunc] 195)).setRow (w.heap.size+1) ansT=w2 at *
 have t2:w2.cell? ⟨w.heap.size+1,2,none⟩=some (.string ⟨#[73,110,115,101,114,116]⟩):=by rw [cell_of_row _ _ 2 _ _ _ KT.out];rfl
 have t3:w2.cell? ⟨w.heap.size+1,3,none⟩=some (.func (.func 75) #[] #[]):=by rw [cell_of_row _ _ 3 _ _ _ KT.out];rfl
 have r0:w2.cell? ⟨w.heap.size,0,none⟩=some (.string ⟨#[]⟩):=by rw [cell_of_row _ _ 0 _ _ _ KR.out];rfl
 have r1:w2.cell? ⟨w.heap.size,1,none⟩=some .nilFunc:=by rw [cell_of_row _ _ 1 _ _ _ KR.out];rfl
 have rf:=fun j=>frozen_of_row w2 w.heap.size j _ _ KR.out
 have f0:=rf 0;have f1:=rf 1
 have CB:=hide (show Below w.heap.size w ((w2.setCell ⟨w.heap.size,0,none⟩ (.string ⟨#[73,110,115,101,114,116]⟩)).setCell ⟨w.heap.size,1,none⟩ (.func (.func 75) #[] #[]))from(BW.out.setCell (p:=⟨w.heap.size,0,none⟩) lR _).setCell (p:=⟨w.heap.size,1,none⟩) lR _)
 clear rf HBd;refine wpList_nil ?_;go_wp2;refine bodyPost_ret (v:=.tuple #[.agg #[.string ⟨#[73,110,115,101,114,116]⟩,.func (.func 75) #[] #[]],.nilIface]) ?_ rfl ⟨rfl,CB.out⟩
 have g0:((w2.setCell ⟨w.heap.size,0,none⟩ (.string ⟨#[73,110,115,101,114,116]⟩)).setCell ⟨w.heap.size,1,none⟩ (.func (.func 75) #[] #[])).cell? ⟨w.heap.size,0,none⟩=some (.string ⟨#[73,110,115,101,114,116]⟩):=by
  rw [cell_of_row _ _ 0 _ _ _ (heap_setCell_same _ w.heap.size 1 _ _ _ (heap_setCell_same w2 w.heap.size 0 _ _ _ KR.out))];rfl
 have g1:((w2.setCell ⟨w.heap.size,0,none⟩ (.string ⟨#[73,110,115,101,114,116]⟩)).setCell ⟨w.heap.size,1,none⟩ (.func (.func 75) #[] #[])).cell? ⟨w.heap.size,1,none⟩=some (.func (.func 75) #[] #[]):=by
  rw [cell_of_row _ _ 1 _ _ _ (heap_setCell_same _ w.heap.size 1 _ _ _ (heap_setCell_same w2 w.heap.size 0 _ _ _ KR.out))];rfl
 simp [results,Tryz.results64,go_sem,g0,g1]
theorem Jf (w:World):Calls Tryz.prog 64 #[.int .i64 9] w fun e w'=>e= .returned (.tuple #[.agg #[.string ⟨#[85,110,100,111]⟩,.func (.func 83) #[] #[]],.nilIface])∧Below w.heap.size w w':=by
 have hsf:=Tryz.stF;have hsn:=Tryz.stN;have HBd:=hide (js 9 1 16 13 (w.alloc (.cells #[.string ⟨#[]⟩,.nilFunc] 171)))
 rw [show decide ((1:Int)<=9∧(9:Int)<=16)=true from rfl,show errV true 13= .nilIface from rfl]at HBd
 go_enter Tryz.func64,Tryz.ntmps64;go_wp2_with fail;refine HBd.out.mono ?_;rintro e w1 ⟨rfl,rfl⟩
 go_upto_region 4 with fail
 refine wp_region_lit ?_
 iterate 18 (refine wpList_plain rfl (fun K hK=>?_);go_simp;refine hK _ _ ?_;clear hK K)
 refine zH rfl 195 _ _ rfl (w.heap.size+1) ansZ ansT 195 rfl rfl (heap2 _ _ _ _) (by kernel_rfl) rfl (by kernel_rfl) ?_
 have KT:=hide (show(((w.alloc (.cells #[.string ⟨#[]⟩,.nilFunc] 171)).alloc (.cells #[.string ⟨#[]⟩,.nilFunc,.string ⟨#[]⟩,.nilFunc,.string ⟨#[]⟩,.nilFunc,.string ⟨#[]⟩,.nilFunc,.string ⟨#[]⟩,.nilFunc,.string ⟨#[]⟩,.nilFunc,.string ⟨#[]⟩,.nilFunc,.string ⟨#[]⟩,.nilFunc,.string ⟨#[]⟩,.nilFunc,.string ⟨#[]⟩,.nilFunc,.string ⟨#[]⟩,.nilFunc,.string ⟨#[]⟩,.nilFunc,.string ⟨#[]⟩,.nilFunc,.string ⟨#[]⟩,.nilFunc,.string ⟨#[]⟩,.nilFunc,.string ⟨#[]⟩,.nilFunc,.string ⟨#[]⟩,.nilFunc] 195)).setRow (w.heap.size+1) ansT).heap[w.heap.size+1]? =some (.cells ansT 195 (0,0))from setRow_heap _ _ _ _ _ _ (heap2 _ _ _ _))
 have KR:=hide (show(((w.alloc (.cells #[.string ⟨#[]⟩,.nilFunc] 171)).alloc (.cells #[.string ⟨#[]⟩,.nilFunc,.string ⟨#[]⟩,.nilFunc,.string ⟨#[]⟩,.nilFunc,.string ⟨#[]⟩,.nilFunc,.string ⟨#[]⟩,.nilFunc,.string ⟨#[]⟩,.nilFunc,.string ⟨#[]⟩,.nilFunc,.string ⟨#[]⟩,.nilFunc,.string ⟨#[]⟩,.nilFunc,.string ⟨#[]⟩,.nilFunc,.string ⟨#[]⟩,.nilFunc,.string ⟨#[]⟩,.nilFunc,.string ⟨#[]⟩,.nilFunc,.string ⟨#[]⟩,.nilFunc,.string ⟨#[]⟩,.nilFunc,.string ⟨#[]⟩,.nilFunc,.string ⟨#[]⟩,.nilFunc] 195)).setRow (w.heap.size+1) ansT).heap[w.heap.size]? =some (.cells #[.string ⟨#[]⟩,.nilFunc] 171 (0,0))from(setRow_other _ _ _ _ (by omega)).trans (heap1 _ _ _ _))
 have BW:=hide (show Below w.heap.size w (((w.alloc (.cells #[.string ⟨#[]⟩,.nilFunc] 171)).alloc (.cells #[.string ⟨#[]⟩,.nilFunc,.string ⟨#[]⟩,.nilFunc,.string ⟨#[]⟩,.nilFunc,.string ⟨#[]⟩,.nilFunc,.string ⟨#[]⟩,.nilFunc,.string ⟨#[]⟩,.nilFunc,.string ⟨#[]⟩,.nilFunc,.string ⟨#[]⟩,.nilFunc,.string ⟨#[]⟩,.nilFunc,.string ⟨#[]⟩,.nilFunc,.string ⟨#[]⟩,.nilFunc,.string ⟨#[]⟩,.nilFunc,.string ⟨#[]⟩,.nilFunc,.string ⟨#[]⟩,.nilFunc,.string ⟨#[]⟩,.nilFunc,.string ⟨#[]⟩,.nilFunc,.string ⟨#[]⟩,.nilFunc] 195)).setRow (w.heap.size+1) ansT)from below_setRow (bA (bA (Below.refl _ _) _) _) (by omega) _)
 generalize ((w.alloc (.cells #[.string ⟨#[]⟩,.nilFunc] 171)).alloc (.cells #[.string ⟨#[]⟩,.nilFunc,.string ⟨#[]⟩,.nilFunc,.string ⟨#[]⟩,.nilFunc,.string ⟨#[]⟩,.nilFunc,.string ⟨#[]⟩,.nilFunc,.string ⟨#[]⟩,.nilFunc,.string ⟨#[]⟩,.nilFunc,.string ⟨#[]⟩,.nilFunc,.string ⟨#[]⟩,.nilFunc,.string ⟨#[]⟩,.nilFunc,.string ⟨#[]⟩,.nilFunc,.string ⟨#[]⟩,.nilFunc,.string ⟨#[]⟩,.nilFunc,.string ⟨#[]⟩,.nilFunc,.string ⟨#[]⟩,.nilFunc,.string ⟨#[]⟩,.nilFunc,.string ⟨#[]⟩,.nilFunc] 195)).setRow (w.heap.size+1) ansT=w2 at *
 have t2:w2.cell? ⟨w.heap.size+1,18,none⟩=some (.string ⟨#[85,110,100,111]⟩):=by rw [cell_of_row _ _ 18 _ _ _ KT.out];rfl
 have t3:w2.cell? ⟨w.heap.size+1,19,none⟩=some (.func (.func 83) #[] #[]):=by rw [cell_of_row _ _ 19 _ _ _ KT.out];rfl
 have r0:w2.cell? ⟨w.heap.size,0,none⟩=some (.string ⟨#[]⟩):=by rw [cell_of_row _ _ 0 _ _ _ KR.out];rfl
 have r1:w2.cell? ⟨w.heap.size,1,none⟩=some .nilFunc:=by rw [cell_of_row _ _ 1 _ _ _ KR.out];rfl
 have rf:=fun j=>frozen_of_row w2 w.heap.size j _ _ KR.out
 have f0:=rf 0;have f1:=rf 1
 have CB:=hide (show Below w.heap.size w ((w2.setCell ⟨w.heap.size,0,none⟩ (.string ⟨#[85,110,100,111]⟩)).setCell ⟨w.heap.size,1,none⟩ (.func (.func 83) #[] #[]))from(BW.out.setCell (p:=⟨w.heap.size,0,none⟩) lR _).setCell (p:=⟨w.heap.size,1,none⟩) lR _)
 clear rf HBd;refine wpList_nil ?_;go_wp2;refine bodyPost_ret (v:=.tuple #[.agg #[.string ⟨#[85,110,100,111]⟩,.func (.func 83) #[] #[]],.nilIface]) ?_ rfl ⟨rfl,CB.out⟩
 have g0:((w2.setCell ⟨w.heap.size,0,none⟩ (.string ⟨#[85,110,100,111]⟩)).setCell ⟨w.heap.size,1,none⟩ (.func (.func 83) #[] #[])).cell? ⟨w.heap.size,0,none⟩=some (.string ⟨#[85,110,100,111]⟩):=by
  rw [cell_of_row _ _ 0 _ _ _ (heap_setCell_same _ w.heap.size 1 _ _ _ (heap_setCell_same w2 w.heap.size 0 _ _ _ KR.out))];rfl
 have g1:((w2.setCell ⟨w.heap.size,0,none⟩ (.string ⟨#[85,110,100,111]⟩)).setCell ⟨w.heap.size,1,none⟩ (.func (.func 83) #[] #[])).cell? ⟨w.heap.size,1,none⟩=some (.func (.func 83) #[] #[]):=by
  rw [cell_of_row _ _ 1 _ _ _ (heap_setCell_same _ w.heap.size 1 _ _ _ (heap_setCell_same w2 w.heap.size 0 _ _ _ KR.out))];rfl
 simp [results,Tryz.results64,go_sem,g0,g1]
theorem JG (w:World):Calls Tryz.prog 64 #[.int .i64 16] w fun e w'=>e= .returned (.tuple #[.agg #[.string ⟨#[68,117,109,112]⟩,.func (.func 90) #[] #[]],.nilIface])∧Below w.heap.size w w':=by
 have hsf:=Tryz.stF;have hsn:=Tryz.stN;have HBd:=hide (js 16 1 16 13 (w.alloc (.cells #[.string ⟨#[]⟩,.nilFunc] 171)))
 rw [show decide ((1:Int)<=16∧(16:Int)<=16)=true from rfl,show errV true 13= .nilIface from rfl]at HBd
 go_enter Tryz.func64,Tryz.ntmps64;go_wp2_with fail;refine HBd.out.mono ?_;rintro e w1 ⟨rfl,rfl⟩
 go_upto_region 4 with fail
 refine wp_region_lit ?_
 iterate 18 (refine wpList_plain rfl (fun K hK=>?_);go_simp;refine hK _ _ ?_;clear hK K)
 refine zH rfl 195 _ _ rfl (w.heap.size+1) ansZ ansT 195 rfl rfl (heap2 _ _ _ _) (by kernel_rfl) rfl (by kernel_rfl) ?_
 have KT:=hide (show(((w.alloc (.cells #[.string ⟨#[]⟩,.nilFunc] 171)).alloc (.cells #[.string ⟨#[]⟩,.nilFunc,.string ⟨#[]⟩,.nilFunc,.string ⟨#[]⟩,.nilFunc,.string ⟨#[]⟩,.nilFunc,.string ⟨#[]⟩,.nilFunc,.string ⟨#[]⟩,.nilFunc,.string ⟨#[]⟩,.nilFunc,.string ⟨#[]⟩,.nilFunc,.string ⟨#[]⟩,.nilFunc,.string ⟨#[]⟩,.nilFunc,.string ⟨#[]⟩,.nilFunc,.string ⟨#[]⟩,.nilFunc,.string ⟨#[]⟩,.nilFunc,.string ⟨#[]⟩,.nilFunc,.string ⟨#[]⟩,.nilFunc,.string ⟨#[]⟩,.nilFunc,.string ⟨#[]⟩,.nilFunc] 195)).setRow (w.heap.size+1) ansT).heap[w.heap.size+1]? =some (.cells ansT 195 (0,0))from setRow_heap _ _ _ _ _ _ (heap2 _ _ _ _))
 have KR:=hide (show(((w.alloc (.cells #[.string ⟨#[]⟩,.nilFunc] 171)).alloc (.cells #[.string ⟨#[]⟩,.nilFunc,.string ⟨#[]⟩,.nilFunc,.string ⟨#[]⟩,.nilFunc,.string ⟨#[]⟩,.nilFunc,.string ⟨#[]⟩,.nilFunc,.string ⟨#[]⟩,.nilFunc,.string ⟨#[]⟩,.nilFunc,.string ⟨#[]⟩,.nilFunc,.string ⟨#[]⟩,.nilFunc,.string ⟨#[]⟩,.nilFunc,.string ⟨#[]⟩,.nilFunc,.string ⟨#[]⟩,.nilFunc,.string ⟨#[]⟩,.nilFunc,.string ⟨#[]⟩,.nilFunc,.string ⟨#[]⟩,.nilFunc,.string ⟨#[]⟩,.nilFunc,.string ⟨#[]⟩,.nilFunc] 195)).setRow (w.heap.size+1) ansT).heap[w.heap.size]? =some (.cells #[.string ⟨#[]⟩,.nilFunc] 171 (0,0))from(setRow_other _ _ _ _ (by omega)).trans (heap1 _ _ _ _))
 have BW:=hide (show Below w.heap.size w (((w.alloc (.cells #[.string ⟨#[]⟩,.nilFunc] 171)).alloc (.cells #[.string ⟨#[]⟩,.nilFunc,.string ⟨#[]⟩,.nilFunc,.string ⟨#[]⟩,.nilFunc,.string ⟨#[]⟩,.nilFunc,.string ⟨#[]⟩,.nilFunc,.string ⟨#[]⟩,.nilFunc,.string ⟨#[]⟩,.nilFunc,.string ⟨#[]⟩,.nilFunc,.string ⟨#[]⟩,.nilFunc,.string ⟨#[]⟩,.nilFunc,.string ⟨#[]⟩,.nilFunc,.string ⟨#[]⟩,.nilFunc,.string ⟨#[]⟩,.nilFunc,.string ⟨#[]⟩,.nilFunc,.string ⟨#[]⟩,.nilFunc,.string ⟨#[]⟩,.nilFunc,.string ⟨#[]⟩,.nilFunc] 195)).setRow (w.heap.size+1) ansT)from below_setRow (bA (bA (Below.refl _ _) _) _) (by omega) _)
 generalize ((w.alloc (.cells #[.string ⟨#[]⟩,.nilFunc] 171)).alloc (.cells #[.string ⟨#[]⟩,.nilFunc,.string ⟨#[]⟩,.nilFunc,.string ⟨#[]⟩,.nilFunc,.string ⟨#[]⟩,.nilFunc,.string ⟨#[]⟩,.nilFunc,.string ⟨#[]⟩,.nilFunc,.string ⟨#[]⟩,.nilFunc,.string ⟨#[]⟩,.nilFunc,.string ⟨#[]⟩,.nilFunc,.string ⟨#[]⟩,.nilFunc,.string ⟨#[]⟩,.nilFunc,.string ⟨#[]⟩,.nilFunc,.string ⟨#[]⟩,.nilFunc,.string ⟨#[]⟩,.nilFunc,.string ⟨#[]⟩,.nilFunc,.string ⟨#[]⟩,.nilFunc,.string ⟨#[]⟩,.nilFunc] 195)).setRow (w.heap.size+1) ansT=w2 at *
 have t2:w2.cell? ⟨w.heap.size+1,32,none⟩=some (.string ⟨#[68,117,109,112]⟩):=by rw [cell_of_row _ _ 32 _ _ _ KT.out];rfl
 have t3:w2.cell? ⟨w.heap.size+1,33,none⟩=some (.func (.func 90) #[] #[]):=by rw [cell_of_row _ _ 33 _ _ _ KT.out];rfl
 have r0:w2.cell? ⟨w.heap.size,0,none⟩=some (.string ⟨#[]⟩):=by rw [cell_of_row _ _ 0 _ _ _ KR.out];rfl
 have r1:w2.cell? ⟨w.heap.size,1,none⟩=some .nilFunc:=by rw [cell_of_row _ _ 1 _ _ _ KR.out];rfl
 have rf:=fun j=>frozen_of_row w2 w.heap.size j _ _ KR.out
 have f0:=rf 0;have f1:=rf 1
 have CB:=hide (show Below w.heap.size w ((w2.setCell ⟨w.heap.size,0,none⟩ (.string ⟨#[68,117,109,112]⟩)).setCell ⟨w.heap.size,1,none⟩ (.func (.func 90) #[] #[]))from(BW.out.setCell (p:=⟨w.heap.size,0,none⟩) lR _).setCell (p:=⟨w.heap.size,1,none⟩) lR _)
 clear rf HBd;refine wpList_nil ?_;go_wp2;refine bodyPost_ret (v:=.tuple #[.agg #[.string ⟨#[68,117,109,112]⟩,.func (.func 90) #[] #[]],.nilIface]) ?_ rfl ⟨rfl,CB.out⟩
 have g0:((w2.setCell ⟨w.heap.size,0,none⟩ (.string ⟨#[68,117,109,112]⟩)).setCell ⟨w.heap.size,1,none⟩ (.func (.func 90) #[] #[])).cell? ⟨w.heap.size,0,none⟩=some (.string ⟨#[68,117,109,112]⟩):=by
  rw [cell_of_row _ _ 0 _ _ _ (heap_setCell_same _ w.heap.size 1 _ _ _ (heap_setCell_same w2 w.heap.size 0 _ _ _ KR.out))];rfl
 have g1:((w2.setCell ⟨w.heap.size,0,none⟩ (.string ⟨#[68,117,109,112]⟩)).setCell ⟨w.heap.size,1,none⟩ (.func (.func 90) #[] #[])).cell? ⟨w.heap.size,1,none⟩=some (.func (.func 90) #[] #[]):=by
  rw [cell_of_row _ _ 1 _ _ _ (heap_setCell_same _ w.heap.size 1 _ _ _ (heap_setCell_same w2 w.heap.size 0 _ _ _ KR.out))];rfl
 simp [results,Tryz.results64,go_sem,g0,g1]
def EB16 (w:World) (E:Nat) (mv dv uv:Value) (lim:Int) (op:Bool) (cv tv s0 s1 s2 s3 s4 s5 s6 s7:Value) (sp:Int):Prop:=
 w.heap[E]? =some (.cells #[mv,dv,uv,.int .i64 lim,.bool op,cv,tv,s0,s1,s2,s3,s4,s5,s6,s7,.int .i64 sp] 135 (0,0))
section
variable {w w':World} {E:Nat} {mv dv uv:Value} {lim:Int} {op:Bool} {cv tv s0 s1 s2 s3 s4 s5 s6 s7:Value} {sp:Int}
theorem EB16.c (h:EB16 w E mv dv uv lim op cv tv s0 s1 s2 s3 s4 s5 s6 s7 sp):w.cell? ⟨E,0,none⟩=some mv∧w.cell? ⟨E,1,none⟩=some dv∧w.cell? ⟨E,2,none⟩=some uv∧w.cell? ⟨E,3,none⟩=some (.int .i64 lim)∧w.cell? ⟨E,4,none⟩=some (.bool op)∧w.cell? ⟨E,5,none⟩=some cv∧w.cell? ⟨E,6,none⟩=some tv∧w.cell? ⟨E,15,none⟩=some (.int .i64 sp):=by
 refine⟨?_,?_,?_,?_,?_,?_,?_,?_⟩<;>rw [cell_of_row _ _ _ _ _ _ h]<;>rfl
theorem EB16.f (h:EB16 w E mv dv uv lim op cv tv s0 s1 s2 s3 s4 s5 s6 s7 sp) (j:Nat):w.frozen? ⟨E,j,none⟩=false:=frozen_of_row w E j _ _ h
theorem EB16.lt (h:EB16 w E mv dv uv lim op cv tv s0 s1 s2 s3 s4 s5 s6 s7 sp):E<w.heap.size:=(Array.getElem?_eq_some_iff.1 h).1
theorem EB16.same (h:EB16 w E mv dv uv lim op cv tv s0 s1 s2 s3 s4 s5 s6 s7 sp) (e:w'.heap[E]? =w.heap[E]?):EB16 w' E mv dv uv lim op cv tv s0 s1 s2 s3 s4 s5 s6 s7 sp:=e.trans h
theorem EB16.set0 (h:EB16 w E mv dv uv lim op cv tv s0 s1 s2 s3 s4 s5 s6 s7 sp) (v:Value):EB16 (w.setCell ⟨E,0,none⟩ v) E v dv uv lim op cv tv s0 s1 s2 s3 s4 s5 s6 s7 sp:=by unfold EB16;rw [heap_setCell_same w E 0 _ _ _ h];rfl
theorem EB16.set1 (h:EB16 w E mv dv uv lim op cv tv s0 s1 s2 s3 s4 s5 s6 s7 sp) (v:Value):EB16 (w.setCell ⟨E,1,none⟩ v) E mv v uv lim op cv tv s0 s1 s2 s3 s4 s5 s6 s7 sp:=by unfold EB16;rw [heap_setCell_same w E 1 _ _ _ h];rfl
theorem EB16.set2 (h:EB16 w E mv dv uv lim op cv tv s0 s1 s2 s3 s4 s5 s6 s7 sp) (v:Value):EB16 (w.setCell ⟨E,2,none⟩ v) E mv dv v lim op cv tv s0 s1 s2 s3 s4 s5 s6 s7 sp:=by unfold EB16;rw [heap_setCell_same w E 2 _ _ _ h];rfl
theorem EB16.set15 (h:EB16 w E mv dv uv lim op cv tv s0 s1 s2 s3 s4 s5 s6 s7 sp) (v:Int):EB16 (w.setCell ⟨E,15,none⟩ (.int .i64 v)) E mv dv uv lim op cv tv s0 s1 s2 s3 s4 s5 s6 s7 v:=by unfold EB16;rw [heap_setCell_same w E 15 _ _ _ h];rfl
theorem EB16.off {base:Nat} {t:TypeId} {size n:Nat} {v:Value} {xs:List Value} (h:EB16 w E mv dv uv lim op cv tv s0 s1 s2 s3 s4 s5 s6 s7 sp) (ho:w.ownsRow base t size v n xs) (ht:t≠135) {q:Nat} (hq:v.ownBlock=some q):q≠E:=by
 rintro rfl
 rcases ho.2 with ⟨rfl,_⟩ | ⟨g,cap,cur,rfl,_,h2,_⟩
 ·simp [Value.ownBlock]at hq
 simp only [Value.ownBlock,Option.some.injEq]at hq;subst hq;unfold EB16 at h;rw [h2]at h;simp only [Option.some.injEq,Obj.cells.injEq]at h;exact ht h.2.1
end
def pushV (lim:Nat) (vs:List Value) (g:Value):List Value:=if lim<vs.length+1 then(vs++ [g]).drop 1 else vs++ [g]
def Jg (w:World) (E:Nat) (mv dv uv:Value) (lim:Int) (op:Bool) (cv tv s0 s1 s2 s3 s4 s5 s6 s7:Value) (sp:Int) (vs':List Value) (w':World):Prop:=
 ∃dv',w'.ownsRow 0 129 1 dv' vs'.length vs'∧EB16 w' E mv dv' uv lim op cv tv s0 s1 s2 s3 s4 s5 s6 s7 sp∧ChgP w w' (fun q=>q=E∨dv.ownBlock=some q)∧∀q,dv'.ownBlock=some q->dv.ownBlock=some q∨w.heap.size<=q
theorem pushG (E lim:Nat) (mv dv uv:Value) (op:Bool) (cv tv s0 s1 s2 s3 s4 s5 s6 s7:Value) (sp:Int) (vs:List Value) (ga:Option Addr) (gl gk:Nat) (w:World) (h:EB16 w E mv dv uv lim op cv tv s0 s1 s2 s3 s4 s5 s6 s7 sp) (hd:w.ownsRow 0 129 1 dv vs.length vs) (hs:∀v∈vs,∃a l k,v= .slice a l k) (hn:vs.length<=1000) (hl:lim<=1000):
  Calls Tryz.prog 128 #[.pointer (some ⟨E,1,none⟩),.slice ga gl gk] w fun e w'=>e= .returned (.tuple #[])∧Jg w E mv dv uv lim op cv tv s0 s1 s2 s3 s4 s5 s6 s7 sp (pushV lim vs (.slice ga gl gk)) w':=by
 obtain⟨i0,hi0,hz0,hz1,hz2⟩:=info_parts Tryz.infoGRP;have H:=hide h;have HD:=hide hd
 have HS:=hide (show ∀v∈vs++ [Value.slice ga gl gk],∃a l k,v= .slice a l k from fun v hv=>by
  rcases List.mem_append.1 hv with h9 | h9
  ·exact hs v h9
  simp at h9;exact⟨_,_,_,h9⟩)
 obtain⟨da,dk,rfl⟩:∃a k,dv= .slice a vs.length k:=by
  rcases hd.2 with ⟨e,e0⟩ | ⟨g,cap,cur,e,_⟩
  ·exact⟨none,0,by rw [e,e0]⟩
  exact⟨_,_,e⟩
 obtain⟨c0,c1,c2,c3,_⟩:=h.c;have f1:=h.f 1;have hE:=h.lt
 have HP:=hide (show(if lim<vs.length+1 then(vs++ [Value.slice ga gl gk]).drop 1 else vs++ [Value.slice ga gl gk])=pushV lim vs (.slice ga gl gk)from rfl)
 have HL:=hide (show(vs++ [Value.slice ga gl gk]).length=vs.length+1 by simp)
 have OFF:=hide (fun q hq=>h.off hd (by decide) (q:=q) hq)
 generalize hN:vs.length=n at *;have NC:=hide (zY w 129 [.slice ga gl gk]);have BA:=hide ((Below.refl w.heap.size w).alloc lR (.cells #[.slice ga gl gk] 129));generalize hV:pushV lim vs (.slice ga gl gk)=V at *;clear h hd hs hN hV
 have hgE:∀q,(Value.slice da n dk).ownBlock=some q->E≠q:=fun q hq e=>OFF.out q hq e.symm
 have sA:w.heap.size+1=(w.alloc (.cells #[.slice ga gl gk] 129)).heap.size:=by simp
 go_enter Tryz.func128,Tryz.ntmps128
 go_wp2_with (at_builtin;refine wpList_append_lies _ rfl _ _ 125 rfl 0 129 i0 (.slice none 0 0) 1 24 Tryz.underlying125 hi0 hz0 hz1 hz2 rfl (by decide) (.slice da n dk) n vs rfl (HD.out.alloc _) ⟨w.heap.size,0,none⟩ 1 1 [.slice ga gl gk] rfl rfl NC.out (by simp [Value.oneCell']) (by omega) (by unfold maxLen;omega) (by omega) (Nat.zero_le _) _ rfl ?_;intro g cp w1 hown hgr hgq hgl;have E1:=hide (show EB16 w1 E mv (.slice da n dk) uv lim op cv tv s0 s1 s2 s3 s4 s5 s6 s7 sp from(hgr.block E (by omega) (fun e=>hgE E e.symm rfl)).trans ((BA.out.block E hE).trans H.out));have d1:=E1.out.c.2.1;have z1:=E1.out.f 1)
 have G1:=hide hgr;have O1:=hide hown
 have C1:=hide (show ChgP w w1 (fun q=>q=E∨(Value.slice da n dk).ownBlock=some q)from((ChgP.reflS w _).allocS _).grownS hgr (fun q hq=>.inl (.inr hq)))
 have Q1:=hide (show(Value.slice da n dk).ownBlock=some g∨w.heap.size<=g from hgq.imp id (fun e=>by omega))
 have hgne:g≠E:=by
  rcases Q1.out with h9 | h9
  ·exact fun e=>hgE g h9 e.symm
  omega
 have E2:=hide (E1.out.set1 (.slice (some ⟨g,0,none⟩) (n+1) cp));have C2:=hide (C1.out.setS ⟨E,1,none⟩ (.slice (some ⟨g,0,none⟩) (n+1) cp) (.inl (.inl rfl)))
 have O2:=hide (show(w1.setCell ⟨E,1,none⟩ (.slice (some ⟨g,0,none⟩) (n+1) cp)).ownsRow 0 129 1 (.slice (some ⟨g,0,none⟩) (n+1) cp) (n+1) (vs++ [.slice ga gl gk])from zB hown (fun q hq=>heap_setCell_other w1 ⟨E,1,none⟩ q _ (by simp only [Value.ownBlock,Option.some.injEq]at hq;subst hq;exact hgne)))
 obtain⟨e0,e1,e2,e3,_⟩:=E2.out.c;have y1:=E2.out.f 1;clear hown hgr hgq G1 O1 E1 C1 H HD NC BA OFF c0 c1 c2 c3 f1 sA d1 z1;generalize w1.setCell ⟨E,1,none⟩ (.slice (some ⟨g,0,none⟩) (n+1) cp)=w2 at *
 by_cases hlt:lim<n+1
 ·have hlt':(lim:Int)<(n:Int)+1:=by omega
  have hVV:(vs++ [Value.slice ga gl gk]).drop 1=V:=by have h9:=HP.out;rw [if_pos hlt]at h9;exact h9
  have HV:=hide hVV
  have DL:=hide (fun(W:World) (hW:W.heap=w2.heap)=>delN 0 g (n+1) cp (vs++ [.slice ga gl gk]) W (zB O2.out (fun q _=>by rw [hW])) HS.out (by omega))
  clear hVV;go_quiet (fail);go_wp2_with fail
  refine(DL.out _ (by exact rfl)).mono ?_
  rintro e w3 ⟨rfl,ho3,hc3⟩
  have C3:=hide (show ChgP w w3 (fun q=>q=E∨(Value.slice da n dk).ownBlock=some q)from(C2.out.sameS (y:=w2.drewN nq) rfl rfl rfl rfl).transS hc3 (fun q hq=>by
   subst hq
   rcases Q1.out with h9 | h9
   ·exact .inl (.inr h9)
   exact .inr h9))
  have E3:=hide (show EB16 w3 E mv (.slice (some ⟨g,0,none⟩) (n+1) cp) uv lim op cv tv s0 s1 s2 s3 s4 s5 s6 s7 sp from(hc3.block E E2.out.lt (fun e=>hgne e.symm)).trans E2.out)
  have O3:=hide ho3;have k1:=E3.out.c.2.1;have x1:=E3.out.f 1;clear ho3 hc3;go_wp2;go_end0
  have hll:V.length=n+1 - 1:=by rw [<- HV.out,List.length_drop,HL.out]
  refine⟨rfl,.slice (some ⟨g,0,none⟩) (n+1 - 1) cp,?_,E3.out.set1 _,C3.out.setS ⟨E,1,none⟩ _ (.inl (.inl rfl)),fun q hq=>?_⟩
  ·rw [hll,<- HV.out]
   exact zB O3.out (fun q hq=>heap_setCell_other w3 ⟨E,1,none⟩ q _ (by simp only [Value.ownBlock,Option.some.injEq]at hq;subst hq;exact hgne))
  simp only [Value.ownBlock,Option.some.injEq]at hq;subst hq;exact Q1.out
 have hlt':¬ (lim:Int)<(n:Int)+1:=by omega
 have hVV:vs++ [Value.slice ga gl gk]=V:=by have h9:=HP.out;rw [if_neg hlt]at h9;exact h9
 have HV:=hide hVV;clear hVV;go_quiet (fail);go_wp2;go_end0
 refine⟨rfl,.slice (some ⟨g,0,none⟩) (n+1) cp,?_,E2.out,C2.out.sameS (y:=w2.drewN nq) rfl rfl rfl rfl,fun q hq=>?_⟩
 ·rw [<- HV.out,HL.out]
  exact O2.out
 simp only [Value.ownBlock,Option.some.injEq]at hq;subst hq;exact Q1.out
end Go.Proofs.YtibbhecojkehfaaGreatDoor
