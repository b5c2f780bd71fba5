/- The law's edits. -/
import Derived.Test.YtdcbgfhkfmohiaaGreatDoorAl01
import Derived.Test.YtdcbgfhkfmohiaaGreatDoorAl11
namespace Go.Proofs.YtdcbgfhkfmohiaaGreatDoor
open Go.RowKit
theorem num_any (x:Int) (w:World):Calls Tryz.prog 68 #[.int .i64 x] w fun e w' => e = .returned (.int .i64 x)∧w' = w:=by
 go_enter Tryz.func68,Tryz.ntmps68
 go_wp2
 go_ret
 exact ⟨rfl,rfl⟩
def EditOut (w:World) (D:Duo) (e:Ending) (w' : World):Prop:=e = .returned (.bool true)∧∃ D',DuoAt w' D'∧DuoStep w D w' D'
theorem putR_made (r:RSt) (n:Int) (p d:Str):(putR r n p d).1.made ≤ r.made + 1:=by
 unfold putR
 split
 ·exact Nat.le_succ _
 ·split
  ·exact Nat.le_succ _
  ·split
   ·exact Nat.le_succ _
   ·split
    ·exact Nat.le_succ _
    ·split
     ·exact Nat.le_succ _
     ·exact keepR_made _ _
theorem deleteR_made (r:RSt) (n:Int) (p:Str):(deleteR r n p).1.made ≤ r.made + 1:=by
 unfold deleteR
 split
 ·exact Nat.le_succ _
 ·split
  ·exact Nat.le_succ _
  ·split
   ·exact Nat.le_succ _
   ·exact keepR_made _ _
theorem moveR_made (r:RSt) (n:Int) (p d:Str):(moveR r n p d).1.made ≤ r.made + 1:=by
 unfold moveR
 split
 ·exact Nat.le_succ _
 ·split
  ·exact Nat.le_succ _
  ·split
   ·exact Nat.le_succ _
   ·split
    ·exact Nat.le_succ _
    ·split
     ·exact Nat.le_succ _
     ·exact keepR_made _ _
theorem releaseR_made (r:RSt) (n:Int):(releaseR r n).1.made ≤ r.made + 1:=by
 unfold releaseR
 split
 ·exact Nat.le_succ _
 ·exact Nat.le_succ _
abbrev opV (K W N M:Int) (S T:Str) (L:Value):Value:=.agg #[.int .i64 K,.int .i64 W,.int .i64 N,.int .i64 M,SV S,SV T,L]
abbrev pairV (D:Duo):Value:=.agg #[ptrV D.B.sb,ptrV D.b]
structure ArgsAt (W:World) (h:Nat) (D:Duo) (K Wn N M:Int) (S T:Str) (L:Value):Prop where
 pair:W.heap[h]? = some (.cells #[ptrV D.B.sb,ptrV D.b] 143 (0,0))
 op:W.heap[h + 1]? = some (.cells #[.int .i64 K,.int .i64 Wn,.int .i64 N,.int .i64 M,SV S,SV T,L] 78 (0,0))
theorem args_box (w:World) (D:Duo) (K Wn N M:Int) (S T:Str) (L:Value):∃ W:World,W = (w.alloc (.cells #[ptrV D.B.sb,ptrV D.b] 143)).alloc (.cells #[.int .i64 K,.int .i64 Wn,.int .i64 N,.int .i64 M,SV S,SV T,L] 78)∧ArgsAt W w.heap.size D K Wn N M S T L∧Below w.heap.size w W∧W.heap.size = w.heap.size + 2:=by
 refine ⟨_,rfl,⟨?_,?_⟩,((Below.refl _ _).alloc (Nat.le_refl _) _).alloc (by simp) _,by simp⟩
 ·rw [Below.heap_alloc _ _ _ (by simp)];exact heap_alloc_new _ _
 ·have:=heap_alloc_new (w.alloc (.cells #[ptrV D.B.sb,ptrV D.b] 143)) (.cells #[.int .i64 K,.int .i64 Wn,.int .i64 N,.int .i64 M,SV S,SV T,L] 78)
  simpa using this
theorem ArgsAt.ext {W W2:World} {h:Nat} {D:Duo} {K Wn N M:Int} {S T:Str} {L:Value} {B' : Bank} (hA:ArgsAt W h D K Wn N M S T L) (hX:Ext W.heap.size W D.B W2 B') (hown:∀ k,D.B.own k→k < h):ArgsAt W2 h D K Wn N M S T L :=
 ⟨(hX.blk _ (Array.getElem?_eq_some_iff.1 hA.pair).1 (fun ho => by have:=hown _ ho;omega)).trans hA.pair,(hX.blk _ (Array.getElem?_eq_some_iff.1 hA.op).1 (fun ho => by have:=hown _ ho;omega)).trans hA.op⟩
set_option maxHeartbeats 4000000 in
set_option maxRecDepth 50000 in
theorem edits_put (D:Duo) (Wn N M:Int) (S T:Str) (L:Value) (w:World) (hD:DuoAt w D) (hm:D.r.made < 4611686018427387904) (hS:S.length + 1 < maxLen) (hT:T.length + 1 < maxLen) :
  Calls Tryz.prog 69 #[pairV D,opV 2 Wn N M S T L] w fun e w' => EditOut w D e w':=by
 have HD:Hid _:=hD
 have hS0:=hS
 have hT0:=hT
 unfold maxLen at hS hT
 clear hD
 obtain ⟨w1,hw1,hA1,hb1,hsz1⟩:=args_box w D 2 Wn N M S T L
 have hD1:DuoAt w1 D:=HD.out.frame fun k hk => hb1.block k (HD.out.own_lt hk)
 have HM:Hid _:=putR_made D.r N S T
 have C:Hid (Calls Tryz.prog 38 #[ptrV D.B.sb,.int .i64 N,SV S,SV T] w1 fun e w' => StepOut w1.heap.size w1 D.B (putR D.r N S T) e w'):=storePut_any D.B D.r N S T w1 hD1.ok hD1.ag (by rw [hD1.ag.made];exact hm) hS0 (by unfold maxLen;omega)
 have HA1:Hid _:=hA1
 have HB1:Hid _:=hb1
 have HD1:Hid _:=hD1
 have HW1:Hid _:=hw1
 clear hA1 hb1 hD1
 go_enter Tryz.func69,Tryz.ntmps69
 go_wp2_with fail
 rw [← HW1.out]
 refine C.out.mono ?_
 rintro e w2 ⟨B',rfl,hO2,hAg2,hX2⟩
 have hown:∀ k,D.B.own k→k < w.heap.size:=fun k hk => HD.out.ok.at'.own_lt hk
 have hA2:=HA1.out.ext hX2 hown
 have hR2:=duo_ref HD1.out hX2
 have CR:Hid (Calls Tryz.prog 97 #[.pointer (some ⟨D.b,0,none⟩),.int .i64 N,SV S,SV T] w2 fun e w' => RefOut w2 D.b D.va D.vr D.sn (putR D.r N S T) e w'):=refPut_any D.b D.r D.va D.vr D.sn N S T w2 hR2 hm (by unfold maxLen;omega) (by unfold maxLen;omega)
 have cN:w2.cell? ⟨w.heap.size + 1,2,none⟩ = some (.int .i64 N):=(blk_cell hA2.op 2).trans rfl
 have cS:w2.cell? ⟨w.heap.size + 1,4,none⟩ = some (SV S):=(blk_cell hA2.op 4).trans rfl
 have cT:w2.cell? ⟨w.heap.size + 1,5,none⟩ = some (SV T):=(blk_cell hA2.op 5).trans rfl
 have cB:w2.cell? ⟨w.heap.size,1,none⟩ = some (ptrV D.b):=(blk_cell hA2.pair 1).trans rfl
 have HO2:Hid _:=hO2
 have HAG2:Hid _:=hAg2
 have HX2:Hid _:=hX2
 clear hO2 hAg2 hX2 hA2 hR2 hown C
 generalize putR D.r N S T = o at *
 go_wp2_with fail
 refine CR.out.mono ?_
 rintro e w3 ⟨va',sn',rfl,hR3,hS3⟩
 obtain ⟨hD3,hSt⟩:=duo_step HD1.out HO2.out HAG2.out HX2.out hR3 hS3 HM.out
 have RR:Hid (∃ D',DuoAt w3 D'∧DuoStep w D w3 D'):=⟨_,hD3,DuoStep.before HB1.out hSt⟩
 clear hR3 hS3 hD3 hSt CR
 go_wp2_with (go_at_call 68;refine (num_any _ _).mono ?_;rintro e w4 ⟨rfl,rfl⟩)
 go_ret
 exact ⟨by first | rfl | simp,RR.out⟩
set_option maxHeartbeats 4000000 in
set_option maxRecDepth 50000 in
theorem edits_delete (D:Duo) (Wn N M:Int) (S T:Str) (L:Value) (w:World) (hD:DuoAt w D) (hm:D.r.made < 4611686018427387904) (hS:S.length + 1 < maxLen) (hT:T.length + 1 < maxLen) :
  Calls Tryz.prog 69 #[pairV D,opV 3 Wn N M S T L] w fun e w' => EditOut w D e w':=by
 have HD:Hid _:=hD
 have hS0:=hS
 have hT0:=hT
 unfold maxLen at hS hT
 clear hD
 obtain ⟨w1,hw1,hA1,hb1,hsz1⟩:=args_box w D 3 Wn N M S T L
 have hD1:DuoAt w1 D:=HD.out.frame fun k hk => hb1.block k (HD.out.own_lt hk)
 have HM:Hid _:=deleteR_made D.r N S
 have C:Hid (Calls Tryz.prog 44 #[ptrV D.B.sb,.int .i64 N,SV S] w1 fun e w' => StepOut w1.heap.size w1 D.B (deleteR D.r N S) e w'):=storeDelete_any D.B D.r N S w1 hD1.ok hD1.ag (by rw [hD1.ag.made];exact hm) hS0
 have HA1:Hid _:=hA1
 have HB1:Hid _:=hb1
 have HD1:Hid _:=hD1
 have HW1:Hid _:=hw1
 clear hA1 hb1 hD1
 go_enter Tryz.func69,Tryz.ntmps69
 go_wp2_with fail
 rw [← HW1.out]
 refine C.out.mono ?_
 rintro e w2 ⟨B',rfl,hO2,hAg2,hX2⟩
 have hown:∀ k,D.B.own k→k < w.heap.size:=fun k hk => HD.out.ok.at'.own_lt hk
 have hA2:=HA1.out.ext hX2 hown
 have hR2:=duo_ref HD1.out hX2
 have CR:Hid (Calls Tryz.prog 98 #[.pointer (some ⟨D.b,0,none⟩),.int .i64 N,SV S] w2 fun e w' => RefOut w2 D.b D.va D.vr D.sn (deleteR D.r N S) e w'):=refDelete_any D.b D.r D.va D.vr D.sn N S w2 hR2 hm (by unfold maxLen;omega)
 have cN:w2.cell? ⟨w.heap.size + 1,2,none⟩ = some (.int .i64 N):=(blk_cell hA2.op 2).trans rfl
 have cS:w2.cell? ⟨w.heap.size + 1,4,none⟩ = some (SV S):=(blk_cell hA2.op 4).trans rfl
 have cB:w2.cell? ⟨w.heap.size,1,none⟩ = some (ptrV D.b):=(blk_cell hA2.pair 1).trans rfl
 have HO2:Hid _:=hO2
 have HAG2:Hid _:=hAg2
 have HX2:Hid _:=hX2
 clear hO2 hAg2 hX2 hA2 hR2 hown C
 generalize deleteR D.r N S = o at *
 go_wp2_with fail
 refine CR.out.mono ?_
 rintro e w3 ⟨va',sn',rfl,hR3,hS3⟩
 obtain ⟨hD3,hSt⟩:=duo_step HD1.out HO2.out HAG2.out HX2.out hR3 hS3 HM.out
 have RR:Hid (∃ D',DuoAt w3 D'∧DuoStep w D w3 D'):=⟨_,hD3,DuoStep.before HB1.out hSt⟩
 clear hR3 hS3 hD3 hSt CR
 go_wp2_with (go_at_call 68;refine (num_any _ _).mono ?_;rintro e w4 ⟨rfl,rfl⟩)
 go_ret
 exact ⟨by first | rfl | simp,RR.out⟩
set_option maxHeartbeats 4000000 in
set_option maxRecDepth 50000 in
theorem edits_move (D:Duo) (Wn N M:Int) (S T:Str) (L:Value) (w:World) (hD:DuoAt w D) (hm:D.r.made < 4611686018427387904) (hS:S.length + 1 < maxLen) (hT:T.length + 1 < maxLen) :
  Calls Tryz.prog 69 #[pairV D,opV 4 Wn N M S T L] w fun e w' => EditOut w D e w':=by
 have HD:Hid _:=hD
 have hS0:=hS
 have hT0:=hT
 unfold maxLen at hS hT
 clear hD
 obtain ⟨w1,hw1,hA1,hb1,hsz1⟩:=args_box w D 4 Wn N M S T L
 have hD1:DuoAt w1 D:=HD.out.frame fun k hk => hb1.block k (HD.out.own_lt hk)
 have HM:Hid _:=moveR_made D.r N S T
 have C:Hid (Calls Tryz.prog 39 #[ptrV D.B.sb,.int .i64 N,SV S,SV T] w1 fun e w' => StepOut w1.heap.size w1 D.B (moveR D.r N S T) e w'):=storeMove_any D.B D.r N S T w1 hD1.ok hD1.ag (by rw [hD1.ag.made];exact hm) hS0 hT0
 have HA1:Hid _:=hA1
 have HB1:Hid _:=hb1
 have HD1:Hid _:=hD1
 have HW1:Hid _:=hw1
 clear hA1 hb1 hD1
 go_enter Tryz.func69,Tryz.ntmps69
 go_wp2_with fail
 rw [← HW1.out]
 refine C.out.mono ?_
 rintro e w2 ⟨B',rfl,hO2,hAg2,hX2⟩
 have hown:∀ k,D.B.own k→k < w.heap.size:=fun k hk => HD.out.ok.at'.own_lt hk
 have hA2:=HA1.out.ext hX2 hown
 have hR2:=duo_ref HD1.out hX2
 have CR:Hid (Calls Tryz.prog 99 #[.pointer (some ⟨D.b,0,none⟩),.int .i64 N,SV S,SV T] w2 fun e w' => RefOut w2 D.b D.va D.vr D.sn (moveR D.r N S T) e w'):=refMove_any D.b D.r D.va D.vr D.sn N S T w2 hR2 hm (duo_short HD.out) (by unfold maxLen;omega) (by unfold maxLen;omega)
 have cN:w2.cell? ⟨w.heap.size + 1,2,none⟩ = some (.int .i64 N):=(blk_cell hA2.op 2).trans rfl
 have cS:w2.cell? ⟨w.heap.size + 1,4,none⟩ = some (SV S):=(blk_cell hA2.op 4).trans rfl
 have cT:w2.cell? ⟨w.heap.size + 1,5,none⟩ = some (SV T):=(blk_cell hA2.op 5).trans rfl
 have cB:w2.cell? ⟨w.heap.size,1,none⟩ = some (ptrV D.b):=(blk_cell hA2.pair 1).trans rfl
 have HO2:Hid _:=hO2
 have HAG2:Hid _:=hAg2
 have HX2:Hid _:=hX2
 clear hO2 hAg2 hX2 hA2 hR2 hown C
 generalize moveR D.r N S T = o at *
 go_wp2_with fail
 refine CR.out.mono ?_
 rintro e w3 ⟨va',sn',rfl,hR3,hS3⟩
 obtain ⟨hD3,hSt⟩:=duo_step HD1.out HO2.out HAG2.out HX2.out hR3 hS3 HM.out
 have RR:Hid (∃ D',DuoAt w3 D'∧DuoStep w D w3 D'):=⟨_,hD3,DuoStep.before HB1.out hSt⟩
 clear hR3 hS3 hD3 hSt CR
 go_wp2_with (go_at_call 68;refine (num_any _ _).mono ?_;rintro e w4 ⟨rfl,rfl⟩)
 go_ret
 exact ⟨by first | rfl | simp,RR.out⟩

open Go.RowKit
set_option maxHeartbeats 4000000 in
set_option maxRecDepth 50000 in
theorem edits_release (D:Duo) (Wn N M:Int) (S T:Str) (L:Value) (w:World) (hD:DuoAt w D) :
  Calls Tryz.prog 69 #[pairV D,opV 5 Wn N M S T L] w fun e w' => EditOut w D e w':=by
 have HD:Hid _:=hD
 clear hD
 obtain ⟨w1,hw1,hA1,hb1,hsz1⟩:=args_box w D 5 Wn N M S T L
 have hD1:DuoAt w1 D:=HD.out.frame fun k hk => hb1.block k (HD.out.own_lt hk)
 have HM:Hid _:=releaseR_made D.r N
 have C:Hid (Calls Tryz.prog 20 #[ptrV D.B.sb,.int .i64 N] w1 fun e w' => StepOut1 w1.heap.size w1 D.B (releaseR D.r N) e w'):=storeRelease_any D.B D.r N w1 hD1.ok hD1.ag
 have HA1:Hid _:=hA1
 have HB1:Hid _:=hb1
 have HD1:Hid _:=hD1
 have HW1:Hid _:=hw1
 clear hA1 hb1 hD1 hw1
 go_enter Tryz.func69,Tryz.ntmps69
 go_wp2_with fail
 rw [← HW1.out]
 refine C.out.mono ?_
 rintro e w2 ⟨B',rfl,hO2,hAg2,hX2⟩
 have hown:∀ k,D.B.own k→k < w.heap.size:=fun k hk => HD.out.ok.at'.own_lt hk
 have hA2:=HA1.out.ext hX2 hown
 have hR2:=duo_ref HD1.out hX2
 have CR:Hid (Calls Tryz.prog 100 #[.pointer (some ⟨D.b,0,none⟩),.int .i64 N] w2 fun e w' => ReleaseOut w2 D.b D.va D.vr D.sn (releaseR D.r N) e w'):=refRelease_any D.b D.r D.va D.vr D.sn N w2 hR2
 have cN:w2.cell? ⟨w.heap.size + 1,2,none⟩ = some (.int .i64 N):=(blk_cell hA2.op 2).trans rfl
 have cB:w2.cell? ⟨w.heap.size,1,none⟩ = some (ptrV D.b):=(blk_cell hA2.pair 1).trans rfl
 have HO2:Hid _:=hO2
 have HAG2:Hid _:=hAg2
 have HX2:Hid _:=hX2
 clear hO2 hAg2 hX2 hA2 hR2 hown C
 generalize releaseR D.r N = o at *
 go_wp2_with fail
 refine CR.out.mono ?_
 rintro e w3 ⟨va',sn',rfl,hR3,hS3⟩
 obtain ⟨hD3,hSt⟩:=duo_step HD1.out HO2.out HAG2.out HX2.out hR3 hS3 HM.out
 have RR:Hid (∃ D',DuoAt w3 D'∧DuoStep w D w3 D'):=⟨_,hD3,DuoStep.before HB1.out hSt⟩
 clear hR3 hS3 hD3 hSt CR
 go_wp2_with (go_at_call 68;refine (num_any _ _).mono ?_;rintro e w4 ⟨rfl,rfl⟩)
 go_ret
 exact ⟨by first | rfl | simp,RR.out⟩
set_option maxHeartbeats 4000000 in
set_option maxRecDepth 50000 in
theorem edits_cells (D:Duo) (K Wn N M:Int) (S T:Str) (L:Value) (w:World) (hD:DuoAt w D) (h2:K ≠ 2) (h3:K ≠ 3) (h4:K ≠ 4) (h5:K ≠ 5) :
  Calls Tryz.prog 69 #[pairV D,opV K Wn N M S T L] w fun e w' => EditOut w D e w':=by
 have HD:Hid _:=hD
 clear hD
 obtain ⟨w1,hw1,hA1,hb1,hsz1⟩:=args_box w D K Wn N M S T L
 have hD1:DuoAt w1 D:=HD.out.frame fun k hk => hb1.block k (HD.out.own_lt hk)
 have C:Hid (Calls Tryz.prog 16 #[ptrV D.B.sb] w1 fun e w' => e = .returned (.int .i64 ((D.B.ds.length + D.B.fs.length:Nat):Int))∧∃ n,w' = w1.drewN n):=bankCells_any D.B w1 hD1.ok.at' (by have:=hD1.ok.room;omega)
 have HC:Hid (cellsOf D.r = D.B.ds.length + D.B.fs.length):=Agree.cells hD1.ok hD1.ag
 have HA1:Hid _:=hA1
 have HB1:Hid _:=hb1
 have HD1:Hid _:=hD1
 have HW1:Hid _:=hw1
 clear hA1 hb1 hD1 hw1
 go_enter Tryz.func69,Tryz.ntmps69
 go_wp2_with fail
 rw [← HW1.out]
 refine C.out.mono ?_
 rintro e w2 ⟨rfl,n2,rfl⟩
 have hb2:Below w1.heap.size w1 (w1.drewN n2):=below_like rfl rfl rfl rfl
 have CR:Hid (Calls Tryz.prog 101 #[.pointer (some ⟨D.b,0,none⟩)] (w1.drewN n2) fun e w' => e = .returned (.int .i64 (cellsOf D.r))∧Below (w1.drewN n2).heap.size (w1.drewN n2) w'):=storeCells_any D.b D.r D.va D.vr D.sn _ (HD1.out.ref.later hb2 (Nat.le_refl _))
 have cB:w1.cell? ⟨w.heap.size,1,none⟩ = some (ptrV D.b):=(blk_cell HA1.out.pair 1).trans rfl
 rw [HC.out] at CR
 clear hb2 C
 generalize D.B.ds.length + D.B.fs.length = cc at *
 go_wp2_with fail
 refine CR.out.mono ?_
 rintro e w3 ⟨rfl,hb3⟩
 have hb13:Below w.heap.size w w3:=HB1.out.trans (Below.mono (show Below w1.heap.size w1 w3 from ⟨hb3.os,hb3.tape,hb3.output,hb3.size,hb3.block⟩) HB1.out.size)
 have RR:Hid (∃ D',DuoAt w3 D'∧DuoStep w D w3 D'):=⟨D,HD.out.frame fun k hk => hb13.block k (HD.out.own_lt hk),DuoStep.of_below hb13⟩
 clear hb3 hb13 CR
 go_wp2
 go_ret
 exact ⟨by first | rfl | simp,RR.out⟩
theorem edits_any (D:Duo) (K Wn N M:Int) (S T:Str) (L:Value) (w:World) (hD:DuoAt w D) (hm:D.r.made < 4611686018427387904) (hS:S.length + 1 < maxLen) (hT:T.length + 1 < maxLen) :
  Calls Tryz.prog 69 #[pairV D,opV K Wn N M S T L] w fun e w' => EditOut w D e w':=by
 by_cases h2:K = 2
 ·subst h2;exact edits_put D Wn N M S T L w hD hm hS hT
 ·by_cases h3:K = 3
  ·subst h3;exact edits_delete D Wn N M S T L w hD hm hS hT
  ·by_cases h4:K = 4
   ·subst h4;exact edits_move D Wn N M S T L w hD hm hS hT
   ·by_cases h5:K = 5
    ·subst h5;exact edits_release D Wn N M S T L w hD
    ·exact edits_cells D K Wn N M S T L w hD h2 h3 h4 h5

open Go.RowKit
def InI (c:Int):Prop:=-9223372036854775808 ≤ c∧c < 9223372036854775808
def pickN (c:Int) (n:Nat):Nat:=((if c < 0 then -(c + 1) else c) % (n:Int)).toNat
theorem pickN_lt (c:Int) {n:Nat} (h:0 < n):pickN c n < n:=by
 unfold pickN
 have h1:=Int.emod_nonneg (if c < 0 then -(c + 1) else c) (show (n:Int) ≠ 0 by omega)
 have h2:=Int.emod_lt_of_pos (if c < 0 then -(c + 1) else c) (show (0:Int) < (n:Int) by omega)
 omega
set_option maxHeartbeats 1000000 in
theorem pick_any (c:Int) (n:Nat) (w:World) (hc:InI c) (hn:0 < n) (hn2:n < 4611686018427387904) :
  Calls Tryz.prog 41 #[.int .i64 c,.int .i64 (n:Int)] w fun e w' => e = .returned (.int .i64 (pickN c n:Int))∧w' = w:=by
 unfold InI at hc
 have hne:¬ (n:Int) = 0:=by omega
 by_cases h:c < 0
 ·have hR:Hid ((pickN c n:Int) = (-(c + 1)).tmod (n:Int)):=by
   rw [Hid,Int.tmod_eq_emod_of_nonneg (by omega)]
   unfold pickN;rw [if_pos h]
   have h1:=Int.emod_nonneg (-(c + 1)) (show (n:Int) ≠ 0 by omega)
   omega
  go_enter Tryz.func41,Tryz.ntmps41
  go_wp2
  go_ret
  exact ⟨ret_int (by rw [hR.out,Int.neg_tmod]),rfl⟩
 ·have hR:Hid ((pickN c n:Int) = c % (n:Int)):=by
   rw [Hid]
   unfold pickN;rw [if_neg h]
   have h1:=Int.emod_nonneg c (show (n:Int) ≠ 0 by omega)
   omega
  go_enter Tryz.func41,Tryz.ntmps41
  go_wp2
  go_ret
  exact ⟨ret_int (by rw [hR.out]),rfl⟩
def flatP (Ds:List Duo):List Value:=Ds.flatMap fun D => [ptrV D.B.sb,ptrV D.b]
theorem flatP_app (Ds:List Duo) (D:Duo):flatP (Ds ++ [D]) = flatP Ds ++ [ptrV D.B.sb,ptrV D.b]:=by simp [flatP]
structure LawAt (base:Nat) (w:World) (g:Nat) (v:Value) (Ds:List Duo) (m:Nat):Prop where
 blk:w.heap[g]? = some (.cells #[v] 75 (0,0))
 row:w.ownsRow base 143 2 v Ds.length (flatP Ds)
 duos:∀ D ∈ Ds,DuoAt w D
 apart:Ds.Pairwise fun D E => ∀ k,D.own k→¬ E.own k
 free:∀ D ∈ Ds,∀ k,D.own k→k ≠ g∧v.ownBlock ≠ some k∧base ≤ k
 gb:base ≤ g
 made:∀ D ∈ Ds,D.r.made ≤ m
 len:Ds.length ≤ m
 mx:MaxOk w
 mb:0 < base
theorem LawAt.sep {base:Nat} {w:World} {g:Nat} {v:Value} {Ds:List Duo} {m:Nat} (h:LawAt base w g v Ds m):v.ownBlock ≠ some g:=by
 intro e
 obtain ⟨c,hc⟩:=row_type h.row e
 rw [h.blk] at hc;simp at hc
theorem Tryz.infoPair:(Tryz.prog.info? 143).map (fun i => (i.zero,i.size,i.bytes)) = some (some (.agg #[.pointer none,.pointer none]),2,16):=by kernel_rfl
theorem ref_new {w w' : World} {c:Nat} {b:Nat} {va:Value} {B:Bank} (hO:Okay w B) (hA:Agree B (newR c)) (hb:w.heap.size ≤ b) (hR:RefAt w' b (newR c) va (.slice none 0 0) [(0,.slice none 0 0)]) (hB:Below w.heap.size w w') (hf:∀ k,va.ownBlock = some k→w.heap.size ≤ k) :
  DuoAt w' ⟨B,b,newR c,va,.slice none 0 0,[(0,.slice none 0 0)]⟩:=by
 refine ⟨hO.frame (fun k hk => hB.block k (hO.at'.own_lt hk)),hR,hA,?_⟩
 intro k hk hd
 have h1:=hO.at'.own_lt hk
 rcases hd with h | h | ⟨x,hx,h⟩
 ·have h:k = b:=h;omega
 ·have:=hf k h;omega
 ·have hx:x ∈ [((0:Nat),Value.slice none 0 0)]:=hx
  simp at hx;subst hx;simp [Value.ownBlock] at h
theorem LawAt.more {base:Nat} {w w2 w3 w5:World} {g:Nat} {v v' : Value} {Ds:List Duo} {m:Nat} {D:Duo} (h:LawAt base w g v Ds m) (hb:Below w.heap.size w w2) (hD:DuoAt w2 D) (hn:∀ k,D.own k→w.heap.size ≤ k) (hm:D.r.made ≤ m + 1)
  (hrow:w3.ownsRow base 143 2 v' (Ds.length + 1) (flatP Ds ++ [ptrV D.B.sb,ptrV D.b])) (hg:w2.grownBy w3 v.ownBlock) (hmv:Moved w2 v v') (hs:Set1 w3 w5 g (.cells #[v'] 75 (0,0))):LawAt base w5 g v' (Ds ++ [D]) (m + 1)∧Below base w w5:=by
 have hgl:g < w.heap.size:=(Array.getElem?_eq_some_iff.1 h.blk).1
 have hbase:base ≤ w.heap.size:=by have:=h.gb;omega
 have hvl:∀ k,v.ownBlock = some k→base ≤ k∧k < w.heap.size:=fun k hk => h.row.lt k hk
 have hown2:∀ E ∈ Ds ++ [D],∀ k,E.own k→k ≠ g∧v.ownBlock ≠ some k∧base ≤ k∧k < w2.heap.size:=by
  intro E hE k hk
  simp only [List.mem_append,List.mem_singleton] at hE
  rcases hE with hE | rfl
  ·have h1:=h.free E hE k hk
   have h2:=(h.duos E hE).own_lt hk
   have:=hb.size
   exact ⟨h1.1,h1.2.1,h1.2.2,by omega⟩
  ·have h1:=hn k hk
   have h2:=hD.own_lt hk
   exact ⟨by omega,fun e => by have:=hvl k e;omega,by omega,h2⟩
 have hsame:∀ k,k < w2.heap.size→k ≠ g→v.ownBlock ≠ some k→w5.heap[k]? = w2.heap[k]?:=fun k h1 h2 h3 => (hs.other k h2).trans (hg.block k h1 (Ne.symm h3))
 have hv' : v'.ownBlock ≠ some g:=by
  intro e
  rcases hmv g e with h1 | h1
  ·exact h.sep h1
  ·have:=hb.size;omega
 have hBel:Below base w w5:=by
  refine ⟨hs.os.trans (hg.os.trans hb.os),hs.tape.trans (hg.tape.trans hb.tape),hs.output.trans (hg.output.trans hb.output),by rw [hs.size];exact Nat.le_trans hb.size hg.size,?_⟩
  intro k hk
  have h1:k ≠ g:=by have:=h.gb;omega
  have h2:v.ownBlock ≠ some k:=fun e => by have:=(hvl k e).1;omega
  rw [hsame k (by have:=hb.size;omega) h1 h2,hb.block k (by omega)]
 refine ⟨⟨hs.here,?_,?_,?_,?_,h.gb,?_,?_,h.mx.below hBel h.mb,h.mb⟩,hBel⟩
 ·rw [List.length_append,flatP_app]
  exact rowKept hrow (fun k hk => hs.other k (fun e => hv' (e ▸ hk)))
 ·intro E hE
  have h2:DuoAt w2 E:=by
   have hE':=hE
   simp only [List.mem_append,List.mem_singleton] at hE
   rcases hE with hE | rfl
   ·exact (h.duos E hE).frame fun k hk => hb.block k ((h.duos E hE).own_lt hk)
   ·exact hD
  exact h2.frame fun k hk => by have h3:=hown2 E hE k hk;exact hsame k h3.2.2.2 h3.1 h3.2.1
 ·rw [List.pairwise_append]
  refine ⟨h.apart,by simp,?_⟩
  intro E hE F hF k hk hk2
  simp at hF;subst hF
  have h1:=(h.duos E hE).own_lt hk
  have h2:=hn k hk2
  omega
 ·intro E hE k hk
  have h3:=hown2 E hE k hk
  refine ⟨h3.1,fun e => ?_,h3.2.2.1⟩
  rcases hmv k e with h1 | h1
  ·exact h3.2.1 h1
  ·omega
 ·intro E hE
  simp only [List.mem_append,List.mem_singleton] at hE
  rcases hE with hE | rfl
  ·have:=h.made E hE;omega
  ·exact hm
 ·rw [List.length_append];have:=h.len;simp;omega

open Go.RowKit
theorem LawAt.mono {base:Nat} {w:World} {g:Nat} {v:Value} {Ds:List Duo} {m m' : Nat} (h:LawAt base w g v Ds m) (hm:m ≤ m'):LawAt base w g v Ds m' :=
 ⟨h.blk,h.row,h.duos,h.apart,h.free,h.gb,fun D hD => Nat.le_trans (h.made D hD) hm,Nat.le_trans h.len hm,h.mx,h.mb⟩
theorem LawAt.below {base:Nat} {w w' : World} {g:Nat} {v:Value} {Ds:List Duo} {m:Nat} (h:LawAt base w g v Ds m) (hb:Below w.heap.size w w'):LawAt base w' g v Ds m :=
 ⟨(hb.block g (Array.getElem?_eq_some_iff.1 h.blk).1).trans h.blk,rowKept h.row (fun k hk => hb.block k (h.row.lt k hk).2),fun D hD => (h.duos D hD).frame fun k hk => hb.block k ((h.duos D hD).own_lt hk),h.apart,h.free,h.gb,h.made,h.len,h.mx.later hb,h.mb⟩
set_option maxHeartbeats 1000000 in
theorem made_no (g:Nat) (c:Int) (w:World) (hc:c < 1∨200 < c):Calls Tryz.prog 40 #[ptrV g,.int .i64 c] w fun e w' => e = .returned (.bool true)∧w' = w:=by
 have C1:Hid (Calls Tryz.prog 43 #[.int .i64 c] w fun e w' => e = .returned (.tuple #[.pointer none,.int .i64 1])∧w' = w):=storeNew_no c w hc
 have C2:Hid (Calls Tryz.prog 67 #[.int .i64 c] w fun e w' => e = .returned (.tuple #[.pointer none,.int .i64 1])∧w' = w):=refNew_no c w hc
 clear hc
 go_enter Tryz.func40,Tryz.ntmps40
 go_wp2_with (first | (go_at_call 43;refine C1.out.mono ?_;rintro e w1 ⟨rfl,rfl⟩) | (go_at_call 67;refine C2.out.mono ?_;rintro e w1 ⟨rfl,rfl⟩) | (go_at_call 68;refine (num_any _ _).mono ?_;rintro e w1 ⟨rfl,rfl⟩))
 go_ret
 exact ⟨rfl,rfl⟩
def MadeOut (base:Nat) (w:World) (g:Nat) (Ds:List Duo) (m:Nat) (e:Ending) (w' : World):Prop:=e = .returned (.bool true)∧∃ v' D,LawAt base w' g v' (Ds ++ [D]) (m + 1)∧Below base w w'
set_option maxHeartbeats 2000000 in
set_option maxRecDepth 50000 in
theorem made_yes (base:Nat) (g:Nat) (v:Value) (Ds:List Duo) (m c:Nat) (w:World) (h:LawAt base w g v Ds m) (h1:1 ≤ c) (h2:c ≤ 200) (hlen:Ds.length < 4000000000000) :
  Calls Tryz.prog 40 #[ptrV g,.int .i64 (c:Int)] w fun e w' => MadeOut base w g Ds m e w':=by
 have HL:Hid _:=h
 have hgl:g < w.heap.size:=(Array.getElem?_eq_some_iff.1 h.blk).1
 clear h
 go_enter Tryz.func40,Tryz.ntmps40
 go_wp2_with fail
 refine (storeNew_any c w h1 h2).mono ?_
 rintro e w1 ⟨B,rfl,hO,hA,hb1,hf1,_⟩
 have HO:Hid _:=hO
 have HA:Hid _:=hA
 have HB1:Hid _:=hb1
 have HF1:Hid _:=hf1
 clear hO hA hb1 hf1
 go_wp2_with fail
 refine (refNew_yes c w1 h1 h2).mono ?_
 rintro e w2 ⟨b,va,hbn,rfl,hR,hb2,hf2⟩
 have hD2:=ref_new HO.out HA.out hbn hR hb2 hf2
 have hb12:Below w.heap.size w w2:=HB1.out.trans (hb2.mono HB1.out.size)
 have hn:∀ k,Duo.own ⟨B,b,newR c,va,.slice none 0 0,[(0,.slice none 0 0)]⟩ k→w.heap.size ≤ k:=by
  intro k hk
  have hs1:=HB1.out.size
  rcases hk with h | h | h | ⟨x,hx,h⟩
  ·exact HF1.out k h
  ·have h:k = b:=h;omega
  ·have:=hf2 k h;omega
  ·have hx:x ∈ [((0:Nat),Value.slice none 0 0)]:=hx
   simp at hx;subst hx;simp [Value.ownBlock] at h
 have hL2:=HL.out.below hb12
 have hform:∃ ao nn cap,v = .slice ao nn cap:=by
  rcases hL2.row.2 with ⟨h,_⟩ | ⟨g',cap,cur,h,_⟩
  ·exact ⟨_,_,_,h⟩
  ·exact ⟨_,_,_,h⟩
 obtain ⟨ao,nn,cap,rfl⟩:=hform
 have cg:w2.cell? ⟨g,0,none⟩ = some (.slice ao nn cap):=(blk_cell hL2.blk 0).trans rfl
 have HROW:Hid (w2.ownsRow base 143 2 (.slice ao nn cap) Ds.length (flatP Ds)):=hL2.row
 have HBLK:Hid _:=hL2.blk
 have HD2:Hid (DuoAt w2 ⟨B,b,newR c,va,.slice none 0 0,[(0,.slice none 0 0)]⟩):=hD2
 have HN:Hid _:=hn
 have HB12:Hid _:=hb12
 have hg2:g < w2.heap.size:=Nat.lt_of_lt_of_le hgl hb12.size
 have hbase2:base ≤ w2.heap.size:=by have:=HL.out.gb;omega
 have Hsep:Hid _:=hL2.sep
 clear hD2 hn hb12 hL2 hR hb2 hf2 hbn
 go_wp2_with (first | (go_at_call 68;refine (num_any _ _).mono ?_;rintro e w1 ⟨rfl,rfl⟩) | (at_builtin;refine wp_app_at 73 143 _ 2 16 Tryz.infoPair Tryz.underlying73 rfl (by decide) rfl (.tmp 36) (.tmp 40) rfl (base:=base) HROW.out [ptrV B.sb,ptrV b] rfl (by intro u hu;simp at hu;rcases hu with rfl | rfl <;> rfl) ⟨rfl,rfl,rfl,rfl⟩ rfl rfl (by unfold maxLen;omega) (by omega) hbase2 ?_;intro v' w3 hrow3 hg3 hmv3;have hblk3:=(hg3.block g hg2 (Ne.symm Hsep.out)).trans HBLK.out;have cg3:=(blk_cell hblk3 0).trans rfl;have cf3:=blk_free hblk3 0;obtain ⟨g',cap',rfl⟩:=row_some hrow3;have HROW3:=Hid.mk' hrow3;have HG3:=Hid.mk' hg3;have HMV3:=Hid.mk' hmv3;have HBLK3:=Hid.mk' hblk3;clear hrow3 hg3 hmv3 hblk3))
 go_ret
 have hs5:Set1 w3 (w3.setCell ⟨g,0,none⟩ (.slice (some ⟨g',0,none⟩) (Ds.length + 1) cap')) g (.cells #[.slice (some ⟨g',0,none⟩) (Ds.length + 1) cap'] 75 (0,0)):=setCell_set1 HBLK3.out _
 obtain ⟨hL5,hb5⟩:=HL.out.more HB12.out HD2.out HN.out (by show 1 ≤ m + 1;omega) HROW3.out HG3.out HMV3.out hs5
 exact ⟨rfl,_,_,hL5,hb5⟩

open Go.RowKit
def LawOut (base:Nat) (w:World) (g:Nat) (m:Nat) (e:Ending) (w' : World):Prop:=e = .returned (.bool true)∧∃ v' Ds',LawAt base w' g v' Ds' (m + 1)∧Ds' ≠ []∧Below base w w'
theorem LawAt.turn {base:Nat} {w w' : World} {g:Nat} {v:Value} {Ds:List Duo} {m k:Nat} {D' : Duo} (h:LawAt base w g v Ds m) (hk:k < Ds.length) (hD:DuoAt w' D') (hS:DuoStep w Ds[k] w' D'):LawAt base w' g v (Ds.set k D') (m + 1)∧Below base w w':=by
 have hgl:g < w.heap.size:=(Array.getElem?_eq_some_iff.1 h.blk).1
 have hmem:Ds[k] ∈ Ds:=List.getElem_mem hk
 have hfr:=h.free _ hmem
 have hbase:base ≤ w.heap.size:=by have:=h.gb;omega
 have hoth:∀ j (hj:j < Ds.length),j ≠ k→∀ x,Ds[j].own x→¬ Ds[k].own x:=by
  intro j hj hne x h1 h2
  rcases Nat.lt_or_gt_of_ne hne with hlt | hgt
  ·exact (List.pairwise_iff_getElem.1 h.apart j k hj hk hlt) x h1 h2
  ·exact (List.pairwise_iff_getElem.1 h.apart k j hk hj hgt) x h2 h1
 have hnew:∀ x,D'.own x→x ≠ g∧v.ownBlock ≠ some x∧base ≤ x:=by
  intro x hx
  rcases hS.own x hx with h1 | h1
  ·exact hfr x h1
  ·exact ⟨by omega,fun e => by have:=(h.row.lt x e).2;omega,by omega⟩
 have hcross:∀ j (hj:j < Ds.length),j ≠ k→∀ x,Ds[j].own x→¬ D'.own x:=by
  intro j hj hne x h1 h2
  rcases hS.own x h2 with h3 | h3
  ·exact hoth j hj hne x h1 h3
  ·have:=(h.duos _ (List.getElem_mem hj)).own_lt h1;omega
 have hflat:flatP (Ds.set k D') = flatP Ds:=by
  unfold flatP
  have:(Ds.set k D').map (fun D => [ptrV D.B.sb,ptrV D.b]) = Ds.map (fun D => [ptrV D.B.sb,ptrV D.b]):=by
   rw [List.map_set]
   apply List.ext_getElem?
   intro i
   by_cases e:k = i
   ·subst e
    rw [List.getElem?_set_self (by simpa using hk),List.getElem?_map,List.getElem?_eq_getElem hk]
    simp [hS.sb,hS.b]
   ·rw [List.getElem?_set_ne e]
  rw [List.flatMap_def,List.flatMap_def,this]
 have hBel:Below base w w':=⟨hS.os,hS.tape,hS.output,hS.size,fun x hx => hS.blk x (by omega) (fun ho => by have:=(hfr x ho).2.2;omega)⟩
 refine ⟨⟨(hS.blk g hgl (fun ho => (hfr g ho).1 rfl)).trans h.blk,?_,?_,?_,?_,h.gb,?_,?_,h.mx.below hBel h.mb,h.mb⟩,hBel⟩
 ·rw [hflat,List.length_set]
  exact rowKept h.row (fun x hx => hS.blk x (h.row.lt x hx).2 (fun ho => (hfr x ho).2.1 hx))
 ·intro E hE
  obtain ⟨j,hj,rfl⟩:=List.getElem_of_mem hE
  rw [List.length_set] at hj
  by_cases e:k = j
  ·subst e;rw [List.getElem_set_self];exact hD
  ·rw [List.getElem_set_ne e]
   exact (h.duos _ (List.getElem_mem hj)).frame fun x hx => hS.blk x ((h.duos _ (List.getElem_mem hj)).own_lt hx) (hoth j hj (Ne.symm e) x hx)
 ·rw [List.pairwise_iff_getElem]
  intro i j hi hj hij x h1 h2
  rw [List.length_set] at hi hj
  by_cases e1:k = i
  ·subst e1
   rw [List.getElem_set_self] at h1
   rw [List.getElem_set_ne (by omega)] at h2
   exact hcross j hj (by omega) x h2 h1
  ·rw [List.getElem_set_ne e1] at h1
   by_cases e2:k = j
   ·subst e2
    rw [List.getElem_set_self] at h2
    exact hcross i hi (Ne.symm e1) x h1 h2
   ·rw [List.getElem_set_ne e2] at h2
    exact (List.pairwise_iff_getElem.1 h.apart i j hi hj hij) x h1 h2
 ·intro E hE x hx
  obtain ⟨j,hj,rfl⟩:=List.getElem_of_mem hE
  rw [List.length_set] at hj
  by_cases e:k = j
  ·subst e;rw [List.getElem_set_self] at hx;exact hnew x hx
  ·rw [List.getElem_set_ne e] at hx;exact h.free _ (List.getElem_mem hj) x hx
 ·intro E hE
  obtain ⟨j,hj,rfl⟩:=List.getElem_of_mem hE
  rw [List.length_set] at hj
  by_cases e:k = j
  ·subst e;rw [List.getElem_set_self];have:=hS.made;have:=h.made _ hmem;omega
  ·rw [List.getElem_set_ne e];have:=h.made _ (List.getElem_mem hj);omega
 ·rw [List.length_set];have:=h.len;omega
def AsksOk (K Wn N M:Int) (S T:Str) (L:Value):Prop:=6 < K→K ≤ 11→∀ D w,DuoAt w D→D.r.made < 4611686018427387904→MaxOk w→Calls Tryz.prog 70 #[pairV D,opV K Wn N M S T L] w fun e w' => EditOut w D e w'

open Go.RowKit
structure OpD where
 K:Int
 W:Int
 N:Int
 M:Int
 S:Str
 T:Str
 L:Value
def OpD.cells (o:OpD):List Value:=[.int .i64 o.K,.int .i64 o.W,.int .i64 o.N,.int .i64 o.M,SV o.S,SV o.T,o.L]
structure OpD.Ok (o:OpD):Prop where
 w:InI o.W
 s:o.S.length + 1 < maxLen
 t:o.T.length + 1 < maxLen
theorem add_block (a:Addr) (n:Nat):(a.add n).block = a.block:=by unfold Addr.add;split <;> rfl
theorem Tryz.sizeOp:(Tryz.prog.info? 78).map (·.size) = some 7:=by kernel_rfl
theorem law_start {w w1:World} (hm:MaxOk w) (hb:Below w.heap.size w w1) (h:w1.heap[w.heap.size]? = some (.cells #[.slice none 0 0] 75 (0,0))):LawAt w.heap.size w1 w.heap.size (.slice none 0 0) [] 0 :=
 ⟨h,World.ownsRow_nil _ _ _ _,by simp,by simp,by simp,Nat.le_refl _,by simp,by simp,hm.later hb,hm.lt⟩
theorem LawAt.slice {base:Nat} {w:World} {g:Nat} {v:Value} {Ds:List Duo} {m:Nat} (h:LawAt base w g v Ds m) (hne:Ds ≠ []):∃ g' cap,v = .slice (some ⟨g',0,none⟩) Ds.length cap:=by
 have hpos:0 < Ds.length:=List.length_pos_iff.2 hne
 rcases row_cells h.row with ⟨h3,h4⟩ | ⟨g',cap,h3,h4,_,h5,h6,h7⟩
 ·omega
 ·exact ⟨g',cap,h3⟩
set_option maxHeartbeats 4000000 in
set_option maxRecDepth 50000 in
theorem plays_nil (c hi:Int) (w:World) (hmx:MaxOk w) (hc:InI c):Calls Tryz.prog 13 #[.slice none 0 0,.int .i64 c,.int .i64 hi] w fun e w' => e = .returned (.bool true)∧Below w.heap.size w w':=by
 have hpk:=pickN_lt c (n:=200) (by omega)
 have CP:Hid (∀ W,Calls Tryz.prog 41 #[.int .i64 c,.int .i64 200] W fun e w' => e = .returned (.int .i64 (pickN c 200:Int))∧w' = W):=fun W => pick_any c 200 W hc (by omega) (by omega)
 obtain ⟨w1,hw1⟩ : ∃ w1:World,w1 = w.alloc (.cells #[.slice none 0 0] 75):=⟨_,rfl⟩
 have hL1:LawAt w.heap.size w1 w.heap.size (.slice none 0 0) [] 0:=law_start hmx (by rw [hw1];exact (Below.refl _ _).alloc (Nat.le_refl _) _) (by rw [hw1];exact heap_alloc_new _ _)
 have HB1:Hid (Below w.heap.size w w1):=by rw [Hid,hw1];exact (Below.refl _ _).alloc (Nat.le_refl _) _
 have CM:Hid (Calls Tryz.prog 40 #[ptrV w.heap.size,.int .i64 ((pickN c 200 + 1:Nat):Int)] w1 fun e w' => MadeOut w.heap.size w1 w.heap.size [] 0 e w'):=made_yes w.heap.size w.heap.size (.slice none 0 0) [] 0 (pickN c 200 + 1) w1 hL1 (by omega) (by omega) (by simp)
 have HW1:Hid _:=hw1
 clear hL1 hw1
 generalize pickN c 200 = pk at *
 go_enter Tryz.func13,Tryz.ntmps13
 go_wp2_with fail
 refine (CP.out _).mono ?_
 rintro e w2 ⟨rfl,rfl⟩
 go_wp2_with fail
 rw [← HW1.out,show (1 + (pk:Int)) = ((pk + 1:Nat):Int) from by omega]
 refine CM.out.mono ?_
 rintro e w3 ⟨rfl,v',D,hL3,hb3⟩
 rw [List.nil_append] at hL3
 obtain ⟨g3,cap3,rfl⟩:=hL3.slice (by simp)
 have cg3:w3.cell? ⟨w.heap.size,0,none⟩ = some (.slice (some ⟨g3,0,none⟩) 1 cap3):=(blk_cell hL3.blk 0).trans rfl
 have HL3:Hid _:=hL3
 have HB3:Hid (Below w.heap.size w w3):=HB1.out.trans hb3
 clear hL3 hb3 CM HW1 HB1 CP
 go_wp2
 go_loopw [9] (fun i wr => i = .int .i64 0∧Below w.heap.size w wr) (fun _ _ => 0)
 case atStart => exact ⟨rfl,HB3.out⟩
 case round =>
  obtain ⟨rfl,hb⟩:=hrel
  have HB:Hid _:=hb
  clear hb cg3 HL3
  go_wp2
  go_ret
  exact ⟨rfl,HB.out⟩
end Go.Proofs.YtdcbgfhkfmohiaaGreatDoor
