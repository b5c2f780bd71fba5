/- The law's asks: Ask. -/
import Derived.Test.YtdcbgfhkfmohiaaGreatDoorAl40
import Derived.Test.YtdcbgfhkfmohiaaGreatDoorAl42
namespace Go.Proofs.YtdcbgfhkfmohiaaGreatDoor
open Go.RowKit
set_option maxHeartbeats 4000000 in
set_option maxRecDepth 50000 in
theorem asks_ask (D:Duo) (Wn N M:Int) (S T:Str) (L:Value) (w:World) (hD:DuoAt w D) (hmx:MaxOk w) (hS:S.length + 1 < maxLen) :
  Calls Tryz.prog 70 #[pairV D,opV 9 Wn N M S T L] w fun e w' => EditOut w D e w':=by
 have HD:Hid _:=hD
 clear hD
 obtain ⟨w1,hw1,hA1,hb1,hsz1⟩:=args_box w D 9 Wn N M S T L
 have hD1:DuoAt w1 D:=duo_below HD.out hb1
 have C:Hid (Calls Tryz.prog 32 #[ptrV D.B.sb,.int .i64 N,SV S] w1 fun e w' => DiffOut w1 (askR D.r N S) e w'):=storeAsk_any D.B D.r N S w1 hD1.ok hD1.ag (hmx.later hb1)
 have HA1:Hid _:=hA1
 have HB1:Hid _:=hb1
 have HD1:Hid _:=hD1
 have HW1:Hid _:=hw1
 have HSL:Hid _:=hS
 clear hA1 hb1 hD1 hw1 hmx hS
 go_enter Tryz.func70,Tryz.ntmps70
 go_wp2_with fail
 rw [← HW1.out]
 refine C.out.mono ?_
 rintro e w2 ⟨rfl,hb2⟩
 have hA2:=HA1.out.below hb2
 have hD2:DuoAt w2 D:=duo_below HD1.out hb2
 have CR:Hid (Calls Tryz.prog 104 #[.pointer (some ⟨D.b,0,none⟩),.int .i64 N,SV S] w2 fun e w' => DiffOut w2 (askR D.r N S) e w'):=refAsk_any D.b D.r D.va D.vr D.sn N S w2 hD2.ref HSL.out
 have cN:w2.cell? ⟨w.heap.size + 1,2,none⟩ = some (.int .i64 N):=(blk_cell hA2.op 2).trans rfl
 have cS:w2.cell? ⟨w.heap.size + 1,4,none⟩ = some (SV S):=(blk_cell hA2.op 4).trans rfl
 have cB:w2.cell? ⟨w.heap.size,1,none⟩ = some (ptrV D.b):=(blk_cell hA2.pair 1).trans rfl
 have HB2:Hid (Below w.heap.size w w2):=HB1.out.trans (hb2.mono HB1.out.size)
 clear hb2 hA2 hD2 C HA1 HD1
 generalize askR D.r N S = o at *
 obtain ⟨o1,o2⟩:=o
 go_wp2_with fail
 refine CR.out.mono ?_
 rintro e w3 ⟨rfl,hb3⟩
 have hb4:Below w.heap.size w w3:=HB2.out.trans (hb3.mono HB2.out.size)
 have RR:Hid (∃ D',DuoAt w3 D'∧DuoStep w D w3 D'):=⟨D,duo_below HD.out hb4,DuoStep.of_below hb4⟩
 clear hb3 hb4 CR cN cS cB HB2
 go_wp2_with (go_at_call 68;refine (num_any _ _).mono ?_;rintro e w4 ⟨rfl,rfl⟩)
 go_ret
 exact ⟨by first | rfl | simp,RR.out⟩
theorem asks_ok9 {K Wn N M:Int} {S T:Str} {L:Value} (hK:K ≤ 9) (hS:S.length + 1 < maxLen):AsksOk K Wn N M S T L:=by
 by_cases h8:K ≤ 8
 ·exact asks_ok8 h8 hS
 ·intro _ _ D w hD _ hmx
  obtain rfl:K = 9:=by omega
  exact asks_ask D Wn N M S T L w hD hmx hS
end Go.Proofs.YtdcbgfhkfmohiaaGreatDoor
