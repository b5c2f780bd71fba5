/- The document's Rule behind the program's. -/
import Derived.Test.YtdcbgfhkfmohiaaGreatDoorAl37
import Derived.Test.YtdcbgfhkfmohiaaGreatDoorAl45
import Derived.Test.YtdcbgfhkfmohiaaGreatDoorAl46
import Derived.Deep.RegionHeld3
namespace Go.Proofs.YtdcbgfhkfmohiaaGreatDoor
open Go.RowKit
theorem docRule {w w2:World} {X:DuoX} {Rs' : List RuleP} {nm:Str} {qs:List Str} {qv:Value} (h:DuoXAt w X) (hp:ProgTurn w X w2 Rs' (ruleDV (X.ds.map (·.view)) nm qs)) (hN:NamesAt w2 qv qs) (hl:nm.length ≤ maxLen) (hq:∀ x ∈ qs,x.length + 1 < maxLen) :
  Calls Tryz.prog 141 #[.pointer (some ⟨X.D.b,0,none⟩),SV nm,qv] w2 fun e w3 => e = .returned (.int .i64 (ruleDE (X.ds.map (·.view)) nm qs))∧∃ X',DuoXAt w3 X'∧DuoXStep w X w3 X' :=
 (refRule_any X.D.b (.int .i64 X.D.r.limit) (.int .i64 X.D.r.made) X.D.va X.D.vr X.ds nm qs qv w2 (hp.ref h).blk (hp.doc h) (fun hb => h.outD _ (.inr hb) (.inr (.inl rfl))) hN hl hq).mono fun _ _ hO => docRule_of h hp hO

open Go.RowKit
attribute [local go_sem] Oper.semAt_some
def QOk (qs:List Str):Prop:=qs.length ≤ 9000000000000∧∀ q ∈ qs,q.length + 1 < maxLen
set_option maxHeartbeats 2000000 in
set_option maxRecDepth 50000 in
theorem ruled_any (X:DuoX) (Wn N M:Int) (S T:Str) (L:Value) (qs:List Str) (base:Nat) (w:World) (hX:DuoXAt w X) (hmx:MaxOk w) (hbz:base ≤ w.heap.size) (hfr:∀ k,X.own k→base ≤ k) (hnm:∀ W,Below base w W→NamesAt W L qs) (hS:S.length ≤ maxLen) (hQ:QOk qs) :
  Calls Tryz.prog 105 #[pairV X.D,opV 10 Wn N M S T L] w fun e w' => EditX w X e w':=by
 obtain ⟨w1,hw1,hA1,hb1,hsz1⟩:=args_box w X.D 10 Wn N M S T L
 obtain ⟨ao,cap,rfl,hcl,hcm,-⟩:=id (hnm w (Below.refl _ _))
 obtain ⟨n,hn⟩ : ∃ n,qs.length = n:=⟨_,rfl⟩
 obtain ⟨m,hm⟩ : ∃ m,m = n + 8:=⟨_,rfl⟩
 have HQ:=Hid.mk' hQ.2
 have hq1:n ≤ 9000000000000:=hn ▸ hQ.1
 rw [hn] at hnm hcl hA1 hw1 ⊢
 obtain ⟨w2,mk1,hg2,hb2⟩:=make_strs n m hm hq1 w1
 obtain ⟨g,hg⟩ : ∃ g,w1.heap.size = g:=⟨_,rfl⟩
 have HG:=Hid.mk' (show g = w.heap.size + 2 by rw [← hg];exact hsz1)
 rw [hg] at mk1 hg2 hb2 hsz1
 have HB2:Hid (Below g w1 w2):=hb2
 have HG2:=Hid.mk' hg2
 have HX:=Hid.mk' hX
 have HMX:=Hid.mk' hmx
 have HFR:=Hid.mk' hfr
 have HNM:=Hid.mk' hnm
 have HA1:=Hid.mk' hA1
 have HB1:=Hid.mk' hb1
 have HW1:=Hid.mk' hw1
 have HN:=Hid.mk' hn
 have HM:=Hid.mk' hm
 have hmi:(n:Int) ≤ (m:Int):=by omega
 have hm0:¬ m = 0:=by omega
 have o6:w1.cell? ⟨w.heap.size + 1,6,none⟩ = some (.slice ao n cap):=(blk_cell hA1.op 6).trans rfl
 have o6' : w2.cell? ⟨w.heap.size + 1,6,none⟩ = some (.slice ao n cap):=(hb2.cell (p:=⟨w.heap.size + 1,6,none⟩) (by show w.heap.size + 1 < g;omega)).trans o6
 have NC:Hid (0 < (qs.map SV).length→(some (⟨g,0,none⟩ : Addr)) = some ⟨g,0,none⟩∧∃ ad,ao = some ad∧∀ j v,(qs.map SV)[j]? = some v→w2.cell? (ad.add j) = some v):=fun h0 => ⟨rfl,names_copy (hnm w2 ((hb1.mono hbz).trans (hb2.mono (by omega)))) h0⟩
 have HLE:Hid ((qs.map SV).length = Nat.min n m):=by rw [Hid,List.length_map,hn];exact (Nat.min_eq_left (by omega)).symm
 have HFIT:Hid (0 + (qs.map SV).length ≤ (List.replicate m (SV [])).length):=by rw [Hid,List.length_map,List.length_replicate,hn];omega
 have HONE:Hid (∀ v ∈ qs.map SV,v.oneCell' = true):=by
  intro v hv
  obtain ⟨x,-,rfl⟩:=List.mem_map.1 hv
  rfl
 clear hX hmx hfr hnm hA1 hb1 hw1 hn hm hb2 hg2 hQ hg hsz1
 go_enter Tryz.func105,Tryz.ntmps105
 go_upto_region 1 with fail
 rw [← HW1.out]
 go_wp2_with (refine wpList_copy_splice rfl (.tmp 16) (.tmp 18) 48 48 rfl 9 Tryz.underlying48 (by kernel_rfl) (some ⟨g,0,none⟩) ao m m n cap rfl rfl g 0 (List.replicate m (SV [])) 9 HG2.out (qs.map SV) HLE.out NC.out HFIT.out HONE.out g w1 HB2.out (Nat.le_refl _) ?_;intro w3 hg3 hb3;have HB3:=Hid.mk' hb3;clear hb3)
 have HR3:Hid (StrsIn w3 g (rowB qs 0)):=by
  have h:=hg3.out
  rw [splice_row (by rw [HN.out];exact HM.out)] at h
  exact h
 clear hg3 mk1 o6'
 go_loopw [6] (fun i wr => ∃ k:Nat,k ≤ 8∧i = .int .i64 k∧StrsIn wr g (rowB qs k)∧Below g w1 wr) (fun i _ => 8 - (intOf i).toNat)
 case atStart => exact ⟨0,Nat.zero_le _,rfl,HR3.out,HB3.out⟩
 case round =>
  obtain ⟨k,hk,rfl,hr,hb⟩:=hrel
  have o6r:wr.cell? ⟨w.heap.size + 1,6,none⟩ = some (.slice ao n cap):=(hb.cell (p:=⟨w.heap.size + 1,6,none⟩) (by show w.heap.size + 1 < g;have:=HG.out;omega)).trans o6
  clear HR3 HB3
  by_cases hlt:k < 8
  ·have hki:(k:Int) < 8:=by omega
   have hnk:(n:Int) + (k:Int) < (m:Int):=by have:=HM.out;omega
   have hc:wr.cell? ⟨g,n + k,none⟩ = some (SV []):=hr.cell (by rw [← HN.out];exact rowB_at hlt)
   have hf:wr.frozen? ⟨g,n + k,none⟩ = false:=hr.free _
   have HS:Hid (StrsIn (wr.setCell ⟨g,n + k,none⟩ (SV beyS)) g (rowB qs (k + 1))):=by
    have h:=hr.set (n + k) beyS
    rw [← HN.out,rowB_set hlt,HN.out] at h
    exact h
   have HBs:Hid (Below g w1 (wr.setCell ⟨g,n + k,none⟩ (SV beyS))):=hb.setCell (p:=⟨g,n + k,none⟩) (Nat.le_refl _) _
   clear hr hb
   go_wp2
   go_roundw
   case rel => exact ⟨k + 1,by omega,by go_num,HS.out,HBs.out⟩
   case measure => simp [intOf];omega
  ·obtain rfl:k = 8:=by omega
   clear hlt hk o6
   have hsg:g < wr.heap.size:=hr.lt
   have hgw:=HG.out
   have hb5d:Below w.heap.size w wr.drew:=(HB1.out.trans (hb.mono (by omega))).trans ((⟨rfl,rfl,rfl,rfl⟩ : Like wr.drew wr).below _)
   have HXD:=Hid.mk' (HX.out.below hb5d)
   have hNd:NamesAt wr.drew (.slice (some ⟨g,0,none⟩) n m) qs:=StrsIn.names (show StrsIn wr.drew g (rowB qs 8) from hr) (by rw [← HN.out];exact rowB_take) HN.out (by rw [rowB_len (Nat.le_refl _),HN.out,HM.out]) (by have:=HM.out;unfold maxLen;omega)
   have C:=Hid.mk' (progRule HXD.out hNd (HMX.out.later hb5d) hS)
   obtain ⟨rv,hrv⟩ : ∃ rv,ruleDE (X.ds.map (·.view)) S qs = rv:=⟨_,rfl⟩
   have HRV:=Hid.mk' hrv
   rw [hrv] at C
   clear hrv
   have hp0:=(hb.block w.heap.size (by omega)).trans HA1.out.pair
   have ho0:=(hb.block (w.heap.size + 1) (by omega)).trans HA1.out.op
   have p0:wr.cell? ⟨w.heap.size,0,none⟩ = some (ptrV X.D.B.sb):=(blk_cell hp0 0).trans rfl
   have o4:wr.cell? ⟨w.heap.size + 1,4,none⟩ = some (SV S):=(blk_cell ho0 4).trans rfl
   -- what a turn of the pair alone leaves standing
   have KEEP:Hid (∀ W,wr.heap.size ≤ W.heap.size→(∀ j,j < wr.heap.size→¬ X.own j→W.heap[j]? = wr.heap[j]?)→StrsIn W g (rowB qs 8)∧W.heap[w.heap.size]? = some (.cells #[ptrV X.D.B.sb,ptrV X.D.b] 143 (0,0))∧W.heap[w.heap.size + 1]? = some (.cells #[.int .i64 10,.int .i64 Wn,.int .i64 N,.int .i64 M,SV S,SV T,.slice ao n cap] 78 (0,0))∧w.heap.size + 2 < W.heap.size):=fun W h1 h2 => by
    have ho:∀ j,w.heap.size ≤ j→¬ X.own j:=fun j hj h => by have:=HX.out.own_lt h;omega
    exact ⟨hr.kept (h2 g hsg (ho g (by omega))),(h2 _ (by omega) (ho _ (by omega))).trans hp0,(h2 _ (by omega) (ho _ (by omega))).trans ho0,by omega⟩
   have KP:Hid (∀ W Rs' D',ProgTurn wr.drew X W Rs' D'→W.cell? ⟨w.heap.size,0,none⟩ = some (ptrV X.D.B.sb)∧W.cell? ⟨w.heap.size + 1,4,none⟩ = some (SV S)∧W.cell? ⟨w.heap.size + 1,6,none⟩ = some (.slice ao n cap)):=fun W Rs' D' hp => by
    obtain ⟨-,h1,h2,-⟩:=KEEP.out W hp.turn.size (fun j h1 h2 => hp.turn.blk j h1 fun h3 => h2 (.inr (.inl (.inl h3))))
    exact ⟨(blk_cell h1 0).trans rfl,(blk_cell h2 4).trans rfl,(blk_cell h2 6).trans rfl⟩
   have HBD:=Hid.mk' hb5d
   clear hr hb hb5d hNd hp0 ho0 hgw
   go_upto_region 7 with fail
   go_region_held3 (fun W:World => W.cell? ⟨w.heap.size,0,none⟩ = some (ptrV X.D.B.sb)∧W.cell? ⟨w.heap.size + 1,4,none⟩ = some (SV S)∧W.cell? ⟨w.heap.size + 1,6,none⟩ = some (.slice ao n cap)) (first | assumption | go_keep) (first | (go_at_call 37;refine Calls.mono (show Calls _ _ _ _ _ from C.out) ?_;rintro e w6 ⟨rfl,Rs',hp⟩;have hS6:=KP.out _ _ _ hp;have HP:=Hid.mk' hp;clear hp))
   obtain ⟨-,hp6,ho6,hz6⟩:=KEEP.out w6 HP.out.turn.size (fun j h1 h2 => HP.out.turn.blk j h1 fun h3 => h2 (.inr (.inl (.inl h3))))
   have p1:w6.cell? ⟨w.heap.size,1,none⟩ = some (ptrV X.D.b):=(blk_cell hp6 1).trans rfl
   have BEL6:Below base w w6:=(HBD.out.mono hbz).trans ⟨HP.out.turn.os,HP.out.turn.tape,HP.out.turn.output,HP.out.turn.size,fun j hj => HP.out.turn.blk j (by show j < wr.heap.size;have:=HG.out;omega) fun h3 => by have:=HFR.out j (.inr (.inl (.inl h3)));omega⟩
   have CR:=Hid.mk' (docRule HXD.out HP.out (HNM.out w6 BEL6) hS HQ.out)
   rw [HRV.out] at CR
   obtain ⟨-,q4,q6⟩:=hS6
   clear hp6 ho6 C KP p0 o4 o6r BEL6
   go_wp2_with fail
   refine Calls.mono (show Calls _ _ _ _ _ from CR.out) ?_
   rintro e w7 ⟨rfl,X',h1,h2⟩
   obtain ⟨hr7,-,ho7,hz7⟩:=KEEP.out w7 h2.size h2.blk
   have HN7:Hid (¬ X'.own g):=fun h => (h2.own g h).elim (fun h3 => by have:=HX.out.own_lt h3;have:=HG.out;omega) (fun h3 => by have h3:wr.heap.size ≤ g:=h3;omega)
   have HB7:Hid (Below base w w7):=(HBD.out.mono hbz).trans ⟨h2.os,h2.tape,h2.output,h2.size,fun j hj => h2.blk j (by show j < wr.heap.size;have:=HG.out;omega) fun h3 => by have:=HFR.out j h3;omega⟩
   have HX7:=Hid.mk' h1
   have HS7:=Hid.mk' (DuoXStep.before HBD.out h2)
   have HR7:=Hid.mk' hr7
   have HO7:=Hid.mk' ho7
   have hgb:base ≤ g:=by have:=HG.out;omega
   clear h1 h2 CR hr7 ho7 p1 q4 q6 KEEP HP HXD HBD
   go_wp2
   go_loopw [9] (fun i wr => ∃ k:Nat,k ≤ m∧i = .int .i64 k∧StrsIn wr g (rowM qs k)∧Turn (fun j => j = g) w7 wr (fun j => j = g)) (fun i _ => m - (intOf i).toNat)
   case atStart => exact ⟨0,Nat.zero_le _,rfl,HR7.out,Turn.refl _ _⟩
   case round =>
    obtain ⟨k,hk,rfl,hr,hT⟩:=hrel
    have o6r:wr.cell? ⟨w.heap.size + 1,6,none⟩ = some (.slice ao n cap):=(blk_cell ((hT.blk (w.heap.size + 1) (by omega) (by have:=HG.out;omega)).trans HO7.out) 6).trans rfl
    have hsw:w.heap.size + 2 < wr.heap.size:=by have:=hT.size;omega
    by_cases hlt:k < m
    ·have hki:(k:Int) < (m:Int):=by omega
     have hkb:k < 9000000000009:=by have:=HM.out;omega
     have HSE:Hid (StrsIn (wr.setCell ⟨g,k,none⟩ (SV mineS)) g (rowM qs (k + 1))):=by
      have h:=hr.set k mineS
      rw [rowM_set (by rw [HN.out,← HM.out];exact hlt)] at h
      exact h
     have HTE:=Hid.mk' (hT.setCell (k:=k) (v:=SV mineS))
     have hf:wr.frozen? ⟨g,k,none⟩ = false:=hr.free _
     by_cases hln:k < n
     ·have hli:(k:Int) < (n:Int):=by omega
      have BW:Below base w wr:=HB7.out.trans ⟨hT.os,hT.tape,hT.output,hT.size,fun j hj => hT.blk j (by omega) (by omega)⟩
      obtain ⟨ao',cap',he,_,_,hcc⟩:=HNM.out wr BW
      simp only [Value.slice.injEq] at he
      obtain ⟨rfl,-,rfl⟩:=he
      obtain ⟨gq,oq,rfl,hgq,hcq⟩:=hcc k (by rw [HN.out];exact hln)
      have cl:wr.cell? ⟨g,k,none⟩ = some (SV (qs[k]'(by rw [HN.out];exact hln))):=hr.cell (by rw [rowM_at,rowB_low])
      obtain ⟨x,hx⟩ : ∃ x,qs[k]'(by rw [HN.out];exact hln) = x:=⟨_,rfl⟩
      rw [hx] at cl hcq
      clear hx hcc BW hr hT hln
      go_wp2
      go_roundw
      case rel => exact ⟨k + 1,by omega,by go_num,HSE.out,HTE.out⟩
      case measure => simp [intOf];omega
     ·have hli:¬ (k:Int) < (n:Int):=by omega
      have cl:wr.cell? ⟨g,k,none⟩ = some (SV beyS):=hr.cell (by rw [rowM_at,rowB_high (by rw [HN.out];omega) (by rw [HN.out,← HM.out];exact hlt)])
      clear hr hT hln
      go_wp2
      go_roundw
      case rel => exact ⟨k + 1,by omega,by go_num,HSE.out,HTE.out⟩
      case measure => simp [intOf];omega
    ·have hki:¬ (k:Int) < (m:Int):=by omega
     have RR:=Hid.mk' (HS7.out.after HX7.out (by have:=HG.out;omega) HN7.out hT)
     clear hr hT HS7 HX7
     go_wp2_with (go_at_call 68;refine (num_any _ _).mono ?_;rintro e w9 ⟨rfl,rfl⟩)
     go_ret
     exact ⟨by first | rfl | simp,X',RR.out⟩
end Go.Proofs.YtdcbgfhkfmohiaaGreatDoor

namespace Go.Proofs.YtdcbgfhkfmohiaaGreatDoor
open Go.RowKit
set_option maxHeartbeats 4000000 in
set_option maxRecDepth 50000 in
theorem asks_rule (X:DuoX) (Wn N M:Int) (S T:Str) (L:Value) (qs:List Str) (base:Nat) (w:World) (hX:DuoXAt w X) (hmx:MaxOk w) (hbz:base ≤ w.heap.size) (hfr:∀ k,X.own k→base ≤ k) (hnm:∀ W,Below base w W→NamesAt W L qs) (hS:S.length ≤ maxLen) (hQ:QOk qs) :
  Calls Tryz.prog 70 #[pairV X.D,opV 10 Wn N M S T L] w fun e w' => EditX w X e w':=by
 obtain ⟨w1,hw1,hA1,hb1,hsz1⟩:=args_box w X.D 10 Wn N M S T L
 have C:Hid (Calls Tryz.prog 105 #[pairV X.D,opV 10 Wn N M S T L] w1 fun e w' => EditX w1 X e w'):=ruled_any X Wn N M S T L qs base w1 (hX.below hb1) (hmx.later hb1) (Nat.le_trans hbz hb1.size) hfr (fun W hW => hnm W ((hb1.mono hbz).trans hW)) hS hQ
 have HB1:=Hid.mk' hb1
 have HW1:=Hid.mk' hw1
 clear hA1 hb1 hw1 hX hmx hfr hnm hQ
 go_enter Tryz.func70,Tryz.ntmps70
 go_wp2_with fail
 rw [← HW1.out]
 refine Calls.mono (show Calls _ _ _ _ _ from C.out) ?_
 rintro e w2 ⟨rfl,X',h1,h2⟩
 have RR:Hid (EditX w X (.returned (.bool true)) w2):=⟨rfl,X',h1,DuoXStep.before HB1.out h2⟩
 clear h1 h2 C
 go_wp2
 go_ret
 exact RR.out
theorem asks_okX {K Wn N M:Int} {S T:Str} {L:Value} {qs:List Str} (hS:S.length + 1 < maxLen) (hQ:QOk qs):AsksOkX K Wn N M S T L qs:=by
 intro h6 h11 base D w hD hm hmx hbz hfr hnm
 by_cases h9:K ≤ 9
 ·exact (asks_ok9 h9 hS h6 h11 D.D w hD.duo hm hmx).mono fun _ _ h => EditX.of hD h
 ·by_cases h10:K = 10
  ·subst h10
   exact asks_rule D Wn N M S T L qs base w hD hmx hbz hfr hnm (by omega) hQ
  ·obtain rfl:K = 11:=by omega
   exact asks_plan D Wn N M S T L w hD
end Go.Proofs.YtdcbgfhkfmohiaaGreatDoor
