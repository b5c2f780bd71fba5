/- The law's asks: Plan. -/
import Derived.Test.YtdcbgfhkfmohiaaGreatDoorAl34
import Derived.Test.YtdcbgfhkfmohiaaGreatDoorAl43
import Derived.Test.YtdcbgfhkfmohiaaGreatDoorAl45
namespace Go.Proofs.YtdcbgfhkfmohiaaGreatDoor
open Go.RowKit
def EditX (w:World) (X:DuoX) (e:Ending) (w' : World):Prop:=e = .returned (.bool true)∧∃ X',DuoXAt w' X'∧DuoXStep w X w' X'
theorem EditX.of {w:World} {X:DuoX} (h:DuoXAt w X) {e:Ending} {w' : World} (hE:EditOut w X.D e w'):EditX w X e w':=by
 obtain ⟨he,D',h1,h2⟩:=hE
 exact ⟨he,_,duoX_lift h h1 h2⟩
set_option maxHeartbeats 4000000 in
set_option maxRecDepth 50000 in
theorem asks_plan (X:DuoX) (Wn N M:Int) (S T:Str) (L:Value) (w:World) (hX:DuoXAt w X) :
  Calls Tryz.prog 70 #[pairV X.D,opV 11 Wn N M S T L] w fun e w' => EditX w X e w':=by
 obtain ⟨w1,hw1,hA1,hb1,hsz1⟩:=args_box w X.D 11 Wn N M S T L
 have hX1:DuoXAt w1 X:=hX.below hb1
 have C:=Hid.mk' (progPlan hX1 N)
 have HA1:=Hid.mk' hA1
 have HB1:=Hid.mk' hb1
 have HX1:=Hid.mk' hX1
 have HX:=Hid.mk' hX
 have HW1:=Hid.mk' hw1
 clear hA1 hb1 hX1 hw1 hX
 obtain ⟨o,ho⟩ : ∃ o,planX X N = o:=⟨_,rfl⟩
 obtain ⟨o1,o2⟩:=o
 have HO:=Hid.mk' ho
 rw [ho] at C
 clear ho
 go_enter Tryz.func70,Tryz.ntmps70
 go_wp2_with fail
 rw [← HW1.out]
 refine Calls.mono (show Calls _ _ _ _ _ from C.out) ?_
 rintro e w2 ⟨rfl,Rs',hp⟩
 have hk0:∀ k,w.heap.size ≤ k→k < w1.heap.size→w2.heap[k]? = w1.heap[k]?:=fun k h1 h2 => hp.kept HX1.out h2 fun h3 => by
  have:=HX.out.prog.lt h3
  omega
 have e0:=hk0 w.heap.size (Nat.le_refl _) (by omega)
 have e1:=hk0 (w.heap.size + 1) (by omega) (by omega)
 have cN:w2.cell? ⟨w.heap.size + 1,2,none⟩ = some (.int .i64 N):=(World.cell?_of_block (a:=⟨w.heap.size + 1,2,none⟩) e1).trans ((blk_cell HA1.out.op 2).trans rfl)
 have cB:w2.cell? ⟨w.heap.size,1,none⟩ = some (ptrV X.D.b):=(World.cell?_of_block (a:=⟨w.heap.size,1,none⟩) e0).trans ((blk_cell HA1.out.pair 1).trans rfl)
 have hz2:w.heap.size + 1 < w2.heap.size:=by have:=hp.turn.size;omega
 have CR:=Hid.mk' (docPlan HX1.out N hp)
 rw [HO.out] at CR
 clear hp hk0 e0 e1 C
 go_wp2_with fail
 refine Calls.mono (show Calls _ _ _ _ _ from CR.out) ?_
 rintro e w3 ⟨rfl,X',h1,h2⟩
 have RR:Hid (∃ X',DuoXAt w3 X'∧DuoXStep w X w3 X'):=⟨X',h1,DuoXStep.before HB1.out h2⟩
 clear h1 h2 CR cN cB
 go_wp2_with (go_at_call 68;refine (num_any _ _).mono ?_;rintro e w4 ⟨rfl,rfl⟩)
 go_ret
 exact ⟨by first | rfl | simp,RR.out⟩

open Go.RowKit
def flatX (Ds:List DuoX):List Value:=Ds.flatMap fun D => [ptrV D.D.B.sb,ptrV D.D.b]
theorem flatX_app (Ds:List DuoX) (D:DuoX):flatX (Ds ++ [D]) = flatX Ds ++ [ptrV D.D.B.sb,ptrV D.D.b]:=by simp [flatX]
theorem flatX_get (Ds:List DuoX) (k:Nat) (h:k < Ds.length):(flatX Ds)[k * 2]? = some (ptrV Ds[k].D.B.sb)∧(flatX Ds)[k * 2 + 1]? = some (ptrV Ds[k].D.b):=by
 induction Ds generalizing k with
 | nil => simp at h
 | cons f t ih =>
  cases k with
  | zero => simp [flatX]
  | succ k =>
   have:=ih k (by simpa using h)
   simp only [flatX,List.flatMap_cons,List.getElem_cons_succ] at *
   rw [show (k + 1) * 2 = k * 2 + 2 from by omega,show k * 2 + 2 + 1 = (k * 2 + 1) + 2 from by omega]
   simpa using this
structure LawAtX (base:Nat) (w:World) (g:Nat) (v:Value) (Ds:List DuoX) (m:Nat):Prop where
 blk:w.heap[g]? = some (.cells #[v] 75 (0,0))
 row:w.ownsRow base 143 2 v Ds.length (flatX Ds)
 duos:∀ D ∈ Ds,DuoXAt w D
 apart:Ds.Pairwise fun D E => ∀ k,D.own k→¬ E.own k
 free:∀ D ∈ Ds,∀ k,D.own k→k ≠ g∧v.ownBlock ≠ some k∧base ≤ k
 gb:base ≤ g
 made:∀ D ∈ Ds,D.D.r.made ≤ m
 len:Ds.length ≤ m
 mx:MaxOk w
 mb:0 < base
theorem LawAtX.sep {base:Nat} {w:World} {g:Nat} {v:Value} {Ds:List DuoX} {m:Nat} (h:LawAtX base w g v Ds m):v.ownBlock ≠ some g:=by
 intro e
 obtain ⟨c,hc⟩:=row_type h.row e
 rw [h.blk] at hc;simp at hc
theorem foot_nilX {rr k:Nat} (h:Foot rr [] k):k = rr:=by
 rcases h with (h | ⟨R,hR,_⟩) | ⟨R,hR,_⟩
 ·exact h
 ·cases hR
 ·cases hR
theorem rules_nilX {w:World} {rr:Nat} (h:w.heap[rr]? = some (.map #[] 0)):RulesAt w rr [] :=
 ⟨⟨#[],0,h,rfl,MapKept.stamped_empty 0⟩,by simp,by simp,by simp,by simp,by simp,by simp,by simp⟩
theorem docR_nil {k:Nat} (h:docR (.slice none 0 0) [] k):False:=by
 rcases h with h | ⟨d,hd,_⟩
 ·simp [Value.ownBlock] at h
 ·cases hd
theorem ref_newX {w w' : World} {c:Nat} {b:Nat} {va:Value} {B:Bank} (hD:DuoAt w' ⟨B,b,newR c,va,.slice none 0 0,[(0,.slice none 0 0)]⟩) (hb:w.heap.size ≤ b) (hB:Below w.heap.size w w') (hf:∀ k,va.ownBlock = some k→w.heap.size ≤ k) (hm:w.heap[B.rr]? = some (.map #[] 0)) (hn:¬ B.own B.rr) :
  DuoXAt w' ⟨⟨B,b,newR c,va,.slice none 0 0,[(0,.slice none 0 0)]⟩,[],[]⟩:=by
 have hl:B.rr < w.heap.size:=(Array.getElem?_eq_some_iff.1 hm).1
 refine ⟨hD,rules_nilX ((hB.block _ hl).trans hm),⟨World.ownsRow_nil _ _ _ _,by simp,by simp,by simp,by simp,by simp⟩,tied_nil,?_,fun k _ hd => docR_nil hd⟩
 rintro k (hk | hk) ho
 ·have hk:k = B.rr:=foot_nilX hk
  subst hk
  rcases ho with h | h | h | ⟨x,hx,h⟩
  ·exact hn h
  ·have h:B.rr = b:=h;omega
  ·have:=hf B.rr h;omega
  ·have hx:x ∈ [((0:Nat),Value.slice none 0 0)]:=hx
   simp at hx;subst hx;simp [Value.ownBlock] at h
 ·exact docR_nil hk
theorem LawAtX.more {base:Nat} {w w2 w3 w5:World} {g:Nat} {v v' : Value} {Ds:List DuoX} {m:Nat} {D:DuoX} (h:LawAtX base w g v Ds m) (hb:Below w.heap.size w w2) (hD:DuoXAt w2 D) (hn:∀ k,D.own k→w.heap.size ≤ k) (hm:D.D.r.made ≤ m + 1)
  (hrow:w3.ownsRow base 143 2 v' (Ds.length + 1) (flatX Ds ++ [ptrV D.D.B.sb,ptrV D.D.b])) (hg:w2.grownBy w3 v.ownBlock) (hmv:Moved w2 v v') (hs:Set1 w3 w5 g (.cells #[v'] 75 (0,0))):LawAtX base w5 g v' (Ds ++ [D]) (m + 1)∧Below base w w5:=by
 have hgl:g < w.heap.size:=(Array.getElem?_eq_some_iff.1 h.blk).1
 have hbase:base ≤ w.heap.size:=by have:=h.gb;omega
 have hvl:∀ k,v.ownBlock = some k→base ≤ k∧k < w.heap.size:=fun k hk => h.row.lt k hk
 have hown2:∀ E ∈ Ds ++ [D],∀ k,E.own k→k ≠ g∧v.ownBlock ≠ some k∧base ≤ k∧k < w2.heap.size:=by
  intro E hE k hk
  simp only [List.mem_append,List.mem_singleton] at hE
  rcases hE with hE | rfl
  ·have h1:=h.free E hE k hk
   have h2:=(h.duos E hE).own_lt hk
   have:=hb.size
   exact ⟨h1.1,h1.2.1,h1.2.2,by omega⟩
  ·have h1:=hn k hk
   have h2:=hD.own_lt hk
   exact ⟨by omega,fun e => by have:=hvl k e;omega,by omega,h2⟩
 have hsame:∀ k,k < w2.heap.size→k ≠ g→v.ownBlock ≠ some k→w5.heap[k]? = w2.heap[k]?:=fun k h1 h2 h3 => (hs.other k h2).trans (hg.block k h1 (Ne.symm h3))
 have hv' : v'.ownBlock ≠ some g:=by
  intro e
  rcases hmv g e with h1 | h1
  ·exact h.sep h1
  ·have:=hb.size;omega
 have hBel:Below base w w5:=by
  refine ⟨hs.os.trans (hg.os.trans hb.os),hs.tape.trans (hg.tape.trans hb.tape),hs.output.trans (hg.output.trans hb.output),by rw [hs.size];exact Nat.le_trans hb.size hg.size,?_⟩
  intro k hk
  have h1:k ≠ g:=by have:=h.gb;omega
  have h2:v.ownBlock ≠ some k:=fun e => by have:=(hvl k e).1;omega
  rw [hsame k (by have:=hb.size;omega) h1 h2,hb.block k (by omega)]
 refine ⟨⟨hs.here,?_,?_,?_,?_,h.gb,?_,?_,h.mx.below hBel h.mb,h.mb⟩,hBel⟩
 ·rw [List.length_append,flatX_app]
  exact rowKept hrow (fun k hk => hs.other k (fun e => hv' (e ▸ hk)))
 ·intro E hE
  have h2:DuoXAt w2 E:=by
   have hE':=hE
   simp only [List.mem_append,List.mem_singleton] at hE
   rcases hE with hE | rfl
   ·exact (h.duos E hE).below hb
   ·exact hD
  exact h2.frame (by rw [hs.size];exact hg.size) fun k hk => by have h3:=hown2 E hE k hk;exact hsame k h3.2.2.2 h3.1 h3.2.1
 ·rw [List.pairwise_append]
  refine ⟨h.apart,by simp,?_⟩
  intro E hE F hF k hk hk2
  simp at hF;subst hF
  have h1:=(h.duos E hE).own_lt hk
  have h2:=hn k hk2
  omega
 ·intro E hE k hk
  have h3:=hown2 E hE k hk
  refine ⟨h3.1,fun e => ?_,h3.2.2.1⟩
  rcases hmv k e with h1 | h1
  ·exact h3.2.1 h1
  ·omega
 ·intro E hE
  simp only [List.mem_append,List.mem_singleton] at hE
  rcases hE with hE | rfl
  ·have:=h.made E hE;omega
  ·exact hm
 ·rw [List.length_append];have:=h.len;simp;omega
theorem LawAtX.mono {base:Nat} {w:World} {g:Nat} {v:Value} {Ds:List DuoX} {m m' : Nat} (h:LawAtX base w g v Ds m) (hm:m ≤ m'):LawAtX base w g v Ds m' :=
 ⟨h.blk,h.row,h.duos,h.apart,h.free,h.gb,fun D hD => Nat.le_trans (h.made D hD) hm,Nat.le_trans h.len hm,h.mx,h.mb⟩
theorem LawAtX.below {base:Nat} {w w' : World} {g:Nat} {v:Value} {Ds:List DuoX} {m:Nat} (h:LawAtX base w g v Ds m) (hb:Below w.heap.size w w'):LawAtX base w' g v Ds m :=
 ⟨(hb.block g (Array.getElem?_eq_some_iff.1 h.blk).1).trans h.blk,rowKept h.row (fun k hk => hb.block k (h.row.lt k hk).2),fun D hD => (h.duos D hD).below hb,h.apart,h.free,h.gb,h.made,h.len,h.mx.later hb,h.mb⟩
def MadeOutX (base:Nat) (w:World) (g:Nat) (Ds:List DuoX) (m:Nat) (e:Ending) (w' : World):Prop:=e = .returned (.bool true)∧∃ v' D,LawAtX base w' g v' (Ds ++ [D]) (m + 1)∧Below base w w'
set_option maxHeartbeats 2000000 in
set_option maxRecDepth 50000 in
theorem made_yesX (base:Nat) (g:Nat) (v:Value) (Ds:List DuoX) (m c:Nat) (w:World) (h:LawAtX base w g v Ds m) (h1:1 ≤ c) (h2:c ≤ 200) (hlen:Ds.length < 4000000000000) :
  Calls Tryz.prog 40 #[ptrV g,.int .i64 (c:Int)] w fun e w' => MadeOutX base w g Ds m e w':=by
 have HL:Hid _:=h
 have hgl:g < w.heap.size:=(Array.getElem?_eq_some_iff.1 h.blk).1
 clear h
 go_enter Tryz.func40,Tryz.ntmps40
 go_wp2_with fail
 refine (storeNew_any c w h1 h2).mono ?_
 rintro e w1 ⟨B,rfl,hO,hA,hb1,hf1,hrm,hrn,hrh⟩
 have HO:Hid _:=hO
 have HA:Hid _:=hA
 have HB1:Hid _:=hb1
 have HF1:Hid _:=hf1
 have HRM:=Hid.mk' (And.intro hrm (And.intro hrn hrh))
 clear hO hA hb1 hf1 hrm hrn hrh
 go_wp2_with fail
 refine (refNew_yes c w1 h1 h2).mono ?_
 rintro e w2 ⟨b,va,hbn,rfl,hR,hb2,hf2⟩
 have hD2:=ref_newX (ref_new HO.out HA.out hbn hR hb2 hf2) hbn hb2 hf2 HRM.out.1 HRM.out.2.1
 have hb12:Below w.heap.size w w2:=HB1.out.trans (hb2.mono HB1.out.size)
 have hn:∀ k,DuoX.own ⟨⟨B,b,newR c,va,.slice none 0 0,[(0,.slice none 0 0)]⟩,[],[]⟩ k→w.heap.size ≤ k:=by
  intro k hk
  have hs1:=HB1.out.size
  rcases hk with (h | h | h | ⟨x,hx,h⟩) | (h | h)
  ·exact HF1.out k h
  ·have h:k = b:=h;omega
  ·have:=hf2 k h;omega
  ·have hx:x ∈ [((0:Nat),Value.slice none 0 0)]:=hx
   simp at hx;subst hx;simp [Value.ownBlock] at h
  ·have h:k = B.rr:=foot_nilX h
   rw [h];exact HRM.out.2.2
  ·exact (docR_nil h).elim
 have hL2:=HL.out.below hb12
 have hform:∃ ao nn cap,v = .slice ao nn cap:=by
  rcases hL2.row.2 with ⟨h,_⟩ | ⟨g',cap,cur,h,_⟩
  ·exact ⟨_,_,_,h⟩
  ·exact ⟨_,_,_,h⟩
 obtain ⟨ao,nn,cap,rfl⟩:=hform
 have cg:w2.cell? ⟨g,0,none⟩ = some (.slice ao nn cap):=(blk_cell hL2.blk 0).trans rfl
 have HROW:Hid (w2.ownsRow base 143 2 (.slice ao nn cap) Ds.length (flatX Ds)):=hL2.row
 have HBLK:Hid _:=hL2.blk
 have HD2:Hid (DuoXAt w2 ⟨⟨B,b,newR c,va,.slice none 0 0,[(0,.slice none 0 0)]⟩,[],[]⟩):=hD2
 have HN:Hid _:=hn
 have HB12:Hid _:=hb12
 have hg2:g < w2.heap.size:=Nat.lt_of_lt_of_le hgl hb12.size
 have hbase2:base ≤ w2.heap.size:=by have:=HL.out.gb;omega
 have Hsep:Hid _:=hL2.sep
 clear hD2 hn hb12 hL2 hR hb2 hf2 hbn
 go_wp2_with (first | (go_at_call 68;refine (num_any _ _).mono ?_;rintro e w1 ⟨rfl,rfl⟩) | (at_builtin;refine wp_app_at 73 143 _ 2 16 Tryz.infoPair Tryz.underlying73 rfl (by decide) rfl (.tmp 36) (.tmp 40) rfl (base:=base) HROW.out [ptrV B.sb,ptrV b] rfl (by intro u hu;simp at hu;rcases hu with rfl | rfl <;> rfl) ⟨rfl,rfl,rfl,rfl⟩ rfl rfl (by unfold maxLen;omega) (by omega) hbase2 ?_;intro v' w3 hrow3 hg3 hmv3;have hblk3:=(hg3.block g hg2 (Ne.symm Hsep.out)).trans HBLK.out;have cg3:=(blk_cell hblk3 0).trans rfl;have cf3:=blk_free hblk3 0;obtain ⟨g',cap',rfl⟩:=row_some hrow3;have HROW3:=Hid.mk' hrow3;have HG3:=Hid.mk' hg3;have HMV3:=Hid.mk' hmv3;have HBLK3:=Hid.mk' hblk3;clear hrow3 hg3 hmv3 hblk3))
 go_ret
 have hs5:Set1 w3 (w3.setCell ⟨g,0,none⟩ (.slice (some ⟨g',0,none⟩) (Ds.length + 1) cap')) g (.cells #[.slice (some ⟨g',0,none⟩) (Ds.length + 1) cap'] 75 (0,0)):=setCell_set1 HBLK3.out _
 obtain ⟨hL5,hb5⟩:=HL.out.more HB12.out HD2.out HN.out (by show 1 ≤ m + 1;omega) HROW3.out HG3.out HMV3.out hs5
 exact ⟨rfl,_,_,hL5,hb5⟩

open Go.RowKit
def LawOutX (base:Nat) (w:World) (g:Nat) (m:Nat) (e:Ending) (w' : World):Prop:=e = .returned (.bool true)∧∃ v' Ds',LawAtX base w' g v' Ds' (m + 1)∧Ds' ≠ []∧Below base w w'
theorem LawAtX.turn {base:Nat} {w w' : World} {g:Nat} {v:Value} {Ds:List DuoX} {m k:Nat} {D' : DuoX} (h:LawAtX base w g v Ds m) (hk:k < Ds.length) (hD:DuoXAt w' D') (hS:DuoXStep w Ds[k] w' D'):LawAtX base w' g v (Ds.set k D') (m + 1)∧Below base w w':=by
 have hgl:g < w.heap.size:=(Array.getElem?_eq_some_iff.1 h.blk).1
 have hmem:Ds[k] ∈ Ds:=List.getElem_mem hk
 have hfr:=h.free _ hmem
 have hbase:base ≤ w.heap.size:=by have:=h.gb;omega
 have hoth:∀ j (hj:j < Ds.length),j ≠ k→∀ x,Ds[j].own x→¬ Ds[k].own x:=by
  intro j hj hne x h1 h2
  rcases Nat.lt_or_gt_of_ne hne with hlt | hgt
  ·exact (List.pairwise_iff_getElem.1 h.apart j k hj hk hlt) x h1 h2
  ·exact (List.pairwise_iff_getElem.1 h.apart k j hk hj hgt) x h2 h1
 have hnew:∀ x,D'.own x→x ≠ g∧v.ownBlock ≠ some x∧base ≤ x:=by
  intro x hx
  rcases hS.own x hx with h1 | h1
  ·exact hfr x h1
  ·exact ⟨by omega,fun e => by have:=(h.row.lt x e).2;omega,by omega⟩
 have hcross:∀ j (hj:j < Ds.length),j ≠ k→∀ x,Ds[j].own x→¬ D'.own x:=by
  intro j hj hne x h1 h2
  rcases hS.own x h2 with h3 | h3
  ·exact hoth j hj hne x h1 h3
  ·have:=(h.duos _ (List.getElem_mem hj)).own_lt h1;omega
 have hflat:flatX (Ds.set k D') = flatX Ds:=by
  unfold flatX
  have:(Ds.set k D').map (fun D:DuoX => [ptrV D.D.B.sb,ptrV D.D.b]) = Ds.map (fun D:DuoX => [ptrV D.D.B.sb,ptrV D.D.b]):=by
   rw [List.map_set]
   apply List.ext_getElem?
   intro i
   by_cases e:k = i
   ·subst e
    rw [List.getElem?_set_self (by simpa using hk),List.getElem?_map,List.getElem?_eq_getElem hk]
    simp [hS.sb,hS.b]
   ·rw [List.getElem?_set_ne e]
  rw [List.flatMap_def,List.flatMap_def,this]
 have hBel:Below base w w':=⟨hS.os,hS.tape,hS.output,hS.size,fun x hx => hS.blk x (by omega) (fun ho => by have:=(hfr x ho).2.2;omega)⟩
 refine ⟨⟨(hS.blk g hgl (fun ho => (hfr g ho).1 rfl)).trans h.blk,?_,?_,?_,?_,h.gb,?_,?_,h.mx.below hBel h.mb,h.mb⟩,hBel⟩
 ·rw [hflat,List.length_set]
  exact rowKept h.row (fun x hx => hS.blk x (h.row.lt x hx).2 (fun ho => (hfr x ho).2.1 hx))
 ·intro E hE
  obtain ⟨j,hj,rfl⟩:=List.getElem_of_mem hE
  rw [List.length_set] at hj
  by_cases e:k = j
  ·subst e;rw [List.getElem_set_self];exact hD
  ·rw [List.getElem_set_ne e]
   exact (h.duos _ (List.getElem_mem hj)).frame hS.size fun x hx => hS.blk x ((h.duos _ (List.getElem_mem hj)).own_lt hx) (hoth j hj (Ne.symm e) x hx)
 ·rw [List.pairwise_iff_getElem]
  intro i j hi hj hij x h1 h2
  rw [List.length_set] at hi hj
  by_cases e1:k = i
  ·subst e1
   rw [List.getElem_set_self] at h1
   rw [List.getElem_set_ne (by omega)] at h2
   exact hcross j hj (by omega) x h2 h1
  ·rw [List.getElem_set_ne e1] at h1
   by_cases e2:k = j
   ·subst e2
    rw [List.getElem_set_self] at h2
    exact hcross i hi (Ne.symm e1) x h1 h2
   ·rw [List.getElem_set_ne e2] at h2
    exact (List.pairwise_iff_getElem.1 h.apart i j hi hj hij) x h1 h2
 ·intro E hE x hx
  obtain ⟨j,hj,rfl⟩:=List.getElem_of_mem hE
  rw [List.length_set] at hj
  by_cases e:k = j
  ·subst e;rw [List.getElem_set_self] at hx;exact hnew x hx
  ·rw [List.getElem_set_ne e] at hx;exact h.free _ (List.getElem_mem hj) x hx
 ·intro E hE
  obtain ⟨j,hj,rfl⟩:=List.getElem_of_mem hE
  rw [List.length_set] at hj
  by_cases e:k = j
  ·subst e;rw [List.getElem_set_self];have:=hS.made;have:=h.made _ hmem;omega
  ·rw [List.getElem_set_ne e];have:=h.made _ (List.getElem_mem hj);omega
 ·rw [List.length_set];have:=h.len;omega
def AsksOkX (K Wn N M:Int) (S T:Str) (L:Value) (qs:List Str):Prop:=6 < K→K ≤ 11→∀ base D w,DuoXAt w D→D.D.r.made < 4611686018427387904→MaxOk w→base ≤ w.heap.size→(∀ k,D.own k→base ≤ k)→(∀ W,Below base w W→NamesAt W L qs)→Calls Tryz.prog 70 #[pairV D.D,opV K Wn N M S T L] w fun e w' => EditX w D e w'
set_option maxHeartbeats 4000000 in
set_option maxRecDepth 50000 in
theorem step_goX (base:Nat) (g:Nat) (v:Value) (Ds:List DuoX) (m:Nat) (K Wn N M:Int) (S T:Str) (L:Value) (w:World) (h:LawAtX base w g v Ds m) (hne:Ds ≠ []) (hm:m < 4000000000000) (hW:InI Wn) (hS:S.length + 1 < maxLen) (hT:T.length + 1 < maxLen) (h1:2 ≤ K) (h2:K ≤ 11) (qs:List Str) (hnm:∀ W,Below base w W→NamesAt W L qs) (hask:AsksOkX K Wn N M S T L qs) :
  Calls Tryz.prog 42 #[ptrV g,opV K Wn N M S T L] w fun e w' => LawOutX base w g m e w':=by
 have hpos:0 < Ds.length:=List.length_pos_iff.2 hne
 have hlen:=h.len
 have hpk:=pickN_lt Wn hpos
 obtain ⟨g',cap,rfl,hrowI⟩ : ∃ g' cap,v = .slice (some ⟨g',0,none⟩) Ds.length cap∧(∀ k (hk:k < Ds.length),w.cell? ⟨g',k * 2,none⟩ = some (ptrV Ds[k].D.B.sb)∧w.cell? ⟨g',k * 2 + 1,none⟩ = some (ptrV Ds[k].D.b)):=by
  rcases row_cells h.row with ⟨h3,h4⟩ | ⟨g',cap,h3,h4,_,h5,h6,h7⟩
  ·omega
  ·exact ⟨g',cap,h3,fun k hk => ⟨h7 _ _ (flatX_get Ds k hk).1,h7 _ _ (flatX_get Ds k hk).2⟩⟩
 have hcap:Ds.length ≤ cap∧cap ≤ maxLen∧g' < w.heap.size:=by
  rcases row_cells h.row with ⟨h3,h4⟩ | ⟨g2,cap2,h3,h4,_,h5,h6,h7⟩
  ·omega
  ·simp only [Value.slice.injEq,Option.some.injEq,Addr.mk.injEq] at h3
   obtain ⟨⟨rfl,_⟩,_,rfl⟩:=h3
   exact ⟨h5,h6,h4⟩
 obtain ⟨cp0,cp1⟩:=hrowI _ hpk
 have cg:w.cell? ⟨g,0,none⟩ = some (.slice (some ⟨g',0,none⟩) Ds.length cap):=(blk_cell h.blk 0).trans rfl
 have HNM0:Hid _:=hnm
 clear hnm
 have CP:Hid (∀ W,Calls Tryz.prog 41 #[.int .i64 Wn,.int .i64 (Ds.length:Int)] W fun e w' => e = .returned (.int .i64 (pickN Wn Ds.length:Int))∧w' = W):=fun W => pick_any Wn Ds.length W hW hpos (by omega)
 have HL:Hid _:=h
 have hgl:g < w.heap.size:=(Array.getElem?_eq_some_iff.1 h.blk).1
 have i1:¬ K = 1:=by omega
 have i2:¬ K < 2:=by omega
 have i3:¬ 11 < K:=by omega
 have i4:¬ (Ds.length:Int) = 0:=by omega
 have hi:(pickN Wn Ds.length:Int) < (Ds.length:Int):=by omega
 clear h hrowI
 generalize hkk:pickN Wn Ds.length = kk at *
 go_enter Tryz.func42,Tryz.ntmps42
 go_wp2_with fail
 go_cut [5] (fun pp wc => pp = ptrV (w.heap.size + 1)∧Below (w.heap.size + 1) (w.alloc (.cells #[.int .i64 K,.int .i64 Wn,.int .i64 N,.int .i64 M,SV S,SV T,L] 78)) wc∧wc.heap[w.heap.size + 1]? = some (.cells #[ptrV Ds[kk].D.B.sb,ptrV Ds[kk].D.b] 143 (0,0)))
 case first =>
  go_region_held3 (fun W:World => W.cell? ⟨g,0,none⟩ = some (.slice (some ⟨g',0,none⟩) Ds.length cap)∧W.cell? ⟨w.heap.size,1,none⟩ = some (.int .i64 Wn)∧W.cell? ⟨g',kk * 2,none⟩ = some (ptrV Ds[kk].D.B.sb)∧W.cell? ⟨g',kk * 2 + 1,none⟩ = some (ptrV Ds[kk].D.b)) (go_keep) (first | (go_at_call 41;refine (CP.out _).mono ?_;rintro e w2 ⟨rfl,rfl⟩))
  all_goals go_wp2_with fail
  all_goals go_meet
  all_goals
   refine ⟨rfl,⟨rfl,rfl,rfl,by simp,fun k hk => ?_⟩,?_⟩
   ·exact Below.heap_alloc (w.alloc _) _ _ (by simp;omega)
   ·have:=heap_alloc_new (w.alloc (.cells #[.int .i64 K,.int .i64 Wn,.int .i64 N,.int .i64 M,SV S,SV T,L] 78)) (.cells #[ptrV Ds[kk].D.B.sb,ptrV Ds[kk].D.b] 143)
    rw [show (w.alloc (.cells #[.int .i64 K,.int .i64 Wn,.int .i64 N,.int .i64 M,SV S,SV T,L] 78)).heap.size = w.heap.size + 1 from by simp] at this
    exact this
 case rest =>
  obtain ⟨rfl,hbc,hpc⟩:=hcut
  have hoc:wc.heap[w.heap.size]? = some (.cells #[.int .i64 K,.int .i64 Wn,.int .i64 N,.int .i64 M,SV S,SV T,L] 78 (0,0)):=(hbc.block _ (by omega)).trans (heap_alloc_new w _)
  have hbw:Below w.heap.size w wc:=((Below.refl w.heap.size w).alloc (Nat.le_refl _) _).trans (hbc.mono (by omega))
  have hLc:=HL.out.below hbw
  have hDk:=hLc.duos _ (List.getElem_mem hpk)
  have hmk:Ds[kk].D.r.made < 4611686018427387904:=by have:=hLc.made _ (List.getElem_mem hpk);omega
  have p0:wc.cell? ⟨w.heap.size + 1,0,none⟩ = some (ptrV Ds[kk].D.B.sb):=(blk_cell hpc 0).trans rfl
  have p1:wc.cell? ⟨w.heap.size + 1,1,none⟩ = some (ptrV Ds[kk].D.b):=(blk_cell hpc 1).trans rfl
  have o0:wc.cell? ⟨w.heap.size,0,none⟩ = some (.int .i64 K):=(blk_cell hoc 0).trans rfl
  have o1:wc.cell? ⟨w.heap.size,1,none⟩ = some (.int .i64 Wn):=(blk_cell hoc 1).trans rfl
  have o2:wc.cell? ⟨w.heap.size,2,none⟩ = some (.int .i64 N):=(blk_cell hoc 2).trans rfl
  have o3:wc.cell? ⟨w.heap.size,3,none⟩ = some (.int .i64 M):=(blk_cell hoc 3).trans rfl
  have o4:wc.cell? ⟨w.heap.size,4,none⟩ = some (SV S):=(blk_cell hoc 4).trans rfl
  have o5:wc.cell? ⟨w.heap.size,5,none⟩ = some (SV T):=(blk_cell hoc 5).trans rfl
  have o6:wc.cell? ⟨w.heap.size,6,none⟩ = some L:=(blk_cell hoc 6).trans rfl
  have HLc:Hid _:=hLc
  have HDk:Hid _:=hDk
  have HBW:Hid _:=hbw
  have HASK:Hid _:=hask
  have HNM:Hid (∀ W,Below base wc W→NamesAt W L qs):=fun W hW => HNM0.out W ((Below.mono hbw (by have:=HL.out.gb;omega)).trans hW)
  have HFR:Hid (∀ k,Ds[kk].own k→base ≤ k):=fun k hk => (HL.out.free _ (List.getElem_mem hpk) k hk).2.2
  have hbz:base ≤ wc.heap.size:=by have:=HL.out.gb;have:=hbw.size;omega
  clear hLc hDk hbw hbc hpc hoc cg cp0 cp1 hask
  have fin:Hid (∀ w3 D',DuoXAt w3 D'→DuoXStep wc Ds[kk] w3 D'→LawOutX base w g m (.returned (.bool true)) w3):=by
   intro w3 D' hD' hS'
   obtain ⟨h3,h4⟩:=HLc.out.turn hpk hD' hS'
   refine ⟨rfl,_,_,h3,?_,(Below.mono HBW.out (by have:=HL.out.gb;omega)).trans h4⟩
   intro e;have:=congrArg List.length e;rw [List.length_set] at this;simp at this;exact hne this
  by_cases h6:K ≤ 6
  ·have C:Hid (Calls Tryz.prog 69 #[pairV Ds[kk].D,opV K Wn N M S T L] wc fun e w' => EditX wc Ds[kk] e w'):=(edits_any Ds[kk].D K Wn N M S T L wc HDk.out.duo hmk hS hT).mono fun e w' h => EditX.of HDk.out h
   go_wp2_with fail
   refine C.out.mono ?_
   rintro e w3 ⟨rfl,D',hD',hS'⟩
   have R:=Hid.mk' (fin.out w3 D' hD' hS')
   clear hD' hS' C
   go_wp2
   go_ret
   exact R.out
  ·have C:Hid (Calls Tryz.prog 70 #[pairV Ds[kk].D,opV K Wn N M S T L] wc fun e w' => EditX wc Ds[kk] e w'):=HASK.out (by omega) h2 base Ds[kk] wc HDk.out hmk HLc.out.mx hbz HFR.out HNM.out
   go_wp2_with fail
   refine C.out.mono ?_
   rintro e w3 ⟨rfl,D',hD',hS'⟩
   have R:=Hid.mk' (fin.out w3 D' hD' hS')
   clear hD' hS' C
   go_wp2
   go_ret
   exact R.out
set_option maxHeartbeats 2000000 in
set_option maxRecDepth 50000 in
theorem step_madeX (base:Nat) (g:Nat) (v:Value) (Ds:List DuoX) (m:Nat) (Wn N M:Int) (S T:Str) (L:Value) (w:World) (h:LawAtX base w g v Ds m) (hne:Ds ≠ []) (hm:m < 4000000000000) :
  Calls Tryz.prog 42 #[ptrV g,opV 1 Wn N M S T L] w fun e w' => LawOutX base w g m e w':=by
 obtain ⟨w1,hw1⟩ : ∃ w1:World,w1 = w.alloc (.cells #[.int .i64 1,.int .i64 Wn,.int .i64 N,.int .i64 M,SV S,SV T,L] 78):=⟨_,rfl⟩
 have hb1:Below w.heap.size w w1:=by rw [hw1];exact (Below.refl _ _).alloc (Nat.le_refl _) _
 have hL1:=h.below hb1
 have hgb:=h.gb
 have hgl:g < w.heap.size:=(Array.getElem?_eq_some_iff.1 h.blk).1
 by_cases hN:N < 1∨200 < N
 ·have C:Hid (Calls Tryz.prog 40 #[ptrV g,.int .i64 N] w1 fun e w' => e = .returned (.bool true)∧w' = w1):=made_no g N w1 hN
  have R:Hid (LawOutX base w g m (.returned (.bool true)) w1):=⟨rfl,v,Ds,hL1.mono (Nat.le_succ _),hne,hb1.mono (by omega)⟩
  have HW:Hid _:=hw1
  clear h hb1 hL1 hN hw1
  go_enter Tryz.func42,Tryz.ntmps42
  go_wp2_with fail
  rw [← HW.out]
  refine C.out.mono ?_
  rintro e w2 ⟨rfl,rfl⟩
  clear HW C
  go_wp2
  go_ret
  exact R.out
 ·obtain ⟨c,rfl⟩ : ∃ c:Nat,N = (c:Int):=⟨N.toNat,by omega⟩
  have C:Hid (Calls Tryz.prog 40 #[ptrV g,.int .i64 (c:Int)] w1 fun e w' => MadeOutX base w1 g Ds m e w'):=made_yesX base g v Ds m c w1 hL1 (by omega) (by omega) (by have:=h.len;omega)
  have HB1:Hid (Below base w w1):=hb1.mono (by omega)
  have HW:Hid _:=hw1
  clear h hb1 hL1 hN hw1
  go_enter Tryz.func42,Tryz.ntmps42
  go_wp2_with fail
  rw [← HW.out]
  refine C.out.mono ?_
  rintro e w2 ⟨rfl,v',D,hL2,hb2⟩
  have R:Hid (LawOutX base w g m (.returned (.bool true)) w2):=⟨rfl,v',_,hL2,by simp,HB1.out.trans hb2⟩
  clear hL2 hb2 C HW
  go_wp2
  go_ret
  exact R.out
set_option maxHeartbeats 2000000 in
set_option maxRecDepth 50000 in
theorem step_noneX (base:Nat) (g:Nat) (v:Value) (Ds:List DuoX) (m:Nat) (K Wn N M:Int) (S T:Str) (L:Value) (w:World) (h:LawAtX base w g v Ds m) (hne:Ds ≠ []) (h1:K ≠ 1) (h2:K < 2∨11 < K) :
  Calls Tryz.prog 42 #[ptrV g,opV K Wn N M S T L] w fun e w' => LawOutX base w g m e w':=by
 have hb1:Below w.heap.size w (w.alloc (.cells #[.int .i64 K,.int .i64 Wn,.int .i64 N,.int .i64 M,SV S,SV T,L] 78)):=(Below.refl _ _).alloc (Nat.le_refl _) _
 have hgb:=h.gb
 have hgl:g < w.heap.size:=(Array.getElem?_eq_some_iff.1 h.blk).1
 have R:Hid (LawOutX base w g m (.returned (.bool true)) (w.alloc (.cells #[.int .i64 K,.int .i64 Wn,.int .i64 N,.int .i64 M,SV S,SV T,L] 78))):=⟨rfl,v,Ds,(h.below hb1).mono (Nat.le_succ _),hne,hb1.mono (by omega)⟩
 have hpos:0 < Ds.length:=List.length_pos_iff.2 hne
 have hlen:=h.len
 obtain ⟨g',cap,rfl⟩ : ∃ g' cap,v = .slice (some ⟨g',0,none⟩) Ds.length cap:=by
  rcases row_cells h.row with ⟨h3,h4⟩ | ⟨g',cap,h3,h4,_,h5,h6,h7⟩
  ·omega
  ·exact ⟨g',cap,h3⟩
 have cg:w.cell? ⟨g,0,none⟩ = some (.slice (some ⟨g',0,none⟩) Ds.length cap):=(blk_cell h.blk 0).trans rfl
 have i4:¬ (Ds.length:Int) = 0:=by omega
 clear h hb1
 by_cases h3:K < 2
 ·clear h2
  go_enter Tryz.func42,Tryz.ntmps42
  go_wp2
  go_ret
  exact R.out
 ·have h4:11 < K:=by omega
  clear h2
  go_enter Tryz.func42,Tryz.ntmps42
  go_wp2
  go_ret
  exact R.out
theorem step_anyX (base:Nat) (g:Nat) (v:Value) (Ds:List DuoX) (m:Nat) (K Wn N M:Int) (S T:Str) (L:Value) (w:World) (h:LawAtX base w g v Ds m) (hne:Ds ≠ []) (hm:m < 4000000000000) (hW:InI Wn) (hS:S.length + 1 < maxLen) (hT:T.length + 1 < maxLen) (qs:List Str) (hnm:∀ W,Below base w W→NamesAt W L qs) (hask:AsksOkX K Wn N M S T L qs) :
  Calls Tryz.prog 42 #[ptrV g,opV K Wn N M S T L] w fun e w' => LawOutX base w g m e w':=by
 by_cases h1:K = 1
 ·subst h1;exact step_madeX base g v Ds m Wn N M S T L w h hne hm
 ·by_cases h2:K < 2∨11 < K
  ·exact step_noneX base g v Ds m K Wn N M S T L w h hne h1 h2
  ·exact step_goX base g v Ds m K Wn N M S T L w h hne hm hW hS hT (by omega) (by omega) qs hnm hask

open Go.RowKit
theorem law_startX {w w1:World} (hm:MaxOk w) (hb:Below w.heap.size w w1) (h:w1.heap[w.heap.size]? = some (.cells #[.slice none 0 0] 75 (0,0))):LawAtX w.heap.size w1 w.heap.size (.slice none 0 0) [] 0 :=
 ⟨h,World.ownsRow_nil _ _ _ _,by simp,by simp,by simp,Nat.le_refl _,by simp,by simp,hm.later hb,hm.lt⟩
theorem LawAtX.slice {base:Nat} {w:World} {g:Nat} {v:Value} {Ds:List DuoX} {m:Nat} (h:LawAtX base w g v Ds m) (hne:Ds ≠ []):∃ g' cap,v = .slice (some ⟨g',0,none⟩) Ds.length cap:=by
 have hpos:0 < Ds.length:=List.length_pos_iff.2 hne
 rcases row_cells h.row with ⟨h3,h4⟩ | ⟨g',cap,h3,h4,_,h5,h6,h7⟩
 ·omega
 ·exact ⟨g',cap,h3⟩
set_option maxHeartbeats 4000000 in
set_option maxRecDepth 50000 in
theorem plays_someX (a:Addr) (len cap:Nat) (O:Nat→OpD) (c hi:Int) (w:World) (hmx:MaxOk w) (hO:∀ i,i < len→∀ j v,(O i).cells[j]? = some v→w.cell? ((a.add (i * 7)).add j) = some v) (hbl:0 < len→a.block < w.heap.size)
  (hok:∀ i,i < len→(O i).Ok) (hlen:len ≤ 2000000000000) (hc:InI c) (Q:Nat→List Str) (hnm:∀ i,i < len→NamesAt w (O i).L (Q i)) (hask:∀ i,i < len→(O i).K ≤ hi→AsksOkX (O i).K (O i).W (O i).N (O i).M (O i).S (O i).T (O i).L (Q i)) :
  Calls Tryz.prog 13 #[.slice (some a) len cap,.int .i64 c,.int .i64 hi] w fun e w' => e = .returned (.bool true)∧Below w.heap.size w w':=by
 have hpk:=pickN_lt c (n:=200) (by omega)
 have CP:Hid (∀ W,Calls Tryz.prog 41 #[.int .i64 c,.int .i64 200] W fun e w' => e = .returned (.int .i64 (pickN c 200:Int))∧w' = W):=fun W => pick_any c 200 W hc (by omega) (by omega)
 have HO:Hid _:=hO
 have HOK:Hid _:=hok
 have HASK:Hid _:=hask
 have HNM:Hid _:=hnm
 clear hO hok hask hnm
 obtain ⟨w1,hw1⟩ : ∃ w1:World,w1 = w.alloc (.cells #[.slice none 0 0] 75):=⟨_,rfl⟩
 have hL1:LawAtX w.heap.size w1 w.heap.size (.slice none 0 0) [] 0:=law_startX hmx (by rw [hw1];exact (Below.refl _ _).alloc (Nat.le_refl _) _) (by rw [hw1];exact heap_alloc_new _ _)
 have HB1:Hid (Below w.heap.size w w1):=by rw [Hid,hw1];exact (Below.refl _ _).alloc (Nat.le_refl _) _
 have CM:Hid (Calls Tryz.prog 40 #[ptrV w.heap.size,.int .i64 ((pickN c 200 + 1:Nat):Int)] w1 fun e w' => MadeOutX w.heap.size w1 w.heap.size [] 0 e w'):=made_yesX w.heap.size w.heap.size (.slice none 0 0) [] 0 (pickN c 200 + 1) w1 hL1 (by omega) (by omega) (by simp)
 have HW1:Hid _:=hw1
 clear hL1 hw1
 generalize pickN c 200 = pk at *
 go_enter Tryz.func13,Tryz.ntmps13
 go_wp2_with fail
 refine (CP.out _).mono ?_
 rintro e w2 ⟨rfl,rfl⟩
 go_wp2_with fail
 rw [← HW1.out,show (1 + (pk:Int)) = ((pk + 1:Nat):Int) from by omega]
 refine CM.out.mono ?_
 rintro e w3 ⟨rfl,v',D,hL3,hb3⟩
 rw [List.nil_append] at hL3
 obtain ⟨g3,cap3,rfl⟩:=hL3.slice (by simp)
 have cg3:w3.cell? ⟨w.heap.size,0,none⟩ = some (.slice (some ⟨g3,0,none⟩) 1 cap3):=(blk_cell hL3.blk 0).trans rfl
 have HL3:Hid _:=hL3
 have HB3:Hid (Below w.heap.size w w3):=HB1.out.trans hb3
 clear hL3 hb3 CM HW1 HB1 CP
 go_wp2
 go_loopw [9] (fun i wr => ∃ (k:Nat) (v:Value) (Ds:List DuoX),k ≤ len∧i = .int .i64 k∧LawAtX w.heap.size wr w.heap.size v Ds (k + 1)∧Ds ≠ []∧Below w.heap.size w wr) (fun i _ => len - (intOf i).toNat)
 case atStart => exact ⟨0,_,_,Nat.zero_le _,rfl,HL3.out,by simp,HB3.out⟩
 case round =>
  obtain ⟨k,v,Ds,hk,rfl,hL,hne,hb⟩:=hrel
  by_cases hlt:k < len
  ·have hidx:(k:Int) < (len:Int):=by omega
   have hcell:=HO.out k hlt
   have hw:=fun j v hv => (hb.cell (p:=(a.add (k * 7)).add j) (by rw [add_block,add_block];exact hbl (by omega))).trans (hcell j v hv)
   have HWc:Hid (∀ j v,(O k).cells[j]? = some v→wr.cell? ((a.add (k * 7)).add j) = some v):=hw
   have hc0:wr.cell? (a.add (k * 7)) = some (.int .i64 (O k).K):=by have:=hw 0 _ rfl;simpa [Addr.add] using this
   have hOk:=HOK.out k hlt
   have hsz:(Tryz.prog.info? 78).map (·.size) = some (O k).cells.length:=Tryz.sizeOp
   have HSZ:Hid _:=hsz
   by_cases hK:(O k).K ≤ hi
   ·have hAs:=HASK.out k hlt hK
    have C:Hid (Calls Tryz.prog 42 #[ptrV w.heap.size,.agg (O k).cells.toArray] wr fun e w' => LawOutX w.heap.size wr w.heap.size (k + 1) e w'):=step_anyX w.heap.size w.heap.size v Ds (k + 1) (O k).K (O k).W (O k).N (O k).M (O k).S (O k).T (O k).L wr hL hne (by omega) hOk.w hOk.s hOk.t (Q k) (fun W hW => names_below (HNM.out k hlt) (hb.trans hW) (Nat.le_refl _)) hAs
    have HB:Hid _:=hb
    clear hcell hw hAs hL hb hOk hsz cg3 HL3
    go_wp2_with (first | (refine wpList_load_cells rfl 78 (.tmp 44) rfl (a.add (k * 7)) rfl (O k).cells _ HWc.out Tryz.underlying78 rfl HSZ.out ?_;generalize hcs:(O k).cells.toArray = CS at *) | (go_at_call 42;refine C.out.mono ?_;rintro e w5 ⟨rfl,v5,D5,hL5,hne5,hb5⟩;have HL5:=Hid.mk' hL5;have HB5:=Hid.mk' hb5;clear hL5 hb5))
    go_round
    case rel => exact ⟨k + 1,v5,D5,by omega,by go_num,HL5.out,hne5,HB.out.trans HB5.out⟩
    case measure => simp [intOf];omega
   ·have HL:Hid _:=hL
    have HB:Hid _:=hb
    clear hcell hw hL hb hOk hsz cg3 HL3
    go_wp2
    go_round
    case rel => exact ⟨k + 1,v,Ds,by omega,by go_num,HL.out.mono (by omega),hne,HB.out⟩
    case measure => simp [intOf];omega
  ·have HB:Hid _:=hb
   clear hL hb cg3 HL3
   go_wp2
   go_ret
   exact ⟨rfl,HB.out⟩
set_option maxHeartbeats 1000000 in
theorem all_law {v0:Value} {c:Int} {w:World} (h:Calls Tryz.prog 13 #[v0,.int .i64 c,.int .i64 11] w fun e w' => e = .returned (.bool true)∧Below w.heap.size w w') :
  Calls Tryz.prog 12 #[v0,.int .i64 c] w fun e w' => e = .returned (.bool true)∧Below w.heap.size w w':=by
 have C:Hid _:=h
 clear h
 go_enter Tryz.func12,Tryz.ntmps12
 go_wp2_with fail
 refine Calls.mono (show Calls _ _ _ _ _ from C.out) ?_
 rintro e w1 ⟨rfl,hb⟩
 have HB:Hid _:=hb
 clear hb C
 go_wp2
 go_ret
 exact ⟨rfl,HB.out⟩
end Go.Proofs.YtdcbgfhkfmohiaaGreatDoor
