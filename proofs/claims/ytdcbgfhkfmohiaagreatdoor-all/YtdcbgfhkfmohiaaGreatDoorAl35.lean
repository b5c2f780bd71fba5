/- What a question is of: targetOf, targetsOf. -/
import Derived.Test.YtdcbgfhkfmohiaaGreatDoorAl06
import Derived.Test.YtdcbgfhkfmohiaaGreatDoorAl10
import Derived.Test.YtdcbgfhkfmohiaaGreatDoorAl11
import Derived.Test.YtdcbgfhkfmohiaaGreatDoorAl31
import Derived.Test.YtdcbgfhkfmohiaaGreatDoorAl33
namespace Go.Proofs.YtdcbgfhkfmohiaaGreatDoor
open Go.RowKit
theorem cell_blk {w w' : World} {b o:Nat} (h:w'.heap[b]? = w.heap[b]?):w'.cell? ⟨b,o,none⟩ = w.cell? ⟨b,o,none⟩:=by simp only [World.cell?,h]
def KeptFrom (base:Nat) (w w' : World):Prop:=w.heap.size ≤ w'.heap.size∧∀ k,base ≤ k→k < w.heap.size→w'.heap[k]? = w.heap[k]?
theorem KeptFrom.of_below {base:Nat} {w w' : World} (h:Below w.heap.size w w'):KeptFrom base w w':=⟨h.size,fun k _ hk => h.block k hk⟩
theorem KeptFrom.setCell {base:Nat} {w:World} {b i:Nat} (hb:b < base) (v:Value):KeptFrom base w (w.setCell ⟨b,i,none⟩ v):=by
 have h:=setCell_frame w b i v
 exact ⟨by rw [h.2.2.2.1];exact Nat.le_refl _,fun k hk _ => h.2.2.2.2 k (by omega)⟩
theorem NamesO.frame {base:Nat} {w w' : World} {v:Value} {o:Option (List Str)} (h:NamesO base w v o) (hs:w.heap.size ≤ w'.heap.size) (hk:∀ j,v.ownBlock = some j→w'.heap[j]? = w.heap[j]?):NamesO base w' v o:=by
 cases o with
 | none => exact h
 | some xs =>
  obtain ⟨g,n,c,rfl,h2,h3,h4⟩:=h
  refine ⟨g,n,c,rfl,h2,Nat.lt_of_lt_of_le h3 hs,?_⟩
  obtain ⟨ao,cap,e1,h5,h6,h7⟩:=h4
  refine ⟨ao,cap,e1,h5,h6,fun k hk2 => ?_⟩
  obtain ⟨g',o',e2,h8,h9⟩:=h7 k hk2
  simp only [Value.slice.injEq] at e1
  have e3:=e1.1.trans e2
  simp only [Option.some.injEq,Addr.mk.injEq] at e3
  exact ⟨g',o',e2,Nat.lt_of_lt_of_le h8 hs,(cell_blk (hk g' (by simp [Value.ownBlock,e3.1]))).trans h9⟩
theorem NamesO.lt {base:Nat} {w:World} {v:Value} {o:Option (List Str)} (h:NamesO base w v o) {j:Nat} (hj:v.ownBlock = some j):base ≤ j∧j < w.heap.size:=by
 cases o with
 | none => rw [show v = .slice none 0 0 from h] at hj;simp [Value.ownBlock] at hj
 | some xs =>
  obtain ⟨g,n,c,rfl,h2,h3,h4⟩:=h
  simp [Value.ownBlock] at hj
  omega
theorem NamesO.kept {base base' : Nat} {w w' : World} {v:Value} {o:Option (List Str)} (h:NamesO base w v o) (hb:base' ≤ base) (hk:KeptFrom base' w w'):NamesO base w' v o :=
 h.frame hk.1 fun j hj => hk.2 j (Nat.le_trans hb (h.lt hj).1) (h.lt hj).2
def TargetRet (w:World) (o:Option (List Str)) (e:Ending) (w' : World):Prop:=Below w.heap.size w w'∧∃ ao n c,e = .returned (.agg #[.slice ao n c])∧NamesO w.heap.size w' (.slice ao n c) o
theorem Tryz.sizeTarget:(Tryz.prog.info? 164).map (·.size) = some 1:=by kernel_rfl
set_option maxHeartbeats 1000000 in
set_option maxRecDepth 50000 in
theorem targetOf_any (p:Str) (w:World) (hp:p.length + 1 < maxLen) :
  Calls Tryz.prog 113 #[SV p] w fun e w' => TargetRet w (placeO p) e w':=by
 obtain ⟨w1,hw1⟩ : ∃ w1:World,w1 = w.alloc (.cells #[.slice none 0 0] 164):=⟨_,rfl⟩
 have hb1:Below w.heap.size w w1:=by rw [hw1];exact (Below.refl _ _).alloc (Nat.le_refl _) _
 have hn1:w1.heap[w.heap.size]? = some (.cells #[.slice none 0 0] 164 (0,0)):=by rw [hw1];exact heap_alloc_new _ _
 have hs1:w.heap.size < w1.heap.size:=(Array.getElem?_eq_some_iff.1 hn1).1
 have C:=namesOrRoot_own p w1 hp
 have HW1:Hid _:=hw1
 have HB1:Hid _:=hb1
 clear hw1 hb1
 go_enter Tryz.func113,Tryz.ntmps113
 go_wp2_with fail
 rw [← HW1.out]
 refine C.mono ?_
 rintro e w2 ⟨hb2,v,rfl,hv⟩
 obtain ⟨ao,n,c,rfl⟩:=hv.form
 have hn2:w2.heap[w.heap.size]? = some (.cells #[.slice none 0 0] 164 (0,0)):=(hb2.block _ hs1).trans hn1
 have c2:=blk_cell hn2 0
 have f2:=blk_free hn2 0
 have HN2:Hid _:=hn2
 have HB2:Hid _:=hb2
 have HV:Hid (NamesO w1.heap.size w2 (.slice ao n c) (placeO p)):=hv
 have hlt2:w.heap.size < w2.heap.size:=(Array.getElem?_eq_some_iff.1 hn2).1
 clear hn2 hb2 hv C hn1
 simp at c2
 go_wp2
 have hh:(w2.setCell ⟨w.heap.size,0,none⟩ (.slice ao n c)).heap[w.heap.size]? = some (.cells #[.slice ao n c] 164 (0,0)):=(setCell_blk (i:=0) HN2.out (.slice ao n c)).trans (by simp)
 refine bodyPost_ret (v:=.agg #[.slice ao n c]) ?_ rfl ⟨?_,_,_,_,rfl,?_⟩
 ·rw [results_one (p:=2) (ty:=164) (by kernel_rfl)]
  exact run_loadVar_row _ w.heap.size 164 164 #[.slice ao n c] (0,0) _ hh Tryz.underlying164 rfl Tryz.sizeTarget
 ·exact (HB1.out.trans (HB2.out.mono HB1.out.size)).setCell (p:=⟨w.heap.size,0,none⟩) (Nat.le_refl _) _
 ·exact (HV.out.kept (base':=w1.heap.size) (Nat.le_refl _) (KeptFrom.setCell hs1 _)).mono HB1.out.size
def TargetsAt (base:Nat) (w:World) (v:Value) (ds:List (Option (List Str))):Prop :=
 ∃ us:List Value,w.ownsRow base 164 1 v ds.length us∧∀ (k:Nat) u d,us[k]? = some u→ds[k]? = some d→NamesO base w u d∧∀ j,u.ownBlock = some j→v.ownBlock ≠ some j
theorem TargetsAt.nil (base:Nat) (w:World):TargetsAt base w (.slice none 0 0) []:=⟨[],World.ownsRow_nil _ _ _ _,fun k u d h => by simp at h⟩
theorem TargetsAt.below {base:Nat} {w w' : World} {v:Value} {ds:List (Option (List Str))} (h:TargetsAt base w v ds) (hb:Below w.heap.size w w'):TargetsAt base w' v ds:=by
 obtain ⟨us,h1,h2⟩:=h
 exact ⟨us,rowKept h1 (fun k hk => hb.block k (h1.lt k hk).2),fun k u d hu hd => ⟨(h2 k u d hu hd).1.below hb,(h2 k u d hu hd).2⟩⟩
theorem TargetsAt.push {base:Nat} {w w1 w2:World} {v v' u:Value} {us:List Value} {ds:List (Option (List Str))} {d:Option (List Str)} (h1:w.ownsRow base 164 1 v ds.length us) (h2:∀ (k:Nat) u d,us[k]? = some u→ds[k]? = some d→NamesO base w u d∧∀ j,u.ownBlock = some j→v.ownBlock ≠ some j) (hbase:base ≤ w.heap.size) (hb:Below w.heap.size w w1) (hu:NamesO w.heap.size w1 u d)
  (hrow:w2.ownsRow base 164 1 v' (ds.length + 1) (us ++ [u])) (hg:w1.grownBy w2 v.ownBlock) (hm:Moved w1 v v'):TargetsAt base w2 v' (ds ++ [d]):=by
 have hl:us.length = ds.length:=by have:=h1.1;omega
 have hvl:∀ k,v.ownBlock = some k→k < w.heap.size:=fun k hk => (h1.lt k hk).2
 refine ⟨us ++ [u],by rw [List.length_append];exact hrow,?_⟩
 intro k x y hx hy
 by_cases hk:k < us.length
 ·rw [List.getElem?_append_left hk] at hx
  rw [List.getElem?_append_left (by omega)] at hy
  obtain ⟨h3,h4⟩:=h2 k x y hx hy
  refine ⟨(h3.below hb).frame hg.size (fun j hj => hg.block j (by have:=(h3.lt hj).2;have:=hb.size;omega) (fun e => h4 j hj e.symm)),fun j hj e => ?_⟩
  rcases hm j e with h5 | h5
  ·exact h4 j hj h5
  ·have:=(h3.lt hj).2;have:=hb.size;omega
 ·have hke:k = us.length:=by
   have:=(List.getElem?_eq_some_iff.1 hx).1
   simp at this;omega
  subst hke
  rw [List.getElem?_append_right (Nat.le_refl _)] at hx
  rw [hl,List.getElem?_append_right (Nat.le_refl _)] at hy
  simp at hx hy
  subst hx hy
  refine ⟨(hu.frame hg.size (fun j hj => hg.block j (hu.lt hj).2 (fun e => by have:=hvl j e.symm;have:=(hu.lt hj).1;omega))).mono hbase,fun j hj e => ?_⟩
  rcases hm j e with h5 | h5
  ·have:=hvl j h5;have:=(hu.lt hj).1;omega
  ·have:=(hu.lt hj).2;omega
theorem Tryz.infoTarget:(Tryz.prog.info? 164).map (fun i => (i.zero,i.size,i.bytes)) = some (some (.agg #[.slice none 0 0]),1,24):=by kernel_rfl
def TargetsRet (w:World) (ds:List (Option (List Str))) (e:Ending) (w' : World):Prop:=Below w.heap.size w w'∧∃ v,e = .returned v∧TargetsAt w.heap.size w' v ds
set_option maxHeartbeats 4000000 in
set_option maxRecDepth 50000 in
theorem targetsOf_any (xs:List Str) (nv:Value) (w:World) (hn:NamesAt w nv xs) (hx:∀ x ∈ xs,x.length ≤ 1000) (hl:xs.length ≤ 1000) :
  Calls Tryz.prog 112 #[nv] w fun e w' => TargetsRet w (xs.map placeO) e w':=by
 obtain ⟨ao,cap,rfl,hc,hm,hcell⟩:=hn
 have HC:Hid _:=hcell
 have HX:Hid _:=hx
 clear hcell hx
 go_enter Tryz.func112,Tryz.ntmps112
 go_wp2
 go_loopw [3,8] (fun v i wr => ∃ k:Nat,k ≤ xs.length∧i = .int .i64 k∧TargetsAt w.heap.size wr v ((xs.take k).map placeO)∧Below w.heap.size w wr) (fun _ i _ => xs.length - (intOf i).toNat)
 case atStart => exact ⟨0,Nat.zero_le _,rfl,TargetsAt.nil _ _,Below.refl _ _⟩
 case round =>
  obtain ⟨k,hk,rfl,hT,hb⟩:=hrel
  by_cases hlt:k < xs.length
  ·obtain ⟨g,o,rfl,hg,hcl⟩:=HC.out k hlt
   have ck:wr.cell? ⟨g,o + k,none⟩ = some (SV xs[k]):=(hb.cell (p:=⟨g,o + k,none⟩) hg).trans hcl
   have hxl:=HX.out _ (List.getElem_mem hlt)
   have hki:(k:Int) < (xs.length:Int):=by omega
   have C:=targetOf_any xs[k] wr (by unfold maxLen;omega)
   have hlen:((xs.take k).map placeO).length = k:=by simp;omega
   have HB:Hid _:=hb
   obtain ⟨us0,hrow0,hnam0⟩:=hT
   have HP:Hid (∀ w2 w3 v' u,Below wr.heap.size wr w2→NamesO wr.heap.size w2 u (placeO xs[k])→w3.ownsRow w.heap.size 164 1 v' (k + 1) (us0 ++ [u])→w2.grownBy w3 u3.ownBlock→Moved w2 u3 v'→TargetsAt w.heap.size w3 v' ((xs.take (k + 1)).map placeO)):=fun w2 w3 v' u h1 h2 h3 h4 h5 => by
    rw [List.take_succ_eq_append_getElem hlt,List.map_append]
    exact TargetsAt.push hrow0 hnam0 hb.size h1 h2 (by rw [hlen];exact h3) h4 h5
   rw [hlen] at hrow0
   obtain ⟨ao0,cap0,rfl⟩:=row_form hrow0
   have HR0:Hid (wr.ownsRow w.heap.size 164 1 (.slice ao0 k cap0) k us0):=hrow0
   clear hb hcl hrow0 hnam0 hlen
   go_wp2_with fail
   refine C.mono ?_
   rintro e w2 ⟨hb2,ao2,n2,c2,rfl,hv2⟩
   have HB2:Hid _:=hb2
   have HV2:Hid (NamesO wr.heap.size w2 (.slice ao2 n2 c2) (placeO xs[k])):=hv2
   have HR2:Hid (w2.ownsRow w.heap.size 164 1 (.slice ao0 k cap0) k us0):=rowKept HR0.out (fun j hj => hb2.block j (HR0.out.lt j hj).2)
   have hbase2:w.heap.size ≤ w2.heap.size:=Nat.le_trans HB.out.size hb2.size
   clear hb2 hv2 C ck
   go_wp2_with (at_builtin;go_loud (refine wp_app_at 172 164 _ 1 24 Tryz.infoTarget Tryz.underlying172 rfl (by decide) rfl (.tmp 12) (.tmp 15) rfl (base:=w.heap.size) HR2.out [.slice ao2 n2 c2] rfl (by intro u hu;simp at hu;subst hu;rfl) ⟨rfl,rfl,rfl,rfl⟩ rfl rfl (by unfold maxLen;omega) (by omega) hbase2 ?_))
   intro v' w3 hrow3 hg3 hm3
   have HT3:Hid _:=HP.out w2 w3 v' _ HB2.out HV2.out hrow3 hg3 hm3
   have HB3:Hid (Below w.heap.size w w3):=(HB.out.trans (HB2.out.mono HB.out.size)).grown hg3 (Nat.le_trans HB.out.size HB2.out.size) (fun j hj => (HR0.out.lt j hj).1)
   obtain ⟨ao3,cap3,rfl⟩:=row_form hrow3
   clear hrow3 hg3 hm3 HP HR2 HR0
   go_wp2
   go_roundw
   case rel => exact ⟨k + 1,by omega,by go_num,HT3.out,HB3.out⟩
   case measure => simp [intOf];omega
  ·have hki:¬ (k:Int) < (xs.length:Int):=by omega
   have R:Hid (TargetsRet w (xs.map placeO) (.returned u3) wr):=⟨hb,_,rfl,by rw [List.take_of_length_le (by omega)] at hT;exact hT⟩
   obtain ⟨us0,hrow0,_⟩:=hT
   rw [show ((xs.take k).map placeO).length = k by simp;omega] at hrow0
   obtain ⟨ao0,cap0,rfl⟩:=row_form hrow0
   clear hb hrow0
   go_wp2
   go_ret
   exact R.out

open Go.RowKit
inductive Qn where
 | ex (o:Option (List Str)):Qn
 | li (o:Option (List Str)):Qn
 | re (o:Option (List Str)):Qn
 | gl (o:Option (List Str)):Qn
 | fi (x:Str) (ds:List (Option (List Str))):Qn
def qnOf (xs:List Str):Option Qn :=
 if xs.any (· == []) then none
 else if xs.headD [] == kFirst && decide (2 < xs.length) then some (.fi (xs.getD 1 []) ((xs.drop 2).map placeO))
 else if xs.length ≠ 2 then none
 else if xs.headD [] == kExists then some (.ex (placeO (xs.getD 1 [])))
 else if xs.headD [] == kList then some (.li (placeO (xs.getD 1 [])))
 else if xs.headD [] == kRead then some (.re (placeO (xs.getD 1 [])))
 else if xs.headD [] == kGlob then some (.gl (patO (xs.getD 1 [])))
 else none
def faultO (n:Nat) (o:Option (List Str)):Nat:=if o.isSome then 0 else n
def faultQ:Qn→Nat
 | .ex o => faultO 3 o
 | .li o => faultO 3 o
 | .re o => faultO 3 o
 | .gl o => faultO 9 o
 | .fi x ds => if isNameL x false then (if ds.all (·.isSome) then 0 else 3) else 3
def parseW (xs:List Str):Nat:=match qnOf xs with
 | none => 10
 | some q => faultQ q
theorem fault_place (p:Str):faultO 3 (placeO p) = if isPlaceL p then 0 else 3:=by
 unfold faultO placeO
 cases isPlaceL p <;> rfl
theorem fault_pat (p:Str):faultO 9 (patO p) = if isPatternL p then 0 else 9:=by
 unfold faultO patO
 cases isPatternL p <;> rfl
theorem places_two {a p:Str} (h:(a == kFirst) = false):placesE [a,p] = if isPlaceL p then 0 else 3:=by
 unfold placesE
 have e:(List.range [a,p].length) = [0,1]:=rfl
 rw [e]
 simp only [List.all_cons,List.all_nil,Bool.and_true]
 have w1:wordOk a 1 p = isPlaceL p:=by unfold wordOk;rw [h];rfl
 simp [w1]
theorem places_first {x:Str} {ds:List Str}:placesE (kFirst :: x :: ds) = if isNameL x false then (if (ds.map placeO).all (·.isSome) then 0 else 3) else 3:=by
 have hall:((List.range (kFirst :: x :: ds).length).all fun i => i == 0 || wordOk ((kFirst :: x :: ds).headD []) i ((kFirst :: x :: ds).getD i [])) = (isNameL x false && (ds.map placeO).all (·.isSome)):=by
  rw [Bool.eq_iff_iff,List.all_eq_true,Bool.and_eq_true,List.all_eq_true]
  constructor
  ·intro h
   refine ⟨?_,?_⟩
   ·have:=h 1 (by simp)
    simpa [wordOk] using this
   ·intro o ho
    rw [List.mem_map] at ho
    obtain ⟨d,hd,rfl⟩:=ho
    obtain ⟨j,hj,rfl⟩:=List.getElem_of_mem hd
    have:=h (j + 2) (by simp;omega)
    simp [wordOk,hj] at this
    unfold placeO;rw [this];rfl
  ·rintro ⟨h1,h2⟩ i hi
   match i with
   | 0 => rfl
   | 1 => simpa [wordOk] using h1
   | j + 2 =>
    simp at hi
    have:=h2 (placeO ds[j]) (List.mem_map.2 ⟨_,List.getElem_mem hi,rfl⟩)
    have h3:isPlaceL ds[j] = true:=by
     unfold placeO at this
     cases h:isPlaceL ds[j]
     ·rw [h] at this;simp at this
     ·rfl
    simp [wordOk,hi,h3]
 unfold placesE
 rw [hall]
 cases isNameL x false <;> cases (ds.map placeO).all (·.isSome) <;> rfl
theorem parse_check (xs:List Str) (hne:xs ≠ []):parseW xs = checkW xs:=by
 have d1:(kGlob == kFirst) = false:=by decide
 have d2:(kGlob == kExists) = false:=by decide
 have d3:(kGlob == kList) = false:=by decide
 have d4:(kGlob == kRead) = false:=by decide
 have d5:(kFirst == kGlob) = false:=by decide
 have d6:(kFirst == kExists) = false:=by decide
 have d7:(kFirst == kList) = false:=by decide
 have d8:(kFirst == kRead) = false:=by decide
 unfold parseW qnOf checkW
 by_cases h0:xs.any (· == []) = true
 ·simp only [h0,if_true]
 ·simp only [h0,Bool.false_eq_true,if_false]
  match xs,hne with
  | [a],_ =>
   simp only [List.headD_cons,List.length_singleton,show ¬ (2 < 1) by omega,decide_false,Bool.and_false,Bool.false_eq_true,if_false,show ¬ (1 = 2) by omega,ne_eq,not_false_eq_true,if_true,show 1 < 3 by omega]
   simp
  | [a,p],_ =>
   simp only [List.headD_cons,List.length_cons,List.length_nil,Nat.zero_add,Nat.reduceAdd,Nat.lt_irrefl,decide_false,Bool.and_false,Bool.false_eq_true,if_false,ne_eq,not_true_eq_false,List.getD_cons_succ,List.getD_cons_zero,if_true,show 2 < 3 by omega]
   by_cases kf:a = kFirst
   ·subst kf;simp only [d5,d6,d7,d8,Bool.false_eq_true,if_false,beq_self_eq_true,if_true]
   ·have kf' : (a == kFirst) = false:=by simpa using kf
    by_cases kg:a = kGlob
    ·subst kg;simp only [d1,d2,d3,d4,Bool.false_eq_true,if_false,beq_self_eq_true,if_true,faultQ];exact fault_pat p
    ·have kg' : (a == kGlob) = false:=by simpa using kg
     simp only [kf',kg',Bool.false_eq_true,if_false,places_two kf',← fault_place]
     cases ke:(a == kExists) <;> cases kl:(a == kList) <;> cases kr:(a == kRead) <;> simp [faultQ]
  | a :: x :: y :: ds,_ =>
   have l1:decide (2 < (a :: x :: y :: ds).length) = true:=by simp
   have l2:¬ (a :: x :: y :: ds).length = 2:=by simp
   have l3:¬ (a :: x :: y :: ds).length < 3:=by simp
   simp only [l1,l2,l3,List.headD_cons,Bool.and_true,List.getD_cons_succ,List.getD_cons_zero,ne_eq,not_false_eq_true,if_true,if_false]
   by_cases kf:a = kFirst
   ·subst kf;simp only [d5,beq_self_eq_true,Bool.false_eq_true,if_true,if_false,places_first];rfl
   ·have kf' : (a == kFirst) = false:=by simpa using kf
    simp only [kf',Bool.false_eq_true,if_false]
    simp
def QAt (base:Nat) (w:World) (v:Value):Qn→Prop
 | .ex o => ∃ ao n c,v = .iface 166 (.agg #[.slice ao n c])∧NamesO base w (.slice ao n c) o
 | .li o => ∃ ao n c,v = .iface 168 (.agg #[.slice ao n c])∧NamesO base w (.slice ao n c) o
 | .re o => ∃ ao n c,v = .iface 169 (.agg #[.slice ao n c])∧NamesO base w (.slice ao n c) o
 | .gl o => ∃ ao n c,v = .iface 171 (.agg #[.slice ao n c])∧NamesO base w (.slice ao n c) o
 | .fi x ds => ∃ ao n c,v = .iface 174 (.agg #[SV x,.slice ao n c])∧TargetsAt base w (.slice ao n c) ds
theorem QAt.below {base:Nat} {w w' : World} {v:Value} {q:Qn} (h:QAt base w v q) (hb:Below w.heap.size w w'):QAt base w' v q:=by
 cases q with
 | fi x ds => obtain ⟨ao,n,c,h1,h2⟩:=h;exact ⟨ao,n,c,h1,h2.below hb⟩
 | _ => obtain ⟨ao,n,c,h1,h2⟩:=h;exact ⟨ao,n,c,h1,h2.below hb⟩
theorem QAt.iface {base:Nat} {w:World} {v:Value} {q:Qn} (h:QAt base w v q):∃ t cs,v = .iface t (.agg cs):=by
 cases q <;> (obtain ⟨ao,n,c,h1,h2⟩:=h;exact ⟨_,_,h1⟩)
def QRet (w:World) (o:Option Qn) (e:Ending) (w' : World):Prop :=
 Below w.heap.size w w'∧match o with
  | none => e = .returned .nilIface
  | some q => ∃ v,e = .returned v∧QAt w.heap.size w' v q
theorem prgHas_any (xs:List Str) (nv:Value) (w:World) (hn:NamesAt w nv xs) (hl:xs.length ≤ 1000) :
  Calls Tryz.prog 111 #[nv,SV []] w fun e w' => e = .returned (.bool (xs.any (· == [])))∧w' = w:=by
 obtain ⟨ao,cap,rfl,hc,hm,hcell⟩:=hn
 cases xs with
 | nil => exact Tryz.slices_Contains_string_empty ao cap ⟨#[]⟩ w
 | cons x r =>
  obtain ⟨g,o,rfl,hg,h0⟩:=hcell 0 (by simp)
  have C:=Tryz.slices_Contains_string g o (x :: r).length cap ((x :: r).map fun s => ⟨s.toArray⟩) ⟨#[]⟩ w (by simp) (by simp at hl ⊢;omega) (fun j hj => by
   simp only [List.length_map] at hj
   obtain ⟨g',o',e,_,h7⟩:=hcell j hj
   simp only [Option.some.injEq,Addr.mk.injEq] at e
   obtain ⟨rfl,rfl,_⟩:=e
   rw [h7,List.getD_eq_getElem?_getD,List.getElem?_map,List.getElem?_eq_getElem hj]
   rfl)
  rw [List.take_of_length_le (by simp)] at C
  refine C.mono fun e w' h => ⟨h.1.trans ?_,h.2⟩
  congr 2
  rw [Bool.eq_iff_iff,Lib.containsS_iff,List.mem_map,List.any_eq_true]
  constructor
  ·rintro ⟨s,hs,e⟩
   refine ⟨s,hs,?_⟩
   have:s.toArray = #[]:=congrArg ByteArray.data e
   simpa using this
  ·rintro ⟨s,hs,e⟩
   have:s = []:=by simpa using e
   exact ⟨s,hs,by rw [this]⟩
theorem names_at {w:World} {nv:Value} {xs:List Str} (h:NamesAt w nv xs) (hne:xs ≠ []):∃ g o cap,nv = .slice (some ⟨g,o,none⟩) xs.length cap∧xs.length ≤ cap∧cap ≤ maxLen∧g < w.heap.size∧(∀ k (h:k < xs.length),w.cell? ⟨g,o + k,none⟩ = some (SV xs[k])):=by
 obtain ⟨ao,cap,rfl,hc,hm,hcell⟩:=h
 obtain ⟨g,o,rfl,hg,_⟩:=hcell 0 (List.length_pos_iff.2 hne)
 refine ⟨g,o,cap,rfl,hc,hm,hg,fun k hk => ?_⟩
 obtain ⟨g',o',e,_,h7⟩:=hcell k hk
 simp only [Option.some.injEq,Addr.mk.injEq] at e
 obtain ⟨rfl,rfl,_⟩:=e
 exact h7
set_option maxHeartbeats 4000000 in
set_option maxRecDepth 50000 in
theorem questionOf_empty (xs:List Str) (nv:Value) (w:World) (hn:NamesAt w nv xs) (hl:xs.length ≤ 1000) (h0:xs.any (· == []) = true) :
  Calls Tryz.prog 78 #[nv] w fun e w' => QRet w (qnOf xs) e w':=by
 have C:=prgHas_any xs nv w hn hl
 rw [h0] at C
 have R:Hid (QRet w (qnOf xs) (.returned .nilIface) w):=by
  have e:qnOf xs = none:=by unfold qnOf;rw [if_pos h0]
  rw [Hid,e];exact ⟨Below.refl _ _,rfl⟩
 obtain ⟨ao,cap,rfl,_⟩:=names_form hn
 clear hn
 go_enter Tryz.func78,Tryz.ntmps78
 go_wp2_with (go_at_call 111;refine C.mono ?_;rintro e w1 ⟨rfl,hw1⟩;cases hw1)
 go_ret
 exact R.out
set_option maxHeartbeats 4000000 in
set_option maxRecDepth 50000 in
theorem questionOf_other (xs:List Str) (nv:Value) (w:World) (hn:NamesAt w nv xs) (hne:xs ≠ []) (hl:xs.length ≤ 1000) (h0:xs.any (· == []) = false) (h1:¬ (xs.headD [] = kFirst∧2 < xs.length)) (h2:xs.length ≠ 2) :
  Calls Tryz.prog 78 #[nv] w fun e w' => QRet w (qnOf xs) e w':=by
 have C:=prgHas_any xs nv w hn hl
 rw [h0] at C
 have R:Hid (∀ W,Below w.heap.size w W→QRet w (qnOf xs) (.returned .nilIface) W):=fun W hW => by
  have e:qnOf xs = none:=by
   unfold qnOf
   rw [if_neg (by rw [h0];simp),if_neg (by simpa using h1),if_pos h2]
  rw [e];exact ⟨hW,rfl⟩
 obtain ⟨g,o,cap,rfl,hc,hm,hg,hcell⟩:=names_at hn hne
 have hpos:0 < xs.length:=List.length_pos_iff.2 hne
 have c0:=hcell 0 hpos
 rw [Nat.add_zero] at c0
 have hx0:xs.headD [] = xs[0]:=by
  cases xs with
  | nil => simp at hpos
  | cons x r => rfl
 rw [hx0] at h1
 have hp1:(1:Int) ≤ (xs.length:Int):=by omega
 have hp0:(0:Int) < (xs.length:Int):=by omega
 have hpc:(xs.length:Int) ≤ (cap:Int):=by omega
 obtain ⟨n,hln⟩ : ∃ n,xs.length - 1 = n:=⟨_,rfl⟩
 have h2i:¬ (n:Int) = 1:=by omega
 clear hn hcell hx0
 unfold maxLen at hm
 by_cases hf:xs[0] = [102,105,114,115,116]
 ·have hle:¬ 2 < xs.length:=fun h => h1 ⟨hf,h⟩
  rw [hf] at c0
  have h3i:¬ (1:Int) < (n:Int):=by omega
  clear h1
  go_enter Tryz.func78,Tryz.ntmps78
  go_wp2_with (go_at_call 111;refine C.mono ?_;rintro e w1 ⟨rfl,hw1⟩;cases hw1)
  go_quiet (fail)
  go_wp2
  all_goals
   go_ret
   exact R.out _ (below_drewN (Below.refl _ _) _)
 ·have hf' : (xs[0] == [102,105,114,115,116]) = false:=by simpa using hf
  clear h1 hf
  go_enter Tryz.func78,Tryz.ntmps78
  go_wp2_with (go_at_call 111;refine C.mono ?_;rintro e w1 ⟨rfl,hw1⟩;cases hw1)
  go_quiet (fail)
  go_wp2
  all_goals
   go_ret
   exact R.out _ (below_drewN (Below.refl _ _) _)

open Go.RowKit
theorem qnOf_two {k p:Str} (h0 : [k,p].any (· == []) = false):qnOf [k,p] = if k == kExists then some (.ex (placeO p)) else if k == kList then some (.li (placeO p)) else if k == kRead then some (.re (placeO p)) else if k == kGlob then some (.gl (patO p)) else none:=by
 unfold qnOf
 rw [if_neg (by rw [h0];simp),if_neg (by simp),if_neg (by simp)]
 rfl
set_option maxHeartbeats 4000000 in
set_option maxRecDepth 50000 in
theorem questionOf_exists (p:Str) (nv:Value) (w:World) (hn:NamesAt w nv [kExists,p]) (h0 : [kExists,p].any (· == []) = false) (hp:p.length ≤ 1000) :
  Calls Tryz.prog 78 #[nv] w fun e w' => QRet w (qnOf [kExists,p]) e w':=by
 have C:=prgHas_any [kExists,p] nv w hn (by simp)
 rw [h0] at C
 have HQ:Hid (qnOf [kExists,p] = some (.ex (placeO p))):=by rw [Hid,qnOf_two h0];rfl
 obtain ⟨g,o,cap,rfl,hc,hm,hg,hcell⟩:=names_at hn (by simp)
 have c0:w.cell? ⟨g,o,none⟩ = some (SV [101,120,105,115,116,115]):=hcell 0 (by simp)
 have c1:w.cell? ⟨g,o + 1,none⟩ = some (SV p):=hcell 1 (by simp)
 simp only [List.length_cons,List.length_nil,Nat.zero_add,Nat.reduceAdd] at hc
 have hpc:(2:Int) ≤ (cap:Int):=by omega
 have CT:=fun nq => targetOf_any p (w.drewN nq) (by unfold maxLen;omega)
 clear hn hcell h0
 unfold maxLen at hm
 simp only [List.length_cons,List.length_nil,Nat.zero_add,Nat.reduceAdd] at C ⊢
 go_enter Tryz.func78,Tryz.ntmps78
 go_wp2_with (go_at_call 111;refine C.mono ?_;rintro e w1 ⟨rfl,hw1⟩;cases hw1)
 go_quiet (fail)
 go_wp2_with fail
 refine (CT nq).mono ?_
 rintro e w2 ⟨hb2,ao2,n2,c2,rfl,hv2⟩
 have R:Hid (QRet w (qnOf [kExists,p]) (.returned (.iface 166 (.agg #[.slice ao2 n2 c2]))) w2):=by rw [Hid,HQ.out];exact ⟨(below_drewN (Below.refl _ _) _).trans hb2,_,rfl,_,_,_,rfl,hv2⟩
 clear hb2 hv2 HQ CT C
 go_wp2
 go_ret
 exact R.out
set_option maxHeartbeats 4000000 in
set_option maxRecDepth 50000 in
theorem questionOf_list (p:Str) (nv:Value) (w:World) (hn:NamesAt w nv [kList,p]) (h0 : [kList,p].any (· == []) = false) (hp:p.length ≤ 1000) :
  Calls Tryz.prog 78 #[nv] w fun e w' => QRet w (qnOf [kList,p]) e w':=by
 have C:=prgHas_any [kList,p] nv w hn (by simp)
 rw [h0] at C
 have HQ:Hid (qnOf [kList,p] = some (.li (placeO p))):=by rw [Hid,qnOf_two h0];rfl
 obtain ⟨g,o,cap,rfl,hc,hm,hg,hcell⟩:=names_at hn (by simp)
 have c0:w.cell? ⟨g,o,none⟩ = some (SV [108,105,115,116]):=hcell 0 (by simp)
 have c1:w.cell? ⟨g,o + 1,none⟩ = some (SV p):=hcell 1 (by simp)
 simp only [List.length_cons,List.length_nil,Nat.zero_add,Nat.reduceAdd] at hc
 have hpc:(2:Int) ≤ (cap:Int):=by omega
 have CT:=fun nq => targetOf_any p (w.drewN nq) (by unfold maxLen;omega)
 clear hn hcell h0
 unfold maxLen at hm
 simp only [List.length_cons,List.length_nil,Nat.zero_add,Nat.reduceAdd] at C ⊢
 go_enter Tryz.func78,Tryz.ntmps78
 go_wp2_with (go_at_call 111;refine C.mono ?_;rintro e w1 ⟨rfl,hw1⟩;cases hw1)
 go_quiet (fail)
 go_wp2_with fail
 refine (CT nq).mono ?_
 rintro e w2 ⟨hb2,ao2,n2,c2,rfl,hv2⟩
 have R:Hid (QRet w (qnOf [kList,p]) (.returned (.iface 168 (.agg #[.slice ao2 n2 c2]))) w2):=by rw [Hid,HQ.out];exact ⟨(below_drewN (Below.refl _ _) _).trans hb2,_,rfl,_,_,_,rfl,hv2⟩
 clear hb2 hv2 HQ CT C
 go_wp2
 go_ret
 exact R.out
set_option maxHeartbeats 4000000 in
set_option maxRecDepth 50000 in
theorem questionOf_read (p:Str) (nv:Value) (w:World) (hn:NamesAt w nv [kRead,p]) (h0 : [kRead,p].any (· == []) = false) (hp:p.length ≤ 1000) :
  Calls Tryz.prog 78 #[nv] w fun e w' => QRet w (qnOf [kRead,p]) e w':=by
 have C:=prgHas_any [kRead,p] nv w hn (by simp)
 rw [h0] at C
 have HQ:Hid (qnOf [kRead,p] = some (.re (placeO p))):=by rw [Hid,qnOf_two h0];rfl
 obtain ⟨g,o,cap,rfl,hc,hm,hg,hcell⟩:=names_at hn (by simp)
 have c0:w.cell? ⟨g,o,none⟩ = some (SV [114,101,97,100]):=hcell 0 (by simp)
 have c1:w.cell? ⟨g,o + 1,none⟩ = some (SV p):=hcell 1 (by simp)
 simp only [List.length_cons,List.length_nil,Nat.zero_add,Nat.reduceAdd] at hc
 have hpc:(2:Int) ≤ (cap:Int):=by omega
 have CT:=fun nq => targetOf_any p (w.drewN nq) (by unfold maxLen;omega)
 clear hn hcell h0
 unfold maxLen at hm
 simp only [List.length_cons,List.length_nil,Nat.zero_add,Nat.reduceAdd] at C ⊢
 go_enter Tryz.func78,Tryz.ntmps78
 go_wp2_with (go_at_call 111;refine C.mono ?_;rintro e w1 ⟨rfl,hw1⟩;cases hw1)
 go_quiet (fail)
 go_wp2_with fail
 refine (CT nq).mono ?_
 rintro e w2 ⟨hb2,ao2,n2,c2,rfl,hv2⟩
 have R:Hid (QRet w (qnOf [kRead,p]) (.returned (.iface 169 (.agg #[.slice ao2 n2 c2]))) w2):=by rw [Hid,HQ.out];exact ⟨(below_drewN (Below.refl _ _) _).trans hb2,_,rfl,_,_,_,rfl,hv2⟩
 clear hb2 hv2 HQ CT C
 go_wp2
 go_ret
 exact R.out
set_option maxHeartbeats 4000000 in
set_option maxRecDepth 50000 in
theorem questionOf_glob (p:Str) (nv:Value) (w:World) (hn:NamesAt w nv [kGlob,p]) (h0 : [kGlob,p].any (· == []) = false) (hp:p.length ≤ 1000) (hmx:MaxOk w) :
  Calls Tryz.prog 78 #[nv] w fun e w' => QRet w (qnOf [kGlob,p]) e w':=by
 have C:=prgHas_any [kGlob,p] nv w hn (by simp)
 rw [h0] at C
 have HQ:Hid (qnOf [kGlob,p] = some (.gl (patO p))):=by rw [Hid,qnOf_two h0];rfl
 obtain ⟨g,o,cap,rfl,hc,hm,hg,hcell⟩:=names_at hn (by simp)
 have c0:w.cell? ⟨g,o,none⟩ = some (SV [103,108,111,98]):=hcell 0 (by simp)
 have c1:w.cell? ⟨g,o + 1,none⟩ = some (SV p):=hcell 1 (by simp)
 simp only [List.length_cons,List.length_nil,Nat.zero_add,Nat.reduceAdd] at hc
 have hpc:(2:Int) ≤ (cap:Int):=by omega
 have CT:=fun nq => partsOf_any p (w.drewN nq) (hmx.later (below_drewN (Below.refl _ _) _)) (by unfold maxLen;omega)
 clear hn hcell h0
 unfold maxLen at hm
 simp only [List.length_cons,List.length_nil,Nat.zero_add,Nat.reduceAdd] at C ⊢
 go_enter Tryz.func78,Tryz.ntmps78
 go_wp2_with (go_at_call 111;refine C.mono ?_;rintro e w1 ⟨rfl,hw1⟩;cases hw1)
 go_quiet (fail)
 go_wp2_with fail
 refine (CT nq).mono ?_
 rintro e w2 ⟨hb2,v2,rfl,hv2⟩
 obtain ⟨ao2,n2,c2,rfl⟩:=hv2.form
 have R:Hid (QRet w (qnOf [kGlob,p]) (.returned (.iface 171 (.agg #[.slice ao2 n2 c2]))) w2):=by rw [Hid,HQ.out];exact ⟨(below_drewN (Below.refl _ _) _).trans hb2,_,rfl,_,_,_,rfl,hv2⟩
 clear hb2 hv2 HQ CT C
 go_wp2
 go_ret
 exact R.out
set_option maxHeartbeats 4000000 in
set_option maxRecDepth 50000 in
theorem questionOf_no2 (k p:Str) (nv:Value) (w:World) (hn:NamesAt w nv [k,p]) (h0 : [k,p].any (· == []) = false) (k1:(k == kExists) = false) (k2:(k == kList) = false) (k3:(k == kRead) = false) (k4:(k == kGlob) = false) :
  Calls Tryz.prog 78 #[nv] w fun e w' => QRet w (qnOf [k,p]) e w':=by
 have C:=prgHas_any [k,p] nv w hn (by simp)
 rw [h0] at C
 have R:Hid (∀ W,Below w.heap.size w W→QRet w (qnOf [k,p]) (.returned .nilIface) W):=fun W hW => by
  rw [qnOf_two h0,k1,k2,k3,k4];exact ⟨hW,rfl⟩
 obtain ⟨g,o,cap,rfl,hc,hm,hg,hcell⟩:=names_at hn (by simp)
 have c0:w.cell? ⟨g,o,none⟩ = some (SV k):=hcell 0 (by simp)
 have c1:w.cell? ⟨g,o + 1,none⟩ = some (SV p):=hcell 1 (by simp)
 simp only [List.length_cons,List.length_nil,Nat.zero_add,Nat.reduceAdd] at hc
 have hpc:(2:Int) ≤ (cap:Int):=by omega
 have n1:(k == [101,120,105,115,116,115]) = false:=k1
 have n2:(k == [108,105,115,116]) = false:=k2
 have n3:(k == [114,101,97,100]) = false:=k3
 have n4:(k == [103,108,111,98]) = false:=k4
 clear hn hcell h0 k1 k2 k3 k4
 unfold maxLen at hm
 simp only [List.length_cons,List.length_nil,Nat.zero_add,Nat.reduceAdd] at C ⊢
 by_cases kf:k = [102,105,114,115,116]
 ·rw [kf] at c0
  clear n1 n2 n3 n4
  go_enter Tryz.func78,Tryz.ntmps78
  go_wp2_with (go_at_call 111;refine C.mono ?_;rintro e w1 ⟨rfl,hw1⟩;cases hw1)
  go_quiet (fail)
  go_wp2
  all_goals
   go_ret
   exact R.out _ (below_drewN (Below.refl _ _) _)
 ·have n5:(k == [102,105,114,115,116]) = false:=by simpa using kf
  clear kf
  go_enter Tryz.func78,Tryz.ntmps78
  go_wp2_with (go_at_call 111;refine C.mono ?_;rintro e w1 ⟨rfl,hw1⟩;cases hw1)
  go_quiet (fail)
  go_wp2
  all_goals
   go_ret
   exact R.out _ (below_drewN (Below.refl _ _) _)

open Go.RowKit
def TargetsRetS (w:World) (ds:List (Option (List Str))) (e:Ending) (w' : World):Prop:=Below w.heap.size w w'∧∃ ao n c,e = .returned (.slice ao n c)∧TargetsAt w.heap.size w' (.slice ao n c) ds
theorem TargetsRet.slice {w w' : World} {ds:List (Option (List Str))} {e:Ending} (h:TargetsRet w ds e w'):TargetsRetS w ds e w':=by
 obtain ⟨hb,v,rfl,hv⟩:=h
 obtain ⟨us,h1,h2⟩:=hv
 obtain ⟨ao,cap,rfl⟩:=row_form h1
 exact ⟨hb,_,_,_,rfl,us,h1,h2⟩
theorem qnOf_first {xs:List Str} (h0:xs.any (· == []) = false) (h1:xs.headD [] = kFirst) (h2:2 < xs.length):qnOf xs = some (.fi (xs.getD 1 []) ((xs.drop 2).map placeO)):=by
 unfold qnOf
 rw [if_neg (by rw [h0];simp),if_pos (by rw [h1];simpa using h2)]
set_option maxHeartbeats 4000000 in
set_option maxRecDepth 50000 in
theorem questionOf_first (xs:List Str) (nv:Value) (w:World) (hn:NamesAt w nv xs) (hl:xs.length ≤ 1000) (h0:xs.any (· == []) = false) (h1:xs.headD [] = kFirst) (h2:2 < xs.length) (hx:∀ x ∈ xs,x.length ≤ 1000) :
  Calls Tryz.prog 78 #[nv] w fun e w' => QRet w (qnOf xs) e w':=by
 have C:=prgHas_any xs nv w hn hl
 rw [h0] at C
 have hne:xs ≠ []:=fun e => by rw [e] at h2;simp at h2
 have HQ:Hid _:=qnOf_first h0 h1 h2
 obtain ⟨g,o,cap,rfl,hc,hm,hg,hcell⟩:=names_at hn hne
 have c0:=hcell 0 (by omega)
 have hx0:xs[0]'(by omega) = [102,105,114,115,116]:=by
  rw [show ([102,105,114,115,116]:Str) = kFirst from rfl,← h1]
  cases xs with
  | nil => simp at h2
  | cons x r => rfl
 rw [Nat.add_zero,hx0] at c0
 have c1:=hcell 1 (by omega)
 have hx1:xs.getD 1 [] = xs[1]'(by omega):=by simp [show 1 < xs.length by omega]
 rw [hx1] at HQ
 generalize xs[1]'(by omega) = x at *
 obtain ⟨m,hlm⟩ : ∃ m,xs.length = m + 2:=⟨xs.length - 2,by omega⟩
 obtain ⟨c,hcm⟩ : ∃ c,cap = c + 2:=⟨cap - 2,by omega⟩
 subst hcm
 have hm0:0 < m:=by omega
 have hdl:(xs.drop 2).length = m:=by simp;omega
 have CT:Hid (∀ W,Like W w→Calls Tryz.prog 112 #[.slice (some ⟨g,o + 1 + 1,none⟩) m c] W fun e w' => TargetsRetS W ((xs.drop 2).map placeO) e w'):=fun W hW => by
  have hN:NamesAt W (.slice (some ⟨g,o + 1 + 1,none⟩) m c) (xs.drop 2):=by
   refine ⟨_,_,by rw [hdl],by omega,by unfold maxLen at hm ⊢;omega,fun k hk => ⟨g,o + 1 + 1,rfl,by rw [hW.heap];exact hg,?_⟩⟩
   have:=hcell (k + 2) (by omega)
   rw [List.getElem_drop]
   rw [cell_blk (w:=w) (by rw [hW.heap]),show o + 1 + 1 + k = o + (k + 2) by omega,this]
   congr 2
   simp [Nat.add_comm]
  exact (targetsOf_any (xs.drop 2) _ W hN (fun y hy => hx y (List.mem_of_mem_drop hy)) (by omega)).mono fun _ _ h => h.slice
 have hpc:((m + 2:Nat):Int) ≤ ((c + 2:Nat):Int):=by omega
 have hmc:(m:Int) ≤ (c:Int):=by omega
 have hmi:(0:Int) < (m:Int):=by omega
 rw [hlm] at C ⊢
 clear hn hcell h0 h1 hx0 hx1 hx hdl
 unfold maxLen at hm
 generalize (xs.drop 2).map placeO = ds at *
 go_enter Tryz.func78,Tryz.ntmps78
 go_wp2_with (go_at_call 111;refine C.mono ?_;rintro e w1 ⟨rfl,hw1⟩;cases hw1)
 go_quiet (fail)
 go_wp2_with fail
 go_cut [2] (fun v wc => QRet w (qnOf xs) (.returned v) wc)
 case first =>
  go_region_with (go_at_call 112;refine (CT.out _ ?_).mono ?_;exact ⟨rfl,rfl,rfl,rfl⟩;rintro e w2 ⟨hb2,ao2,n2,c2,rfl,hv2⟩;have c1b:w2.cell? ⟨g,o + 1,none⟩ = some (SV x):=(hb2.cell (p:=⟨g,o + 1,none⟩) hg).trans c1)
  all_goals
   go_wp2_with fail
   go_meet
   case rel =>
    rw [HQ.out]
    exact ⟨(below_drewN (Below.refl _ _) _).trans hb2,_,rfl,_,_,_,rfl,by exact hv2⟩
 case rest =>
  have R:Hid _:=hcut
  obtain ⟨t,cs,ht⟩ : ∃ t cs,u2 = .iface t (.agg cs):=by
   rw [HQ.out] at hcut
   obtain ⟨_,v,e,hq⟩:=hcut
   obtain ⟨t,cs,h⟩:=hq.iface
   exact ⟨t,cs,(Ending.returned.inj e).trans h⟩
  subst ht
  clear hcut
  go_wp2
  go_ret
  exact R.out
theorem questionOf_any (xs:List Str) (nv:Value) (w:World) (hn:NamesAt w nv xs) (hne:xs ≠ []) (hl:xs.length ≤ 1000) (hx:∀ x ∈ xs,x.length ≤ 1000) (hmx:MaxOk w) :
  Calls Tryz.prog 78 #[nv] w fun e w' => QRet w (qnOf xs) e w':=by
 cases h0:xs.any (· == [])
 ·by_cases h1:xs.headD [] = kFirst∧2 < xs.length
  ·exact questionOf_first xs nv w hn hl h0 h1.1 h1.2 hx
  ·by_cases h2:xs.length = 2
   ·match xs,h2 with
    | [k,p],_ =>
     have hp:=hx p (by simp)
     by_cases k1:k = kExists
     ·subst k1;exact questionOf_exists p nv w hn h0 hp
     ·by_cases k2:k = kList
      ·subst k2;exact questionOf_list p nv w hn h0 hp
      ·by_cases k3:k = kRead
       ·subst k3;exact questionOf_read p nv w hn h0 hp
       ·by_cases k4:k = kGlob
        ·subst k4;exact questionOf_glob p nv w hn h0 hp hmx
        ·exact questionOf_no2 k p nv w hn h0 (by simpa using k1) (by simpa using k2) (by simpa using k3) (by simpa using k4)
   ·exact questionOf_other xs nv w hn hne hl h0 h1 h2
 ·exact questionOf_empty xs nv w hn hl h0

open Go.RowKit
theorem Tryz.faultEx (u : Value) (w : World) : (method 401 166 (.agg #[u]) "canopy/canopy.fault").run Tryz.prog w = .ok (216, .agg #[u]) w := by kernel_rfl
theorem Tryz.faultLi (u : Value) (w : World) : (method 401 168 (.agg #[u]) "canopy/canopy.fault").run Tryz.prog w = .ok (216, .agg #[u]) w := by kernel_rfl
theorem Tryz.faultRe (u : Value) (w : World) : (method 401 169 (.agg #[u]) "canopy/canopy.fault").run Tryz.prog w = .ok (216, .agg #[u]) w := by kernel_rfl
theorem Tryz.faultGl (u : Value) (w : World) : (method 401 171 (.agg #[u]) "canopy/canopy.fault").run Tryz.prog w = .ok (217, .agg #[u]) w := by kernel_rfl
theorem Tryz.faultFi (x u : Value) (w : World) : (method 401 174 (.agg #[x, u]) "canopy/canopy.fault").run Tryz.prog w = .ok (218, .agg #[x, u]) w := by kernel_rfl
def FaultRet (w:World) (n:Nat) (e:Ending) (w' : World):Prop:=e = .returned (.int .i64 (n:Int))∧Below w.heap.size w w'
set_option maxHeartbeats 1000000 in
set_option maxRecDepth 50000 in
theorem targetFault_any (base:Nat) (o:Option (List Str)) (ao:Option Addr) (n c:Nat) (w:World) (h:NamesO base w (.slice ao n c) o) :
  Calls Tryz.prog 216 #[.agg #[.slice ao n c]] w fun e w' => FaultRet w (faultO 3 o) e w':=by
 have hb1:Hid (Below w.heap.size w (w.alloc (.cells #[.slice ao n c] 164))):=(Below.refl _ _).alloc (Nat.le_refl _) _
 cases o with
 | none =>
  obtain ⟨rfl,rfl,rfl⟩ : ao = none∧n = 0∧c = 0:=by simpa [NamesO] using h
  have s:=slice_none
  clear h
  go_enter Tryz.func216,Tryz.ntmps216
  go_wp2
  go_ret
  exact ⟨rfl,hb1.out⟩
 | some xs =>
  obtain ⟨g,n',c',e,_⟩:=h
  simp only [Value.slice.injEq] at e
  obtain ⟨rfl,rfl,rfl⟩:=e
  have s:=slice_some
  go_enter Tryz.func216,Tryz.ntmps216
  go_wp2
  go_ret
  exact ⟨rfl,hb1.out⟩
set_option maxHeartbeats 1000000 in
set_option maxRecDepth 50000 in
theorem globFault_any (base:Nat) (o:Option (List Str)) (ao:Option Addr) (n c:Nat) (w:World) (h:NamesO base w (.slice ao n c) o) :
  Calls Tryz.prog 217 #[.agg #[.slice ao n c]] w fun e w' => FaultRet w (faultO 9 o) e w':=by
 have hb1:Hid (Below w.heap.size w (w.alloc (.cells #[.slice ao n c] 171))):=(Below.refl _ _).alloc (Nat.le_refl _) _
 cases o with
 | none =>
  obtain ⟨rfl,rfl,rfl⟩ : ao = none∧n = 0∧c = 0:=by simpa [NamesO] using h
  have s:=slice_none
  clear h
  go_enter Tryz.func217,Tryz.ntmps217
  go_wp2
  go_ret
  exact ⟨rfl,hb1.out⟩
 | some xs =>
  obtain ⟨g,n',c',e,_⟩:=h
  simp only [Value.slice.injEq] at e
  obtain ⟨rfl,rfl,rfl⟩:=e
  have s:=slice_some
  go_enter Tryz.func217,Tryz.ntmps217
  go_wp2
  go_ret
  exact ⟨rfl,hb1.out⟩
theorem targets_cells {base:Nat} {w:World} {ao:Option Addr} {n c:Nat} {ds:List (Option (List Str))} (h:TargetsAt base w (.slice ao n c) ds) :
  n = ds.length∧ds.length ≤ c∧c ≤ maxLen∧∀ k (hk:k < ds.length),∃ g ao' n' c',ao = some ⟨g,0,none⟩∧g < w.heap.size∧w.cell? ⟨g,k,none⟩ = some (.slice ao' n' c')∧NamesO base w (.slice ao' n' c') ds[k]:=by
 obtain ⟨us,h1,h2⟩:=h
 have hl:us.length = ds.length:=by have:=h1.1;omega
 rcases row_cells h1 with ⟨e,h3⟩ | ⟨g,cap,e,h4,_,h5,h6,h7⟩
 ·simp only [Value.slice.injEq] at e
  obtain ⟨rfl,rfl,rfl⟩:=e
  exact ⟨h3.symm,by omega,by unfold maxLen;omega,fun k hk => by omega⟩
 ·simp only [Value.slice.injEq] at e
  obtain ⟨rfl,rfl,rfl⟩:=e
  refine ⟨rfl,h5,h6,fun k hk => ?_⟩
  have hu:us[k]? = some (us[k]'(by omega)):=List.getElem?_eq_getElem (by omega)
  have h8:=(h2 k _ _ hu (List.getElem?_eq_getElem hk)).1
  obtain ⟨ao',n',c',e⟩:=h8.form
  exact ⟨g,ao',n',c',rfl,h4,(h7 k _ hu).trans (by rw [e]),by rw [← e];exact h8⟩
theorem fault_no {x:Str} {ds:List (Option (List Str))} (h:isNameL x false = false):faultQ (.fi x ds) = 3:=by simp [faultQ,h]
theorem fault_bad {x:Str} {ds:List (Option (List Str))} {k:Nat} (h:isNameL x false = true) (hk:k < ds.length) (hn:ds[k] = none):faultQ (.fi x ds) = 3:=by
 have:ds.all (·.isSome) = false:=List.all_eq_false.2 ⟨_,List.getElem_mem hk,by rw [hn];simp⟩
 simp only [faultQ,h,this];rfl
theorem fault_fine {x:Str} {ds:List (Option (List Str))} (h:isNameL x false = true) (hk:∀ k (h:k < ds.length),ds[k] ≠ none):faultQ (.fi x ds) = 0:=by
 have:ds.all (·.isSome) = true:=List.all_eq_true.2 fun o ho => by
  obtain ⟨j,hj,rfl⟩:=List.getElem_of_mem ho
  cases e:ds[j] with
  | none => exact absurd e (hk j hj)
  | some y => rfl
 simp only [faultQ,h,this];rfl
set_option maxHeartbeats 4000000 in
set_option maxRecDepth 50000 in
theorem firstFault_any (base:Nat) (x:Str) (ds:List (Option (List Str))) (ao:Option Addr) (n c:Nat) (w:World) (hx:x.length ≤ maxLen) (h:TargetsAt base w (.slice ao n c) ds) :
  Calls Tryz.prog 218 #[.agg #[SV x,.slice ao n c]] w fun e w' => FaultRet w (faultQ (.fi x ds)) e w':=by
 obtain ⟨w1,hw1⟩ : ∃ w1:World,w1 = w.alloc (.cells #[SV x,.slice ao n c] 174):=⟨_,rfl⟩
 have hb1:Below w.heap.size w w1:=by rw [hw1];exact (Below.refl _ _).alloc (Nat.le_refl _) _
 have hn1:w1.heap[w.heap.size]? = some (.cells #[SV x,.slice ao n c] 174 (0,0)):=by rw [hw1];exact heap_alloc_new _ _
 have C:=prgIsName_any x w1 hx
 have q0:w1.cell? ⟨w.heap.size,0,none⟩ = some (SV x):=(blk_cell hn1 0).trans rfl
 have q1:w1.cell? ⟨w.heap.size,1,none⟩ = some (.slice ao n c):=(blk_cell hn1 1).trans rfl
 obtain ⟨rfl,hc,hm,hcell⟩:=targets_cells (h.below hb1)
 have HC:Hid _:=hcell
 have HB1:Hid _:=hb1
 have HW1:Hid _:=hw1
 clear hcell h hb1 hw1 hn1
 unfold maxLen at hm
 cases hn:isNameL x false
 ·have R:Hid (FaultRet w (faultQ (.fi x ds)) (.returned (.int .i64 3)) w1):=by rw [Hid,fault_no hn];exact ⟨rfl,HB1.out⟩
  rw [hn] at C
  go_enter Tryz.func218,Tryz.ntmps218
  go_wp2_with fail
  rw [← HW1.out]
  refine C.mono ?_
  rintro e w2 ⟨rfl,hw2⟩
  cases hw2
  go_wp2
  go_ret
  exact R.out
 ·have FB:Hid (∀ k (hk:k < ds.length),ds[k] = none→faultQ (.fi x ds) = 3):=fun k hk h => fault_bad hn hk h
  have FF:Hid ((∀ k (hk:k < ds.length),ds[k] ≠ none)→faultQ (.fi x ds) = 0):=fun h => fault_fine hn h
  rw [hn] at C
  go_enter Tryz.func218,Tryz.ntmps218
  go_wp2_with fail
  rw [← HW1.out]
  refine C.mono ?_
  rintro e w2 ⟨rfl,hw2⟩
  cases hw2
  clear HW1 C
  go_wp2
  go_loopw [13] (fun i wr => ∃ k:Nat,k ≤ ds.length∧i = .int .i64 k∧Below w1.heap.size w1 wr∧∀ j (hj:j < ds.length),j < k→ds[j] ≠ none) (fun i _ => ds.length - (intOf i).toNat)
  case atStart => exact ⟨0,Nat.zero_le _,rfl,Below.refl _ _,fun j _ h => by omega⟩
  case round =>
   obtain ⟨k,hk,rfl,hb,hall⟩:=hrel
   clear q0 q1
   by_cases hlt:k < ds.length
   ·obtain ⟨g,ao',n',c',rfl,hg,ck,hN⟩:=HC.out k hlt
    have ckr:wr.cell? ⟨g,k,none⟩ = some (.slice ao' n' c'):=(hb.cell (p:=⟨g,k,none⟩) hg).trans ck
    have hki:(k:Int) < (ds.length:Int):=by omega
    have HA:Hid _:=hall
    have HB:Hid _:=hb
    have CT:Hid (∀ W,Below w1.heap.size w1 W→Calls Tryz.prog 216 #[.agg #[.slice ao' n' c']] W fun e w' => FaultRet W (faultO 3 ds[k]) e w'):=fun W hW => targetFault_any base ds[k] ao' n' c' W (hN.below hW)
    clear ck hN hall hb
    go_wp2_with fail
    have hba:Below wr.heap.size wr (wr.alloc (.cells #[.slice ao' n' c'] 164)):=(Below.refl _ _).alloc (Nat.le_refl _) _
    have hba1:Below w1.heap.size w1 (wr.alloc (.cells #[.slice ao' n' c'] 164)):=HB.out.trans (hba.mono HB.out.size)
    refine (CT.out _ hba1).mono ?_
    rintro e w3 ⟨rfl,hb3⟩
    have HB3:Hid (Below w1.heap.size w1 w3):=hba1.trans (hb3.mono hba1.size)
    clear hb3 hba hba1 CT ckr
    cases hd:ds[k] with
    | none =>
     have R:Hid (FaultRet w (faultQ (.fi x ds)) (.returned (.int .i64 3)) w3):=by rw [Hid,FB.out k hlt hd];exact ⟨rfl,HB1.out.trans (HB3.out.mono HB1.out.size)⟩
     rw [show faultO 3 (none:Option (List Str)) = 3 from rfl]
     clear HA FB FF
     go_wp2
     go_ret
     exact R.out
    | some y =>
     rw [show faultO 3 (some y) = 0 from rfl]
     have R:Hid (∀ j (hj:j < ds.length),j < k + 1→ds[j] ≠ none):=fun j hj hjk => by
      by_cases e:j = k
      ·subst e;rw [hd];simp
      ·exact HA.out j hj (by omega)
     clear HA FB FF
     go_wp2
     go_roundw
     case rel => exact ⟨k + 1,by omega,by go_num,HB3.out,R.out⟩
     case measure => simp [intOf];omega
   ·have hki:¬ (k:Int) < (ds.length:Int):=by omega
    have R:Hid (FaultRet w (faultQ (.fi x ds)) (.returned (.int .i64 0)) wr):=by rw [Hid,FF.out (fun j hj => hall j hj (by omega))];exact ⟨rfl,HB1.out.trans (hb.mono HB1.out.size)⟩
    clear hall hb FF FB
    go_wp2
    go_ret
    exact R.out

open Go.RowKit
theorem qface_some (k:Nat) (x:Value) (w:World):(binOp .eql 114 (.iface k x) .nilIface).run Tryz.prog w = .ok (.bool false) w:=by
 have h:(Op.equalIn 10000 114 (.iface k x) .nilIface).run Tryz.prog w = .ok false w:=by
  rw [show (10000:Nat) = 9999 + 1 from rfl,Op.equalIn];simp only [Sem.run_bind,run_underlying Tryz.underlying114,Result.andThen_ok];rfl
 simp only [binOp]
 simp [Op.equal,Op.maxDepth,h]
theorem qface_none (w:World):(binOp .eql 114 .nilIface .nilIface).run Tryz.prog w = .ok (.bool true) w:=by
 have h:(Op.equalIn 10000 114 .nilIface .nilIface).run Tryz.prog w = .ok true w:=by
  rw [show (10000:Nat) = 9999 + 1 from rfl,Op.equalIn];simp only [Sem.run_bind,run_underlying Tryz.underlying114,Result.andThen_ok];rfl
 simp only [binOp]
 simp [Op.equal,Op.maxDepth,h]
theorem fault_three {x:Str} {ds:List (Option (List Str))} (h:faultQ (.fi x ds) ≠ 0):faultQ (.fi x ds) = 3:=by
 rw [faultQ] at h ⊢
 cases h1:isNameL x false
 ·rfl
 ·rw [h1] at h
  cases h2:ds.all (·.isSome)
  ·rfl
  ·rw [h2] at h;exact absurd rfl h
def ParseOut (w:World) (t:Str) (e:Ending) (w' : World):Prop :=
 Below w.heap.size w w'∧((checkL t ≠ 0∧e = .returned (.tuple #[.nilIface,.int .i64 (checkL t:Nat)])) ∨
  (checkL t = 0∧∃ v q,e = .returned (.tuple #[v,.int .i64 0])∧qnOf (splitL 32 t) = some q∧faultQ q = 0∧QAt w.heap.size w' v q))
theorem ParseOut.bad {w w' : World} {t:Str} {n:Nat} (hb:Below w.heap.size w w') (h:checkL t = n) (hn:n ≠ 0):ParseOut w t (.returned (.tuple #[.nilIface,.int .i64 n])) w':=⟨hb,.inl ⟨by omega,by rw [h]⟩⟩
theorem check_parse {t:Str} (h:t.length ≤ 60):checkL t = parseW (splitL 32 t):=by
 rw [parse_check _ (splitL_ne 32 t),checkL,if_neg (by omega)]
theorem check_none {t:Str} (h:t.length ≤ 60) (hq:qnOf (splitL 32 t) = none):checkL t = 10:=by rw [check_parse h,parseW,hq]
theorem check_some {t:Str} {q:Qn} (h:t.length ≤ 60) (hq:qnOf (splitL 32 t) = some q):checkL t = faultQ q:=by rw [check_parse h,parseW,hq]
theorem TargetsAt.mono {base base' : Nat} {w:World} {v:Value} {ds:List (Option (List Str))} (h:TargetsAt base w v ds) (hb:base' ≤ base):TargetsAt base' w v ds:=by
 obtain ⟨us,h1,h2⟩:=h
 exact ⟨us,ownsRow_le h1 hb,fun k u d hu hd => ⟨(h2 k u d hu hd).1.mono hb,(h2 k u d hu hd).2⟩⟩
theorem QAt.mono {base base' : Nat} {w:World} {v:Value} {q:Qn} (h:QAt base w v q) (hb:base' ≤ base):QAt base' w v q:=by
 cases q with
 | fi x ds => obtain ⟨ao,n,c,h1,h2⟩:=h;exact ⟨ao,n,c,h1,h2.mono hb⟩
 | _ => obtain ⟨ao,n,c,h1,h2⟩:=h;exact ⟨ao,n,c,h1,h2.mono hb⟩
theorem parse_end {w w2 w3:World} {t:Str} {q:Qn} {v:Value} (h60:t.length ≤ 60) (hq:qnOf (splitL 32 t) = some q) (hb2:Below w.heap.size w w2) (hv:QAt w.heap.size w2 v q) (hb3:Below w2.heap.size w2 w3) :
  (faultQ q = 0→ParseOut w t (.returned (.tuple #[v,.int .i64 0])) w3)∧(∀ n:Nat,faultQ q = n→n ≠ 0→ParseOut w t (.returned (.tuple #[.nilIface,.int .i64 n])) w3):=by
 have hb:=hb2.trans (hb3.mono hb2.size)
 refine ⟨fun h => ⟨hb,.inr ⟨by rw [check_some h60 hq,h],v,q,rfl,hq,h,hv.below hb3⟩⟩,fun n h hn => ParseOut.bad hb (by rw [check_some h60 hq,h]) hn⟩
set_option maxHeartbeats 4000000 in
set_option maxRecDepth 50000 in
theorem parse_any (t:Str) (w:World) (hmx:MaxOk w) :
  Calls Tryz.prog 52 #[SV t] w fun e w' => ParseOut w t e w':=by
 by_cases h60:60 < t.length
 ·have R:Hid (ParseOut w t (.returned (.tuple #[.nilIface,.int .i64 (4:Nat)])) w):=ParseOut.bad (Below.refl _ _) (by unfold checkL;rw [if_pos h60]) (by decide)
  have h60i:(60:Int) < (t.length:Int):=by omega
  go_enter Tryz.func52,Tryz.ntmps52
  go_wp2
  go_ret2
  exact R.out
 have h60i:¬ (60:Int) < (t.length:Int):=by omega
 have h60l:t.length ≤ 60:=by omega
 go_enter Tryz.func52,Tryz.ntmps52
 go_wp2_with fail
 refine (prgSplit_any t 32 w (by omega)).mono ?_
 rintro e w1 ⟨v1,rfl,hown1,hb1⟩
 obtain ⟨hx,hn⟩:=words_ok h60l
 have CQ:=questionOf_any (splitL 32 t) v1 w1 (names_of_row hown1) (splitL_ne 32 t) hn (fun x h => by have:=hx x h;omega) (hmx.later hb1)
 obtain ⟨ao1,cap1,rfl⟩:=row_form hown1
 have HB1:Hid _:=hb1
 clear hown1 hx hn hb1
 go_wp2_with fail
 refine CQ.mono ?_
 rintro e w2 ⟨hb2,hq⟩
 have HB2:Hid (Below w.heap.size w w2):=HB1.out.trans (hb2.mono HB1.out.size)
 clear CQ
 cases hqn:qnOf (splitL 32 t) with
 | none =>
  rw [hqn] at hq
  obtain rfl:=hq
  have R:Hid (ParseOut w t (.returned (.tuple #[.nilIface,.int .i64 (10:Nat)])) w2):=ParseOut.bad HB2.out (check_none h60l hqn) (by decide)
  have hs:=qface_none
  clear hb2 hqn HB1 HB2
  go_wp2
  go_ret2
  exact R.out
 | some q =>
  rw [hqn] at hq
  obtain ⟨v,rfl,hv1⟩:=hq
  have hv:QAt w.heap.size w2 v q:=hv1.mono HB1.out.size
  have PE:Hid (∀ w3,Below w2.heap.size w2 w3→(faultQ q = 0→ParseOut w t (.returned (.tuple #[v,.int .i64 0])) w3)∧(∀ n:Nat,faultQ q = n→n ≠ 0→ParseOut w t (.returned (.tuple #[.nilIface,.int .i64 n])) w3)):=fun w3 hb3 => parse_end h60l hqn HB2.out hv hb3
  have hq60:Hid (∀ x ds,q = .fi x ds→x.length ≤ 60):=fun x ds e => by
   subst e
   unfold qnOf at hqn
   split at hqn
   ·simp at hqn
   ·split at hqn
    ·simp only [Option.some.injEq,Qn.fi.injEq] at hqn
     rw [← hqn.1]
     cases hg:(splitL 32 t)[1]? with
     | none => simp [hg]
     | some y =>
      have:=splitL_piece 32 t y (List.mem_of_getElem? hg)
      simp [hg];omega
    ·split at hqn
     ·simp at hqn
     ·split at hqn
      ·simp at hqn
      ·split at hqn
       ·simp at hqn
       ·split at hqn
        ·simp at hqn
        ·split at hqn
         ·simp at hqn
         ·simp at hqn
  clear hv1 hqn hb2 HB1
  cases q with
  | ex o =>
   obtain ⟨ao,n,c,rfl,hN⟩:=hv
   have CF:=targetFault_any _ o ao n c w2 hN
   have hm:=Tryz.faultEx
   have hs:=qface_some
   clear hN HB2
   cases o with
   | none =>
    rw [show faultO 3 (none:Option (List Str)) = 3 from rfl] at CF
    go_wp2_with fail
    refine CF.mono ?_
    rintro e w3 ⟨rfl,hb3⟩
    have R:Hid _:=(PE.out w3 hb3).2 3 rfl (by decide)
    clear hb3 CF PE hm
    go_wp2
    go_ret2
    exact R.out
   | some xs =>
    rw [show faultO 3 (some xs) = 0 from rfl] at CF
    go_wp2_with fail
    refine CF.mono ?_
    rintro e w3 ⟨rfl,hb3⟩
    have R:Hid _:=(PE.out w3 hb3).1 rfl
    clear hb3 CF PE hm
    go_wp2
    go_ret2
    exact R.out
  | li o =>
   obtain ⟨ao,n,c,rfl,hN⟩:=hv
   have CF:=targetFault_any _ o ao n c w2 hN
   have hm:=Tryz.faultLi
   have hs:=qface_some
   clear hN HB2
   cases o with
   | none =>
    rw [show faultO 3 (none:Option (List Str)) = 3 from rfl] at CF
    go_wp2_with fail
    refine CF.mono ?_
    rintro e w3 ⟨rfl,hb3⟩
    have R:Hid _:=(PE.out w3 hb3).2 3 rfl (by decide)
    clear hb3 CF PE hm
    go_wp2
    go_ret2
    exact R.out
   | some xs =>
    rw [show faultO 3 (some xs) = 0 from rfl] at CF
    go_wp2_with fail
    refine CF.mono ?_
    rintro e w3 ⟨rfl,hb3⟩
    have R:Hid _:=(PE.out w3 hb3).1 rfl
    clear hb3 CF PE hm
    go_wp2
    go_ret2
    exact R.out
  | re o =>
   obtain ⟨ao,n,c,rfl,hN⟩:=hv
   have CF:=targetFault_any _ o ao n c w2 hN
   have hm:=Tryz.faultRe
   have hs:=qface_some
   clear hN HB2
   cases o with
   | none =>
    rw [show faultO 3 (none:Option (List Str)) = 3 from rfl] at CF
    go_wp2_with fail
    refine CF.mono ?_
    rintro e w3 ⟨rfl,hb3⟩
    have R:Hid _:=(PE.out w3 hb3).2 3 rfl (by decide)
    clear hb3 CF PE hm
    go_wp2
    go_ret2
    exact R.out
   | some xs =>
    rw [show faultO 3 (some xs) = 0 from rfl] at CF
    go_wp2_with fail
    refine CF.mono ?_
    rintro e w3 ⟨rfl,hb3⟩
    have R:Hid _:=(PE.out w3 hb3).1 rfl
    clear hb3 CF PE hm
    go_wp2
    go_ret2
    exact R.out
  | gl o =>
   obtain ⟨ao,n,c,rfl,hN⟩:=hv
   have CF:=globFault_any _ o ao n c w2 hN
   have hm:=Tryz.faultGl
   have hs:=qface_some
   clear hN HB2
   cases o with
   | none =>
    rw [show faultO 9 (none:Option (List Str)) = 9 from rfl] at CF
    go_wp2_with fail
    refine CF.mono ?_
    rintro e w3 ⟨rfl,hb3⟩
    have R:Hid _:=(PE.out w3 hb3).2 9 rfl (by decide)
    clear hb3 CF PE hm
    go_wp2
    go_ret2
    exact R.out
   | some xs =>
    rw [show faultO 9 (some xs) = 0 from rfl] at CF
    go_wp2_with fail
    refine CF.mono ?_
    rintro e w3 ⟨rfl,hb3⟩
    have R:Hid _:=(PE.out w3 hb3).1 rfl
    clear hb3 CF PE hm
    go_wp2
    go_ret2
    exact R.out
  | fi x ds =>
   obtain ⟨ao,n,c,rfl,hN⟩:=hv
   have CF:=firstFault_any _ x ds ao n c w2 (by have:=hq60.out x ds rfl;unfold maxLen;omega) hN
   have hm:=Tryz.faultFi
   have hs:=qface_some
   clear hN HB2
   by_cases hf:faultQ (.fi x ds) = 0
   ·rw [hf] at CF
    go_wp2_with fail
    refine CF.mono ?_
    rintro e w3 ⟨rfl,hb3⟩
    have R:Hid _:=(PE.out w3 hb3).1 hf
    clear hb3 CF PE hm
    go_wp2
    go_ret2
    exact R.out
   ·have hf3:faultQ (.fi x ds) = 3:=fault_three hf
    rw [hf3] at CF
    go_wp2_with fail
    refine CF.mono ?_
    rintro e w3 ⟨rfl,hb3⟩
    have R:Hid _:=(PE.out w3 hb3).2 3 hf3 (by decide)
    clear hb3 CF PE hm
    go_wp2
    go_ret2
    exact R.out

open Go.RowKit
theorem names_from {base:Nat} {W w:World} {v:Value} {o:Option (List Str)} (h:NamesO base W v o) (hs:W.heap.size ≤ w.heap.size) (hb:∀ k,base ≤ k→k < W.heap.size→w.heap[k]? = W.heap[k]?):NamesO base w v o :=
 h.frame hs fun j hj => hb j (h.lt hj).1 (h.lt hj).2
theorem targets_from {base:Nat} {W w:World} {v:Value} {ds:List (Option (List Str))} (h:TargetsAt base W v ds) (hs:W.heap.size ≤ w.heap.size) (hb:∀ k,base ≤ k→k < W.heap.size→w.heap[k]? = W.heap[k]?):TargetsAt base w v ds:=by
 obtain ⟨us,h1,h2⟩:=h
 exact ⟨us,rowKept h1 (fun k hk => hb k (h1.lt k hk).1 (h1.lt k hk).2),fun k u d hu hd => ⟨names_from (h2 k u d hu hd).1 hs hb,(h2 k u d hu hd).2⟩⟩
theorem q_from {base:Nat} {W w:World} {v:Value} {q:Qn} (h:QAt base W v q) (hs:W.heap.size ≤ w.heap.size) (hb:∀ k,base ≤ k→k < W.heap.size→w.heap[k]? = W.heap[k]?):QAt base w v q:=by
 cases q with
 | fi x ds => obtain ⟨ao,n,c,h1,h2⟩:=h;exact ⟨ao,n,c,h1,targets_from h2 hs hb⟩
 | _ => obtain ⟨ao,n,c,h1,h2⟩:=h;exact ⟨ao,n,c,h1,names_from h2 hs hb⟩
def QIn (lo hi:Nat) (w:World) (u:Value) (q:Qn):Prop:=hi ≤ w.heap.size∧∃ W:World,W.heap.size = hi∧QAt lo W u q∧∀ k,lo ≤ k→k < hi→w.heap[k]? = W.heap[k]?
theorem QIn.at' {lo hi:Nat} {w:World} {u:Value} {q:Qn} (h:QIn lo hi w u q):QAt lo w u q:=by
 obtain ⟨h1,W,rfl,h2,h3⟩:=h
 exact q_from h2 h1 h3
theorem QIn.keep {lo hi:Nat} {w w' : World} {u:Value} {q:Qn} (h:QIn lo hi w u q) (hs:w.heap.size ≤ w'.heap.size) (hb:∀ k,lo ≤ k→k < hi→w'.heap[k]? = w.heap[k]?):QIn lo hi w' u q:=by
 obtain ⟨h1,W,h2,h3,h4⟩:=h
 exact ⟨by omega,W,h2,h3,fun k h5 h6 => (hb k h5 h6).trans (h4 k h5 h6)⟩
theorem QIn.of {lo:Nat} {w:World} {u:Value} {q:Qn} (h:QAt lo w u q):QIn lo w.heap.size w u q:=⟨Nat.le_refl _,w,rfl,h,fun _ _ _ => rfl⟩
def QsAt (base:Nat) (w:World) (v:Value) (qs:List Qn):Prop :=
 ∃ us:List Value,w.ownsRow base 114 1 v qs.length us∧∀ (k:Nat) u q,us[k]? = some u→qs[k]? = some q→∃ lo hi,base ≤ lo∧QIn lo hi w u q∧∀ j,v.ownBlock = some j→¬ (lo ≤ j∧j < hi)
theorem QsAt.nil (base:Nat) (w:World):QsAt base w (.slice none 0 0) []:=⟨[],World.ownsRow_nil _ _ _ _,fun k u d h => by simp at h⟩
theorem QsAt.keep {base:Nat} {w w' : World} {v:Value} {qs:List Qn} (h:QsAt base w v qs) (hs:w.heap.size ≤ w'.heap.size) (hb:∀ k,base ≤ k→k < w.heap.size→w'.heap[k]? = w.heap[k]?):QsAt base w' v qs:=by
 obtain ⟨us,h1,h2⟩:=h
 refine ⟨us,rowKept h1 (fun k hk => hb k (h1.lt k hk).1 (h1.lt k hk).2),fun k u q hu hq => ?_⟩
 obtain ⟨lo,hi,h3,h4,h5⟩:=h2 k u q hu hq
 exact ⟨lo,hi,h3,h4.keep hs (fun k h6 h7 => hb k (by omega) (by have:=h4.1;omega)),h5⟩
theorem QsAt.push {base:Nat} {w w1 w2:World} {v v' u:Value} {us:List Value} {qs:List Qn} {q:Qn} (h1:w.ownsRow base 114 1 v qs.length us) (h2:∀ (k:Nat) u q,us[k]? = some u→qs[k]? = some q→∃ lo hi,base ≤ lo∧QIn lo hi w u q∧∀ j,v.ownBlock = some j→¬ (lo ≤ j∧j < hi)) (hbase:base ≤ w.heap.size) (hb:Below w.heap.size w w1) (hu:QAt w.heap.size w1 u q)
  (hrow:w2.ownsRow base 114 1 v' (qs.length + 1) (us ++ [u])) (hg:w1.grownBy w2 v.ownBlock) (hm:Moved w1 v v'):QsAt base w2 v' (qs ++ [q]):=by
 have hl:us.length = qs.length:=by have:=h1.1;omega
 have hvl:∀ k,v.ownBlock = some k→k < w.heap.size:=fun k hk => (h1.lt k hk).2
 refine ⟨us ++ [u],by rw [List.length_append];exact hrow,?_⟩
 intro k x y hx hy
 by_cases hk:k < us.length
 ·rw [List.getElem?_append_left hk] at hx
  rw [List.getElem?_append_left (by omega)] at hy
  obtain ⟨lo,hi,h3,h4,h5⟩:=h2 k x y hx hy
  have h41:=h4.1
  refine ⟨lo,hi,h3,(h4.keep hb.size (fun j _ h7 => hb.block j (by omega))).keep hg.size (fun j h6 h7 => hg.block j (by have:=hb.size;omega) (fun e => h5 j e.symm ⟨h6,h7⟩)),fun j hj => ?_⟩
  rcases hm j hj with h6 | h6
  ·exact h5 j h6
  ·have:=hb.size;omega
 ·have hke:k = us.length:=by
   have:=(List.getElem?_eq_some_iff.1 hx).1
   simp at this;omega
  subst hke
  rw [List.getElem?_append_right (Nat.le_refl _)] at hx
  rw [hl,List.getElem?_append_right (Nat.le_refl _)] at hy
  simp at hx hy
  subst hx hy
  refine ⟨w.heap.size,w1.heap.size,hbase,(QIn.of hu).keep hg.size (fun j h6 h7 => hg.block j h7 (fun e => by have:=hvl j e.symm;omega)),fun j hj => ?_⟩
  rcases hm j hj with h6 | h6
  ·have:=hvl j h6;omega
  ·omega
def checkAll:List Str→Nat
 | [] => 0
 | x :: r => if checkL x = 0 then checkAll r else checkL x
theorem checkAll_bad {xs:List Str} {k:Nat} (hk:k < xs.length) (h:∀ j (hj:j < k),checkL (xs[j]'(by omega)) = 0) (hb:checkL xs[k] ≠ 0):checkAll xs = checkL xs[k]:=by
 induction xs generalizing k with
 | nil => simp at hk
 | cons x r ih =>
  cases k with
  | zero =>
   rw [checkAll]
   rw [if_neg (by simpa using hb)]
   rfl
  | succ k =>
   have h0:=h 0 (by omega)
   rw [checkAll,if_pos (by simpa using h0)]
   exact ih (k:=k) (by simpa using hk) (fun j hj => by simpa using h (j + 1) (by omega)) (by simpa using hb)
theorem checkAll_ok {xs:List Str} (h:∀ x ∈ xs,checkL x = 0):checkAll xs = 0:=by
 induction xs with
 | nil => rfl
 | cons x r ih => rw [checkAll,if_pos (h x (by simp)),ih fun y hy => h y (by simp [hy])]
def QnsOf (xs:List Str) (qs:List Qn):Prop:=qs.map some = xs.map (fun x => qnOf (splitL 32 x))∧∀ q ∈ qs,faultQ q = 0
def ParseAllOut (w:World) (xs:List Str) (e:Ending) (w' : World):Prop :=
 Below w.heap.size w w'∧((checkAll xs ≠ 0∧e = .returned (.tuple #[.slice none 0 0,.int .i64 (checkAll xs:Nat)])) ∨
  (checkAll xs = 0∧(∀ x ∈ xs,checkL x = 0)∧∃ v qs,e = .returned (.tuple #[v,.int .i64 0])∧QnsOf xs qs∧QsAt w.heap.size w' v qs))
end Go.Proofs.YtdcbgfhkfmohiaaGreatDoor
