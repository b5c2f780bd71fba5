/- The document's answers to questions, by the tree. No program. -/
import Derived.Test.YtdcbgfhkfmohiaaGreatDoorAl06
import Derived.Test.YtdcbgfhkfmohiaaGreatDoorAl10
import Derived.Test.YtdcbgfhkfmohiaaGreatDoorAl31
import Derived.Test.YtdcbgfhkfmohiaaGreatDoorAl33
import Derived.Test.YtdcbgfhkfmohiaaGreatDoorAl35
import Derived.Test.YtdcbgfhkfmohiaaGreatDoorAl39
import Derived.Test.YtdcbgfhkfmohiaaGreatDoorAl40
import Derived.Test.YtdcbgfhkfmohiaaGreatDoorAl41
import Derived.Lib.Join
import Derived.Deep.RegionHeld3
namespace Go.Proofs.YtdcbgfhkfmohiaaGreatDoor
open Go.RowKit
def labE (e:Str × Tree):Str:=match e.2 with
 | .file _ => e.1
 | .dir _ => e.1 ++ [47]
theorem label_join {q:List Str} (h:OkN q):labelL (joinP q) = if 1 < q.length then q.headD [] ++ [47] else q.headD []:=by unfold labelL;rw [h.split]
theorem listF_same {l:List Fl} {i:Nat} {st:Str × Str} (h:∀ f ∈ l,labelL f.1 = st.2):listF i st l = st:=by
 induction l generalizing i with
 | nil => rfl
 | cons f l ih =>
  rw [listF,listStep,if_pos (by rw [h f (by simp)];simp)]
  exact ih fun g hg => h g (by simp [hg])
theorem listF_group {l:List Fl} {i:Nat} {st:Str × Str} {x:Str} (hne:l ≠ []) (h:∀ f ∈ l,labelL f.1 = x) (hx:x ≠ st.2):listF i st l = (st.1 ++ (sepI i ++ x),x):=by
 cases l with
 | nil => exact absurd rfl hne
 | cons f l =>
  have hf:=h f (by simp)
  rw [listF,listStep,if_neg (by rw [hf];simpa using hx),hf]
  exact listF_same fun g hg => h g (by simp [hg])
theorem files_some {t:Tree} (h:WFT t):filesT t ≠ []:=by
 obtain ⟨p,d,hp⟩:=WFT.some t h
 intro e
 have:=(mem_filesT t h p d).2 (sub_of_file hp)
 rw [e] at this;simp at this
theorem group_label {x:Str} {t:Tree} (hx:isNameL x false = true) (ht:WFT t):∀ f ∈ toF ((filesT t).map fun f => (x :: f.1,f.2)),labelL f.1 = labE (x,t):=by
 intro f hf
 simp only [toF,List.mem_map] at hf
 obtain ⟨g,⟨k,hk,rfl⟩,rfl⟩:=hf
 cases t with
 | file d =>
  simp only [filesT,List.mem_singleton] at hk
  subst hk
  rw [label_join ⟨by simp,by simp [hx]⟩]
  simp [labE]
 | dir es =>
  have hw:WFE es:=by unfold WFT at ht;exact ht.2
  have hk' : k ∈ filesE es:=by simpa [filesT] using hk
  have hv:=(valid_files hw).1 k hk'
  rw [label_join ⟨by simp,by intro y hy;simp only [List.mem_cons] at hy;rcases hy with rfl | hy;exact hx;exact hv.2 y hy⟩]
  have:0 < k.1.length:=List.length_pos_iff.2 hv.1
  rw [if_pos (by simp;omega)]
  rfl
theorem lab_ne {x y:Str} {t u:Tree} (hx:isNameL x false = true) (hy:isNameL y false = true) (h:x ≠ y):labE (x,t) ≠ labE (y,u):=by
 have fx:=(name_free hx).1
 have fy:=(name_free hy).1
 intro e
 unfold labE at e
 cases t <;> cases u
 ·exact h e
 ·simp only at e
  exact fx 47 (by rw [e];simp) rfl
 ·simp only at e
  exact fy 47 (by rw [← e];simp) rfl
 ·simp only at e
  exact h (List.append_cancel_right e)
theorem tail_cons (x:Str) (r:List Str):Lib.joinTail [32] (x :: r) = 32 :: x ++ Lib.joinTail [32] r:=by simp [Lib.joinTail]
theorem list_ents:∀ (es:Ents) (i:Nat) (st:Str × Str),WFE es→(∀ e ∈ es,labE e ≠ st.2)→(listF i st (toF (filesE es))).1 = st.1 ++ (if i = 0 then Lib.join (es.map labE) [32] else Lib.joinTail [32] (es.map labE))
 | [],i,st,_,_ => by
  simp only [filesE,toF,List.map_nil,listF]
  split <;> simp [Lib.join_nil,Lib.joinTail]
 | (x,t) :: es,i,st,hw,hl => by
  have hw':=hw
  unfold WFE at hw
  obtain ⟨hx,ht,hlt,hes⟩:=hw
  have hsp:toF (filesE ((x,t) :: es)) = toF ((filesT t).map fun f => (x :: f.1,f.2)) ++ toF (filesE es):=by simp [toF,filesE]
  have hne:toF ((filesT t).map fun f => (x :: f.1,f.2)) ≠ []:=by simpa [toF] using files_some ht
  rw [hsp,listF_app,listF_group hne (group_label hx ht) (hl _ (by simp))]
  have hk:0 < (toF ((filesT t).map fun f => (x :: f.1,f.2))).length:=List.length_pos_iff.2 hne
  rw [list_ents es _ _ hes (fun e he => by
   obtain ⟨y,u⟩:=e
   have hy:=(hes.mem _ he).1
   exact lab_ne hy hx (bl_ne (hlt _ he)).symm),if_neg (by omega)]
  simp only [List.map_cons]
  by_cases h0:i = 0
  ·subst h0
   rw [if_pos rfl,Lib.join_cons]
   simp [sepI]
  ·rw [if_neg h0,tail_cons]
   simp [sepI,h0]
theorem listed_ents {es:Ents} (h:WFE es):listedL (toF (filesE es)) = 58 :: Lib.join (es.map labE) [32]:=by
 unfold listedL
 rw [list_ents es 0 _ h (fun e he => by
  have hx:=(name_free (h.mem e he).1).2
  unfold labE
  cases e.2
  ·exact hx
  ·simp),if_pos rfl]
 rfl
theorem place_ok {p:Str} (h:isPlaceL p = true):p = [47]∨(p ≠ [47]∧isPathL p = true∧placeL p = splitL 47 p∧OkN (placeL p)∧joinP (placeL p) = p):=by
 by_cases hp:p = [47]
 ·exact .inl hp
 ·have h1:isPathL p = true:=by
   unfold isPlaceL at h
   simpa [hp] using h
  obtain ⟨h2,h3,_⟩:=path_ok h1
  have e:placeL p = splitL 47 p:=by unfold placeL;rw [if_neg hp]
  exact .inr ⟨hp,h1,e,by rw [e];exact h2,by rw [e];exact h3⟩
def kindT (es:Ents) (q:List Str):Str:=match look (some (.dir es)) q with
 | .atFile => fileT
 | .atDir => dirT
 | _ => noT
theorem kind_tree {es:Ents} {p:Str} (h:WFE es) (hp:isPlaceL p = true):kindL (toF (filesE es)) p = kindT es (placeL p):=by
 rcases place_ok hp with rfl | ⟨hne,_,_,hok,hj⟩
 ·unfold kindL kindT
  rw [if_neg (by have:=get_root h;omega),show placeL [47] = [] from rfl]
  rfl
 ·obtain ⟨h1,h2,_⟩:=look_names h hok
  rw [hj] at h1 h2
  unfold kindL kindT
  by_cases hf:0 ≤ getI (toF (filesE es)) p
  ·rw [if_pos hf,h1.2 (by omega)]
  ·rw [if_neg hf]
   have n1:look (some (.dir es)) (placeL p) ≠ .atFile:=fun e => hf (by have:=h1.1 e;omega)
   by_cases hd:isDirL (toF (filesE es)) p = true
   ·rw [if_pos hd,h2.2 hd]
   ·rw [if_neg hd]
    have n2:look (some (.dir es)) (placeL p) ≠ .atDir:=fun e => hd (h2.1 e)
    split
    ·rename_i e;exact absurd e n1
    ·rename_i e;exact absurd e n2
    ·rfl
theorem lookD:∀ (q:List Str) (t:Tree),look (some t) q = .atDir ↔ ∃ b,sub t q = some (.dir b)
 | [],t => by cases t <;> simp [look,sub]
 | x :: r,.file d => by simp [look,sub]
 | x :: r,.dir es => by
  rw [look,sub]
  cases h:findE es x with
  | none => simp [look]
  | some u => simpa using lookD r u
def listT (es:Ents) (q:List Str):Str:=match sub (.dir es) q with
 | some (.dir b) => 58 :: Lib.join (b.map labE) [32]
 | _ => noT
theorem list_tree {es:Ents} {p:Str} (h:WFE es) (hp:isPlaceL p = true):listL (toF (filesE es)) p = listT es (placeL p):=by
 rcases place_ok hp with rfl | ⟨hne,_,_,hok,hj⟩
 ·unfold listL listT
  rw [show placeL [47] = [] from rfl,show isDirL (toF (filesE es)) [47] = true from by simp [isDirL],if_pos rfl,in_root h,listed_ents h]
  rfl
 ·obtain ⟨_,h2,_⟩:=look_names h hok
  rw [hj] at h2
  unfold listL listT
  by_cases hd:isDirL (toF (filesE es)) p = true
  ·rw [if_pos hd]
   obtain ⟨b,hb⟩:=(lookD _ _).1 (h2.2 hd)
   obtain ⟨h3,h4⟩:=in_files h hok hb
   rw [hj] at h3
   rw [hb,h3,listed_ents h4]
  ·rw [if_neg hd]
   split
   ·rename_i b hb
    exact absurd (h2.1 ((lookD _ _).2 ⟨b,hb⟩)) hd
   ·rfl
def readT (es:Ents) (q:List Str):Str:=match sub (.dir es) q with
 | some (.file d) => 61 :: d
 | _ => noT
theorem read_tree {es:Ents} {p:Str} (h:WFE es) (hp:isPlaceL p = true):readL (toF (filesE es)) p = readT es (placeL p):=by
 rcases place_ok hp with rfl | ⟨hne,_,_,hok,hj⟩
 ·unfold readL readT
  rw [if_neg (by have:=get_root h;omega)]
  rfl
 ·have h1:=get_file h hok
  rw [hj] at h1
  unfold readL readT
  by_cases hf:0 ≤ getI (toF (filesE es)) p
  ·rw [if_pos hf]
   cases hd:fileAt (.dir es) (placeL p) with
   | none => have:=h1.2 hd;omega
   | some d =>
    have:=data_at h hok (sub_of_file hd)
    rw [hj] at this
    rw [this,sub_of_file hd]
  ·rw [if_neg hf]
   split
   ·rename_i d hd
    have:=h1.1 (by omega)
    rw [fileAt,hd] at this
    simp at this
   ·rfl
def firstT (es:Ents) (x:Str):List (List Str)→Str
 | [] => noT
 | q :: qs => if look (some (.dir es)) (q ++ [x]) = .atFile then joinP (q ++ [x]) else firstT es x qs
theorem first_tree {es:Ents} {x:Str} (h:WFE es) (hx:isNameL x false = true):∀ (ds:List Str),(∀ d ∈ ds,isPlaceL d = true)→firstL (toF (filesE es)) x ds = firstT es x (ds.map placeL)
 | [],_ => rfl
 | d :: ds,hd => by
  have hj:joinP (placeL d ++ [x]) = inDir d x∧OkN (placeL d ++ [x]):=by
   rcases place_ok (hd d (by simp)) with rfl | ⟨hne,_,_,hok,hj⟩
   ·exact ⟨rfl,by simp [placeL],by simp [placeL,hx]⟩
   ·refine ⟨?_,hok.app (by simp [hx])⟩
    rw [joinP_app hok.1 (by simp),hj]
    unfold inDir
    rw [if_neg (by simpa using hne)]
    rfl
  obtain ⟨h1,_⟩:=look_names h hj.2
  rw [hj.1] at h1
  rw [firstL,List.map_cons,firstT,first_tree h hx ds (fun e he => hd e (by simp [he])),hj.1]
  by_cases hf:0 ≤ getI (toF (filesE es)) (inDir d x)
  ·rw [if_pos hf,if_pos (h1.2 (by omega))]
  ·rw [if_neg hf,if_neg (fun e => hf (by have:=h1.1 e;omega))]
theorem chg_files {es:Ents} (h:WFE es) (h5:heightE es ≤ 5):chgS 6 [] none (some (.dir es)) = (filesE es).map fun f => (joinP f.1,43):=by
 have fb:=fits_root h h5
 have fa:fitsT 6 none:=trivial
 have e:=chg_names 6 [] none (some (.dir es)) (by simp) fa fb
 rw [show joinP [] = [] from rfl] at e
 rw [e]
 have hm:=chg_mem 6 none (some (.dir es)) fa fb trivial h
 have hs:=chg_sorted 6 none (some (.dir es)) fa fb trivial h
 have hc:chgN 6 none (some (.dir es)) = (filesE es).map fun f => (f.1,43):=by
  have hall:∀ x ∈ chgN 6 none (some (.dir es)),x.2 = 43:=by
   rintro ⟨p,m⟩ hx
   obtain ⟨h1,h2⟩:=(hm p m).1 hx
   cases hf:fileAtO (some (.dir es)) p with
   | none => rw [hf] at h1;simp [markF,fileAtO] at h1;exact absurd h1 h2
   | some d => rw [hf] at h1;simpa [markF,fileAtO] using h1
  have e1:(chgN 6 none (some (.dir es))).map (fun f => (f.1,([]:Str))) = (filesE es).map fun f => (f.1,[]):=by
   refine sorted_unique ?_ ?_ ?_
   ·unfold SortedN;rw [List.pairwise_map];exact hs
   ·unfold SortedN;rw [List.pairwise_map]
    exact sorted_filesE es h
   ·rintro ⟨p,k⟩
    simp only [List.mem_map,Prod.mk.injEq]
    constructor
    ·rintro ⟨⟨p',m⟩,hx,e1,e2⟩
     simp only at e1;subst e1
     obtain ⟨h1,h2⟩:=(hm p' m).1 hx
     cases hf:fileAtO (some (.dir es)) p' with
     | none => rw [hf] at h1;simp [markF,fileAtO] at h1;exact absurd h1 h2
     | some d => exact ⟨(p',d),(mem_root h p' d).2 hf,rfl,e2⟩
    ·rintro ⟨f,hf,e1,e2⟩
     subst e1
     refine ⟨(f.1,43),(hm f.1 43).2 ⟨?_,by decide⟩,rfl,e2⟩
     rw [show fileAtO (some (.dir es)) f.1 = fileAt (.dir es) f.1 from rfl,(mem_root h f.1 f.2).1 hf]
     rfl
  have e2:chgN 6 none (some (.dir es)) = ((chgN 6 none (some (.dir es))).map (fun f => (f.1,([]:Str)))).map fun f => (f.1,43):=by
   rw [List.map_map]
   conv => lhs;rw [← List.map_id (chgN 6 none (some (.dir es)))]
   apply List.map_congr_left
   intro x hx
   have:=hall x hx
   obtain ⟨p,m⟩:=x
   simp only at this;subst this;rfl
  rw [e2,e1,List.map_map];rfl
 rw [hc,List.map_map]
 apply List.map_congr_left
 intro f _
 simp
noncomputable def globT (es:Ents) (p:Str):Str:=(chgS 6 [] none (some (.dir es))).flatMap fun z => if fitsL p z.1 then z.1 ++ [10] else []
theorem glob_tree {es:Ents} {p:Str} (h:WFE es) (h5:heightE es ≤ 5):globL (toF (filesE es)) p = globT es p:=by
 unfold globL globT
 rw [chg_files h h5]
 simp only [toF,List.flatMap_map]

open Go.RowKit
def TextRet (w:World) (s:Str) (e:Ending) (w' : World):Prop:=e = .returned (SV s)∧Below w.heap.size w w'
theorem kindT_place (es:Ents) (q:List Str):kindT es q = if placeN (look (some (.dir es)) q) = 2 then fileT else if placeN (look (some (.dir es)) q) = 3 then dirT else noT:=by
 unfold kindT
 cases look (some (.dir es)) q <;> rfl
set_option maxHeartbeats 2000000 in
set_option maxRecDepth 50000 in
theorem kindAt_any (Q:Nat→Int→Prop) (es:Ents) (q:List Str) (b:Nat) (nv:Value) (w:World) (hr:RepO w Q (dirV b) (some (.dir es))) (hw:WFE es) (hn:NamesAt w nv q) :
  Calls Tryz.prog 80 #[ptrV b,nv] w fun e w' => TextRet w (kindT es q) e w':=by
 have C:=look_any Q q (some (.dir es)) (dirV b) nv w hr hw hn
 have HK:Hid _:=kindT_place es q
 obtain ⟨ao,cap,rfl,_⟩:=names_form hn
 clear hr hn
 go_enter Tryz.func80,Tryz.ntmps80
 go_wp2_with fail
 refine C.mono ?_
 rintro e w1 ⟨⟨v,rfl,hv⟩,hb⟩
 have hform:v = .nilIface∨∃ k n,v = .iface k (.pointer (some ⟨n,0,none⟩)):=by
  cases hs:(some (Tree.dir es)).bind fun t => sub t q with
  | none => rw [hs] at hv;exact .inl hv
  | some t => rw [hs] at hv;exact .inr (RepT.form hv)
 have HB:Hid _:=hb
 clear hb hv C
 generalize placeN (look (some (.dir es)) q) = pl at *
 have fin:Hid (∀ s,s = kindT es q→TextRet w (kindT es q) (.returned (SV s)) w1):=fun s hs => ⟨by rw [hs],HB.out⟩
 by_cases h2:pl = 2
 ·have R:Hid _:=fin.out fileT (by rw [HK.out,if_pos h2])
  subst h2
  rcases hform with rfl | ⟨k,n,rfl⟩
  all_goals
   go_wp2
   go_ret
   exact R.out
 ·by_cases h3:pl = 3
  ·have R:Hid _:=fin.out dirT (by rw [HK.out,if_neg h2,if_pos h3])
   subst h3
   rcases hform with rfl | ⟨k,n,rfl⟩
   all_goals
    go_wp2
    go_ret
    exact R.out
  ·have R:Hid _:=fin.out noT (by rw [HK.out,if_neg h2,if_neg h3])
   have n2:(pl == 2) = false:=by simpa using h2
   have n3:(pl == 3) = false:=by simpa using h3
   rcases hform with rfl | ⟨k,n,rfl⟩
   all_goals
    go_wp2
    go_ret
    exact R.out
set_option maxHeartbeats 2000000 in
set_option maxRecDepth 50000 in
theorem dataAt_any (Q:Nat→Int→Prop) (es:Ents) (q:List Str) (b:Nat) (nv:Value) (w:World) (hr:RepO w Q (dirV b) (some (.dir es))) (hw:WFE es) (hn:NamesAt w nv q) :
  Calls Tryz.prog 82 #[ptrV b,nv] w fun e w' => TextRet w (readT es q) e w':=by
 have hap:=app_list
 have C:=look_any Q q (some (.dir es)) (dirV b) nv w hr hw hn
 obtain ⟨ao,cap,rfl,_⟩:=names_form hn
 have HW:Hid _:=hw
 clear hr hn
 go_enter Tryz.func82,Tryz.ntmps82
 go_wp2_with fail
 refine C.mono ?_
 rintro e w1 ⟨⟨v,rfl,hv⟩,hb⟩
 have HB:Hid _:=hb
 clear hb C
 generalize placeN (look (some (.dir es)) q) = pl at *
 cases hs:sub (.dir es) q with
 | none =>
  have hv' : v = .nilIface:=by simpa [hs,RepO] using hv
  subst hv'
  have R:Hid (TextRet w (readT es q) (.returned (SV noT)) w1):=⟨by rw [readT,hs],HB.out⟩
  have a1:=Tryz.assertNil1
  clear hv
  go_wp2
  go_ret
  exact R.out
 | some t =>
  have hv' : RepT w1 Q v t:=by simpa [hs,RepO] using hv
  clear hv
  cases hv' with
  | file h hq =>
   rename_i n u d
   have R:Hid (TextRet w (readT es q) (.returned (SV (61 :: d))) w1):=⟨by rw [readT,hs],HB.out⟩
   have a1:=Tryz.assertFile
   have hl:d.length ≤ 30:=by
    have:=sub_wf q (t:=.dir es) (n:=.file d)
    by_cases he:es = []
    ·subst he
     cases q with
     | nil => simp [sub] at hs
     | cons x r => simp [sub,findE] at hs
    ·have h2:=this (by unfold WFT;exact ⟨he,HW.out⟩) hs
     unfold WFT at h2;exact h2
   have cd:w1.cell? ⟨n,1,none⟩ = some (SV d):=(blk_cell h 1).trans rfl
   have HH:Hid _:=h
   clear h hs
   go_wp2
   go_ret
   exact R.out
  | dir h hq he =>
   rename_i n u vs es'
   have R:Hid (TextRet w (readT es q) (.returned (SV noT)) w1):=⟨by rw [readT,hs],HB.out⟩
   have a1:=Tryz.assertDirNo
   clear h hs he
   go_wp2
   go_ret
   exact R.out

open Go.RowKit
theorem rep_at {w:World} {Q:Nat→Int→Prop}:∀ {vs:List (Str × Value)} {es:Ents},RepE w Q vs es→∀ k (h:k < vs.length) (h' : k < es.length),vs[k].1 = es[k].1∧RepT w Q vs[k].2 es[k].2:=by
 intro vs es h
 induction vs generalizing es with
 | nil => intro k h1;simp at h1
 | cons e vs ih =>
  cases h with
  | cons h1 h2 =>
   intro k hk hk'
   cases k with
   | zero => exact ⟨rfl,h1⟩
   | succ k => exact ih h2 k (by simpa using hk) (by simpa using hk')
theorem slice_entries (b o n:Nat) (hn:n ≤ 20) (w:World):(Instr.sliceAt 145 (.pointer (some ⟨b,o,none⟩)) none (some (.int .i64 (n:Int))) none).run Tryz.prog w = .ok (.slice (some ⟨b,o,none⟩) n 20) w:=by
 have hsa:(Instr.sureAddr (.pointer (some ⟨b,o,none⟩))).run Tryz.prog w = .ok ⟨b,o,none⟩ w:=by kernel_rfl
 simp [Instr.sliceAt,Instr.sliceBounds,Instr.sliceBound,asIntOf,run_underlying Tryz.underlying145,hn,Addr.add,hsa]
theorem labs_take {es:Ents} {k:Nat} (hk:k < es.length):(es.take (k + 1)).map labE = (es.take k).map labE ++ [labE es[k]]:=by rw [List.take_succ_eq_append_getElem hk,List.map_append];rfl
def LabelsRet (w:World) (es:Ents) (e:Ending) (w' : World):Prop:=∃ v,e = .returned v∧w'.ownsRow w.heap.size 9 1 v (es.map labE).length ((es.map labE).map SV)∧Below w.heap.size w w'
theorem labs_row (es:Ents) (k:Nat) (y:Str):List.take k (List.map (SV ∘ labE) es) ++ [SV y] = List.map SV ((es.take k).map labE ++ [y]):=by simp [List.map_take]
set_option maxHeartbeats 4000000 in
set_option maxRecDepth 50000 in
theorem labels_any (Q:Nat→Int→Prop) (b o:Nat) (vs:List (Str × Value)) (es:Ents) (w:World) (hL:ListAt w b o vs) (hb:b < w.heap.size) (h20:vs.length ≤ 20) (hE:RepE w Q vs es) (hn:∀ e ∈ es,e.1.length ≤ 8) :
  Calls Tryz.prog 117 #[.pointer (some ⟨b,o,none⟩)] w fun e w' => LabelsRet w es e w':=by
 have hlen:=hE.len
 have cc:=hL.count
 have hsl:=slice_entries b (o + 1) es.length (by omega)
 have HL:Hid _:=hL
 have HE:Hid _:=hE
 have HN:Hid _:=hn
 have h20i:(vs.length:Int) ≤ 20:=by omega
 clear hL hE hn
 go_enter Tryz.func117,Tryz.ntmps117
 go_wp2_with fail
 go_quiet (fail)
 have HBq:Hid (Below w.heap.size w (w.drewN nq)):=below_drewN (Below.refl _ _) _
 have HSq:Hid ((w.drewN nq).heap.size = w.heap.size):=rfl
 have HLq:Hid (ListAt (w.drewN nq) b o vs):=⟨HL.out.few,HL.out.cell⟩
 generalize w.drewN nq = wq at *
 clear cc
 go_wp2
 go_loopw [3,15] (fun v i wr => ∃ k:Nat,k ≤ es.length∧i = .int .i64 k∧wr.ownsRow w.heap.size 9 1 v k (((es.take k).map labE).map SV)∧Below w.heap.size w wr∧Below wq.heap.size wq wr) (fun _ i _ => es.length - (intOf i).toNat)
 case atStart => exact ⟨0,Nat.zero_le _,rfl,World.ownsRow_nil _ _ _ _,HBq.out,Below.refl _ _⟩
 case round =>
  obtain ⟨k,hk,rfl,hown,hbw,hbq⟩:=hrel
  have hz:=hbw.size
  by_cases hlt:k < es.length
  ·have hltv:k < vs.length:=by omega
   have cn:wr.cell? ⟨b,o + 1 + k * 2,none⟩ = some (SV vs[k].1):=(hbq.cell (p:=⟨b,o + 1 + k * 2,none⟩) (by have:=HSq.out;simp only;omega)).trans (HLq.out.name hltv)
   have cv:wr.cell? ⟨b,o + 1 + k * 2 + 1,none⟩ = some vs[k].2:=(hbq.cell (p:=⟨b,o + 1 + k * 2 + 1,none⟩) (by have:=HSq.out;simp only;omega)).trans (HLq.out.node hltv)
   obtain ⟨e1,e2⟩:=rep_at HE.out k hltv hlt
   have hki:(k:Int) < (es.length:Int):=by omega
   have HT:Hid _:=labs_take hlt
   have hx8:=HN.out _ (List.getElem_mem hlt)
   rw [e1] at cn
   generalize vs[k].2 = val at *
   have HB:Hid _:=hbw
   have HBQ:Hid _:=hbq
   obtain ⟨ao0,cap0,rfl⟩:=row_form hown
   have HO:Hid (wr.ownsRow w.heap.size 9 1 (.slice ao0 k cap0) k (((es.take k).map labE).map SV)):=hown
   clear hbw hbq hown
   generalize hek:es[k] = ek at *
   obtain ⟨x,t⟩:=ek
   simp only at cn hx8
   cases e2 with
   | file h hq =>
    rename_i n u d
    have a1:=Tryz.assertFile
    clear h
    go_wp2_with (at_builtin;go_loud (refine wp_app_str rfl (.tmp 24) (.tmp 27) rfl (base:=w.heap.size) (wr:=wr.alloc (.cells #[SV x,fileV n] 101)) (HO.out.alloc _) x ⟨rfl,rfl,rfl,rfl⟩ rfl (by simp [Act.eval]) (by omega) (by simp;omega) ?_))
    intro v' w2 hown' hb'
    have HO' : Hid (w2.ownsRow w.heap.size 9 1 v' (k + 1) (((es.take (k + 1)).map labE).map SV)):=by rw [Hid,HT.out,← labs_row];exact hown'
    have hba:=(Below.refl wr.heap.size wr).alloc (Nat.le_refl _) (.cells #[SV x,fileV n] 101)
    have HB' : Hid (Below w.heap.size w w2):=(HB.out.trans (hba.mono HB.out.size)).trans hb'
    have HBQ' : Hid (Below wq.heap.size wq w2):=by
     have h1:wq.heap.size = w.heap.size:=HSq.out
     have h2:=hb'
     rw [← h1] at h2
     exact (HBQ.out.trans (hba.mono HBQ.out.size)).trans h2
    obtain ⟨ao2,cap2,rfl⟩:=row_form hown'
    clear hown' hb' hba
    go_wp2
    go_roundw
    case rel => exact ⟨k + 1,by omega,by go_num,HO'.out,HB'.out,HBQ'.out⟩
    case measure => simp [intOf];omega
   | dir h hq he =>
    rename_i n u vs' es'
    have a1:=Tryz.assertDirNo
    have a2:=Tryz.assertDir
    have hap:=app_list
    clear h he
    go_wp2_with (at_builtin;go_loud (refine wp_app_str rfl (.tmp 32) (.tmp 36) rfl (base:=w.heap.size) (wr:=wr.alloc (.cells #[SV x,dirV n] 101)) (HO.out.alloc _) (x ++ [47]) ⟨rfl,rfl,rfl,rfl⟩ rfl (by simp [Act.eval]) (by omega) (by simp;omega) ?_))
    intro v' w2 hown' hb'
    have HO' : Hid (w2.ownsRow w.heap.size 9 1 v' (k + 1) (((es.take (k + 1)).map labE).map SV)):=by rw [Hid,HT.out,← labs_row];exact hown'
    have hba:=(Below.refl wr.heap.size wr).alloc (Nat.le_refl _) (.cells #[SV x,dirV n] 101)
    have HB' : Hid (Below w.heap.size w w2):=(HB.out.trans (hba.mono HB.out.size)).trans hb'
    have HBQ' : Hid (Below wq.heap.size wq w2):=by
     have h1:wq.heap.size = w.heap.size:=HSq.out
     have h2:=hb'
     rw [← h1] at h2
     exact (HBQ.out.trans (hba.mono HBQ.out.size)).trans h2
    obtain ⟨ao2,cap2,rfl⟩:=row_form hown'
    clear hown' hb' hba
    go_wp2
    go_roundw
    case rel => exact ⟨k + 1,by omega,by go_num,HO'.out,HB'.out,HBQ'.out⟩
    case measure => simp [intOf];omega
  ·have hki:¬ (k:Int) < (es.length:Int):=by omega
   have HB:Hid _:=hbw
   obtain ⟨ao0,cap0,rfl⟩:=row_form hown
   have HO:Hid (wr.ownsRow w.heap.size 9 1 (.slice ao0 k cap0) k (((es.take k).map labE).map SV)):=hown
   have hke:k = es.length:=by omega
   subst hke
   clear hbw hbq hown
   have R:Hid (wr.ownsRow w.heap.size 9 1 (.slice ao0 es.length cap0) (es.map labE).length ((es.map labE).map SV)):=by
    have:=HO.out
    rw [List.take_length] at this
    rw [Hid,List.length_map];exact this
   clear HO
   go_wp2
   go_ret
   exact ⟨_,rfl,R.out,HB.out⟩

open Go.RowKit
theorem joinTail_len (sep:Str) (m:Nat):∀ (xs:List Str),(∀ x ∈ xs,x.length ≤ m)→(Lib.joinTail sep xs).length ≤ xs.length * (sep.length + m)
 | [],_ => by simp [Lib.joinTail]
 | x :: xs,h => by
  have:=joinTail_len sep m xs (fun y hy => h y (by simp [hy]))
  have hx:=h x (by simp)
  have e:Lib.joinTail sep (x :: xs) = sep ++ x ++ Lib.joinTail sep xs:=by simp [Lib.joinTail]
  rw [e,List.length_append,List.length_append,List.length_cons,Nat.add_mul,Nat.one_mul]
  omega
theorem join_len {sep:Str} {m:Nat} {xs:List Str} (h:∀ x ∈ xs,x.length ≤ m):(Lib.join xs sep).length ≤ (xs.length + 1) * (sep.length + m):=by
 cases xs with
 | nil => simp [Lib.join_nil]
 | cons x xs =>
  rw [Lib.join_cons,List.length_append]
  have h1:=joinTail_len sep m xs (fun y hy => h y (by simp [hy]))
  have h2:=h x (by simp)
  rw [List.length_cons,Nat.add_mul,Nat.add_mul,Nat.one_mul]
  omega
theorem prgJoin_any (xs:List Str) (sep:Str) (v:Value) (w:World) (h:NamesAt w v xs) (hl:xs.length ≤ 1000) (hx:∀ x ∈ xs,x.length ≤ 1000) (hs:sep.length ≤ 10) :
  Calls Tryz.prog 116 #[v,SV sep] w fun e w' => e = .returned (SV (Lib.join xs sep))∧Below w.heap.size w w':=by
 cases hc:xs with
 | nil =>
  subst hc
  obtain ⟨ao,cap,rfl,_⟩:=h
  exact (Tryz.strings_Join_none ao cap ⟨sep.toArray⟩ w).mono fun e w' hh => ⟨hh.1,by rw [hh.2];exact Below.refl _ _⟩
 | cons x r =>
  rw [← hc]
  obtain ⟨g,o,cap,rfl,h1,h2,h3,h4⟩:=names_at h (by rw [hc];simp)
  have e:(xs.map fun s => (⟨s.toArray⟩ : ByteArray)).map (·.data.toList) = xs:=by simp [List.map_map,Function.comp_def]
  have C:=Tryz.strings_Join g o cap (xs.map fun s => ⟨s.toArray⟩) ⟨sep.toArray⟩ w (fun j y hy => by
   rw [List.getElem?_map] at hy
   cases hg:xs[j]? with
   | none => rw [hg] at hy;simp at hy
   | some z =>
    rw [hg] at hy
    simp at hy
    obtain ⟨hj,hz⟩:=List.getElem?_eq_some_iff.1 hg
    rw [h4 j hj,hz,← hy]) h3 (by rw [List.length_map];omega) (by rw [List.length_map];exact h1) (by
   rw [e]
   have:=join_len (sep:=sep) hx
   have h5:(xs.length + 1) * (sep.length + 1000) ≤ 1001 * 1010:=Nat.mul_le_mul (by omega) (by omega)
   simp only
   omega)
  rw [e,List.length_map] at C
  exact C
theorem lab_len {e:Str × Tree} (h:e.1.length ≤ 8):(labE e).length ≤ 9:=by
 unfold labE
 split
 ·omega
 ·rw [List.length_append,List.length_singleton];omega
theorem sub_dir_wf {es b:Ents} {q:List Str} (h:WFE es) (hs:sub (.dir es) q = some (.dir b)):WFE b:=by
 by_cases he:es = []
 ·subst he
  cases q with
  | nil => simp [sub] at hs;subst hs;exact h
  | cons x r => simp [sub,findE] at hs
 ·have h2:=sub_wf q (t:=.dir es) (n:=.dir b) (by unfold WFT;exact ⟨he,h⟩) hs
  unfold WFT at h2;exact h2.2
set_option maxHeartbeats 2000000 in
set_option maxRecDepth 50000 in
theorem listAt_any (Q:Nat→Int→Prop) (es:Ents) (q:List Str) (b:Nat) (nv:Value) (w:World) (hr:RepO w Q (dirV b) (some (.dir es))) (hw:WFE es) (hn:NamesAt w nv q) :
  Calls Tryz.prog 81 #[ptrV b,nv] w fun e w' => TextRet w (listT es q) e w':=by
 have hap:=app_list
 have C:=look_any Q q (some (.dir es)) (dirV b) nv w hr hw hn
 obtain ⟨ao,cap,rfl,_⟩:=names_form hn
 have HW:Hid _:=hw
 clear hr hn
 go_enter Tryz.func81,Tryz.ntmps81
 go_wp2_with fail
 refine C.mono ?_
 rintro e w1 ⟨⟨v,rfl,hv⟩,hb⟩
 have HB:Hid _:=hb
 clear hb C
 generalize placeN (look (some (.dir es)) q) = pl at *
 cases hs:sub (.dir es) q with
 | none =>
  have hv' : v = .nilIface:=by simpa [hs,RepO] using hv
  subst hv'
  have R:Hid (TextRet w (listT es q) (.returned (SV noT)) w1):=⟨by rw [listT,hs],HB.out⟩
  have a1:=Tryz.assertNil2
  clear hv
  go_wp2
  go_ret
  exact R.out
 | some t =>
  have hv' : RepT w1 Q v t:=by simpa [hs,RepO] using hv
  clear hv
  cases hv' with
  | file h hq =>
   rename_i n u d
   have R:Hid (TextRet w (listT es q) (.returned (SV noT)) w1):=⟨by rw [listT,hs],HB.out⟩
   have a1:=Tryz.assertFileNo
   clear h hs
   go_wp2
   go_ret
   exact R.out
  | dir h hq he =>
   rename_i n u vs es'
   have hwf:=sub_dir_wf HW.out hs
   have hnm:∀ e ∈ es',e.1.length ≤ 8:=fun e hm => (isNameL_len (hwf.mem e hm).1).2
   have hl20:=h.list.few
   have hlen:=he.len
   have CL:=labels_any Q n 1 vs es' w1 h.list h.lt h.list.few he hnm
   have hnlt:=h.lt
   have R0:Hid (listT es q = 58 :: Lib.join (es'.map labE) [32]):=by rw [Hid,listT,hs]
   have a2:=Tryz.assertDir
   have HLB:Hid (∀ x ∈ es'.map labE,x.length ≤ 1000):=fun x hx => by
    rw [List.mem_map] at hx
    obtain ⟨y,hy,rfl⟩:=hx
    have:=lab_len (hnm y hy)
    omega
   have HLL:Hid ((es'.map labE).length ≤ 1000):=by rw [Hid,List.length_map];omega
   have hjl:(Lib.join (es'.map labE) [32]).length ≤ 1000000:=by
    have:=join_len (sep:=[32]) (m:=9) (xs:=es'.map labE) (fun x hx => by
     rw [List.mem_map] at hx
     obtain ⟨y,hy,rfl⟩:=hx
     exact lab_len (hnm y hy))
    rw [List.length_map] at this
    simp only [List.length_singleton] at this
    omega
   clear h he hs hnm hwf
   go_wp2_with fail
   refine CL.mono ?_
   rintro e w2 ⟨v2,rfl,hown2,hb2⟩
   have CJ:=prgJoin_any (es'.map labE) [32] v2 w2 (names_of_row hown2) HLL.out HLB.out (by simp)
   rw [List.length_map] at hown2
   obtain ⟨ao2,cap2,rfl⟩:=row_form hown2
   have HB2:Hid (Below w.heap.size w w2):=HB.out.trans (hb2.mono HB.out.size)
   clear hown2 hb2 CL
   generalize Lib.join (es'.map labE) [32] = js at *
   go_wp2_with fail
   refine CJ.mono ?_
   rintro e w3 ⟨rfl,hb3⟩
   have R:Hid (TextRet w (listT es q) (.returned (SV (58 :: js))) w3):=⟨by rw [R0.out],HB2.out.trans (hb3.mono HB2.out.size)⟩
   clear hb3 CJ
   go_wp2
   go_ret
   exact R.out

open Go.RowKit
def RowRet (w:World) (xs:List Str) (e:Ending) (w' : World):Prop:=∃ ao cap,e = .returned (.slice ao xs.length cap)∧w'.ownsRow w.heap.size 9 1 (.slice ao xs.length cap) xs.length (xs.map SV)∧Below w.heap.size w w'
theorem prgClone_any (xs:List Str) (g n c:Nat) (w:World) (h:NamesAt w (.slice (some ⟨g,0,none⟩) n c) xs) (hl:xs.length ≤ 1000) :
  Calls Tryz.prog 119 #[.slice (some ⟨g,0,none⟩) n c] w fun e w' => RowRet w xs e w':=by
 obtain ⟨ao,cap,e0,hc,hm,hcell⟩:=h
 simp only [Value.slice.injEq] at e0
 obtain ⟨rfl,rfl,rfl⟩:=e0
 have fin:∀ (e:Ending) (w' : World) (v' : Value),e = .returned v'→w'.ownsRow w.heap.size 9 1 v' xs.length (xs.map SV)→Below w.heap.size w w'→RowRet w xs e w':=by
  intro e w' v' h1 h2 h3
  obtain ⟨ao,cap,rfl⟩:=row_form h2
  exact ⟨ao,cap,h1,h2,h3⟩
 cases hx:xs with
 | nil =>
  subst hx
  refine (Tryz.slices_Clone_string_zero ⟨g,0,none⟩ c w).mono fun e w' hh => ?_
  obtain ⟨v',h1,h2,_,h4⟩:=hh
  exact fin e w' v' h1 h2 h4
 | cons x r =>
  rw [← hx]
  have C:=Tryz.slices_Clone_string g 0 xs.length c (xs.map fun s => ⟨s.toArray⟩) w (by rw [List.length_map];exact Nat.le_refl _) (by omega) (fun j hj => by
   rw [List.length_map] at hj
   obtain ⟨g',o',e,_,h7⟩:=hcell j hj
   simp only [Option.some.injEq,Addr.mk.injEq] at e
   obtain ⟨rfl,rfl,_⟩:=e
   rw [h7,List.getD_eq_getElem?_getD,List.getElem?_map,List.getElem?_eq_getElem hj]
   rfl)
  refine C.mono fun e w' hh => ?_
  obtain ⟨v',h1,h2,_,h4⟩:=hh
  refine fin e w' v' h1 ?_ h4
  rw [List.take_of_length_le (by rw [List.length_map];exact Nat.le_refl _),List.map_map] at h2
  exact h2
theorem step_app_in {W:World} {ops:Array Oper} {o:Oper} {a:Act} {K:Act→World→Prop} {Q:Exit→Act→World→Prop} {E:Prop}
  (hgd:o.guard = none) (s x:Operand) (ho:o.op = .call { callee:=.builtin .append,args:=#[s,x],argTypes:=#[48,48] })
  {base:Nat} {v:Value} {n:Nat} {xs:List Str} (hown:W.ownsRow base 9 1 v n (xs.map SV)) (t:Str) (g:Nat) (hg:W.cell? ⟨g,0,none⟩ = some (SV t))
  (hs:a.eval s = v) (hx:a.eval x = .slice (some ⟨g,0,none⟩) 1 1) (hb:n ≤ 10000) (hbase:base ≤ W.heap.size)
  (h:∀ v' w',w'.ownsRow base 9 1 v' (n + 1) ((xs ++ [t]).map SV)→W.grownBy w' v.ownBlock→K (a.put o.dst v') w') :
  if Region.wanted o (yielded ops a.tmps) = true then Oper.wp Tryz.prog o a W K Q else E:=by
 obtain ⟨i0,hi,hz0,hz1,hz2⟩:=info_parts Tryz.infoStr
 have hw:Region.wanted o (yielded ops a.tmps) = true:=by simp [Region.wanted,hgd]
 rw [if_pos hw]
 have hnews:∀ j u,[SV t][j]? = some u→W.cell? ((⟨g,0,none⟩ : Addr).add j) = some u:=by
  intro j u hj
  cases j with
  | zero =>
   simp at hj
   rw [← hj]
   have:(Addr.mk g 0 none).add 0 = ⟨g,0,none⟩:=by simp only [Addr.add];split <;> simp_all
   rw [this];exact hg
  | succ j => simp at hj
 obtain ⟨v',w',hr,h2,h3,_,h5⟩:=run_append_own_at (P:=Tryz.prog) W base 48 o.type 9 i0 (.string ⟨#[]⟩) 1 16 Tryz.underlying48 hi hz0 hz1 hz2 rfl (by decide) v n (xs.map SV) hown ⟨g,0,none⟩ 1 1 [SV t] rfl hnews (by intro u hu;simp at hu;subst hu;rfl) (by unfold maxLen;omega) (by omega) hbase
 unfold Oper.wp
 simp only [execOp,ho,resolve,invoke,builtin,Sem.run_bind,Sem.run_pure,Result.andThen_ok,List.map_toArray,List.map_cons,List.map_nil,hs,hx,hr]
 exact h v' w' (by simpa using h2) h3
def MoreOut (w:World) (xs:List Str) (v:Value) (w' : World):Prop:=∃ ao cap,v = .slice ao xs.length cap∧NamesAt w' (.slice ao xs.length cap) xs∧Below w.heap.size w w'
theorem more_names {N:Nat} {w W w2:World} {xs:List Str} {t:Str} {base:Nat} {v v' : Value} (hN:w.heap.size ≤ base) (hb:Below w.heap.size w W) (h1:w2.ownsRow base 9 1 v' (xs.length + 1) ((xs ++ [t]).map SV)) (hg:W.grownBy w2 v.ownBlock) (hv:∀ k,v.ownBlock = some k→base ≤ k) (_:N = 0):MoreOut w (xs ++ [t]) v' w2:=by
 have hl:xs.length + 1 = (xs ++ [t]).length:=by simp
 rw [hl] at h1
 obtain ⟨ao,cap,rfl⟩:=row_form h1
 exact ⟨ao,cap,rfl,names_of_row h1,hb.grown hg hb.size (fun k hk => Nat.le_trans hN (hv k hk))⟩
def firstO (es:Ents) (x:Str) (ds:List (Option (List Str))):Str:=firstT es x (ds.map fun o => o.getD [])
theorem firstO_hit {es:Ents} {x:Str} {ds:List (Option (List Str))} {k:Nat} {q:List Str} (hk:k < ds.length) (hd:ds[k] = some q) (h:look (some (.dir es)) (q ++ [x]) = .atFile):firstO es x (ds.drop k) = joinP (q ++ [x]):=by
 unfold firstO
 rw [List.drop_eq_getElem_cons hk,List.map_cons,firstT,hd]
 exact if_pos h
theorem firstO_miss {es:Ents} {x:Str} {ds:List (Option (List Str))} {k:Nat} {q:List Str} (hk:k < ds.length) (hd:ds[k] = some q) (h:look (some (.dir es)) (q ++ [x]) ≠ .atFile):firstO es x (ds.drop k) = firstO es x (ds.drop (k + 1)):=by
 unfold firstO
 rw [List.drop_eq_getElem_cons hk,List.map_cons,firstT,hd]
 exact if_neg h
theorem join_path (xs:List Str):Lib.join xs [47] = joinP xs:=by
 induction xs with
 | nil => rfl
 | cons x r ih =>
  cases r with
  | nil => rw [Lib.join_one];rfl
  | cons y r =>
   rw [joinP_cons (by simp),← ih,Lib.join_cons,Lib.join_cons]
   simp [Lib.joinTail]

open Go.RowKit
set_option maxHeartbeats 8000000 in
set_option maxRecDepth 50000 in
theorem firstPath_any (Q:Nat→Int→Prop) (es:Ents) (x:Str) (ds:List (Option (List Str))) (base b:Nat) (ao:Option Addr) (n c:Nat) (w:World) (hr:RepO w Q (dirV b) (some (.dir es))) (hw:WFE es) (hT:TargetsAt base w (.slice ao n c) ds) (hsome:∀ k (h:k < ds.length),∃ q,ds[k] = some q∧q.length ≤ 100∧∀ y ∈ q,y.length ≤ 100) (hx:x.length ≤ 100) :
  Calls Tryz.prog 84 #[ptrV b,.agg #[SV x,.slice ao n c]] w fun e w' => TextRet w (firstO es x ds) e w':=by
 obtain ⟨w1,hw1⟩ : ∃ w1:World,w1 = w.alloc (.cells #[SV x,.slice ao n c] 174):=⟨_,rfl⟩
 have hb1:Below w.heap.size w w1:=by rw [hw1];exact (Below.refl _ _).alloc (Nat.le_refl _) _
 have hn1:w1.heap[w.heap.size]? = some (.cells #[SV x,.slice ao n c] 174 (0,0)):=by rw [hw1];exact heap_alloc_new _ _
 have hs1:w.heap.size < w1.heap.size:=(Array.getElem?_eq_some_iff.1 hn1).1
 have q1:w1.cell? ⟨w.heap.size,1,none⟩ = some (.slice ao n c):=(blk_cell hn1 1).trans rfl
 obtain ⟨rfl,hc,hm,hcell⟩:=targets_cells (hT.below hb1)
 have HC:Hid _:=hcell
 have HS:Hid _:=hsome
 have HN1:Hid _:=hn1
 have HB1:Hid _:=hb1
 have HW1:Hid _:=hw1
 have HR:Hid (∀ W,Below w.heap.size w W→∀ nv q,NamesAt W nv q→Calls Tryz.prog 51 #[dirV b,nv] W fun e w' => LookOut w' Q (some (.dir es)) q e∧Below W.heap.size W w'):=fun W hW nv q hn => look_any Q q (some (.dir es)) (dirV b) nv W (RepT.later hr hW (Nat.le_refl _)) hw hn
 clear hcell hT hb1 hw1 hn1 hsome hr
 unfold maxLen at hm
 go_enter Tryz.func84,Tryz.ntmps84
 go_wp2_with fail
 simp only [← HW1.out]
 clear HW1
 go_wp2
 go_loopw [13] (fun i wr => ∃ k:Nat,k ≤ ds.length∧i = .int .i64 k∧Below w1.heap.size w1 wr∧firstO es x ds = firstO es x (ds.drop k)) (fun i _ => ds.length - (intOf i).toNat)
 case atStart => exact ⟨0,Nat.zero_le _,rfl,Below.refl _ _,rfl⟩
 case round =>
  obtain ⟨k,hk,rfl,hb,hans⟩:=hrel
  have HB:Hid _:=hb
  have HA:Hid _:=hans
  clear q1 hb hans
  by_cases hlt:k < ds.length
  ·obtain ⟨g,ao',n',c',rfl,hg,ck,hN⟩:=HC.out k hlt
   obtain ⟨q,hq,hql,hqn⟩:=HS.out k hlt
   have ckr:wr.cell? ⟨g,k,none⟩ = some (.slice ao' n' c'):=(HB.out.cell (p:=⟨g,k,none⟩) hg).trans ck
   rw [hq] at hN
   obtain ⟨g2,n2,c2,e2,_,hg2,hnm⟩:=hN
   simp only [Value.slice.injEq] at e2
   obtain ⟨rfl,rfl,rfl⟩:=e2
   have hki:(k:Int) < (ds.length:Int):=by omega
   have HNM:Hid (NamesAt w1 (.slice (some ⟨g2,0,none⟩) n' c') q):=hnm
   have FH:Hid _:=firstO_hit (es:=es) (x:=x) hlt hq
   have FM:Hid _:=firstO_miss (es:=es) (x:=x) hlt hq
   clear ck hnm
   go_wp2_with fail
   have ca:(wr.alloc (.cells #[.slice (some ⟨g2,0,none⟩) n' c'] 164)).cell? ⟨wr.heap.size,0,none⟩ = some (.slice (some ⟨g2,0,none⟩) n' c'):=(blk_cell (heap_alloc_new _ _) 0).trans rfl
   have HBa:Hid (Below wr.heap.size wr (wr.alloc (.cells #[.slice (some ⟨g2,0,none⟩) n' c'] 164))):=(Below.refl _ _).alloc (Nat.le_refl _) _
   have hza:wr.heap.size < (wr.alloc (.cells #[.slice (some ⟨g2,0,none⟩) n' c'] 164)).heap.size:=by simp
   generalize wr.alloc (.cells #[.slice (some ⟨g2,0,none⟩) n' c'] 164) = wa at *
   have HB1a:Hid (Below w1.heap.size w1 wa):=HB.out.trans (HBa.out.mono HB.out.size)
   have cx:wa.cell? ⟨w.heap.size,0,none⟩ = some (SV x):=(HB1a.out.cell (p:=⟨w.heap.size,0,none⟩) hs1).trans ((blk_cell HN1.out 0).trans rfl)
   have hxa:w.heap.size < wa.heap.size:=Nat.lt_of_lt_of_le hs1 HB1a.out.size
   have CC:Hid (∀ W,Below wa.heap.size wa W→Calls Tryz.prog 119 #[.slice (some ⟨g2,0,none⟩) n' c'] W fun e w' => RowRet W q e w'):=fun W hW => prgClone_any q g2 n' c' W (names_below (names_below HNM.out HB1a.out (Nat.le_refl _)) hW (Nat.le_refl _)) (by omega)
   have K1:Hid (∀ W,Below wa.heap.size wa W→Below wa.heap.size wa W∧W.cell? ⟨wr.heap.size,0,none⟩ = some (.slice (some ⟨g2,0,none⟩) n' c')∧W.cell? ⟨w.heap.size,0,none⟩ = some (SV x)):=fun W hW => ⟨hW,(hW.cell (p:=⟨wr.heap.size,0,none⟩) hza).trans ca,(hW.cell (p:=⟨w.heap.size,0,none⟩) hxa).trans cx⟩
   clear ckr
   go_cut [7] (fun v wc => MoreOut wr (q ++ [x]) v wc)
   case first =>
    go_region_held3 (fun W:World => Below wa.heap.size wa W∧W.cell? ⟨wr.heap.size,0,none⟩ = some (.slice (some ⟨g2,0,none⟩) n' c')∧W.cell? ⟨w.heap.size,0,none⟩ = some (SV x))
     (first | exact K1.out _ hb3a | exact K1.out _ (hb2a.alloc hb2a.size _) | exact K1.out _ hb2a | exact K1.out _ (((Below.refl _ _).drew).alloc (Nat.le_refl _) _) | exact K1.out _ ((Below.refl _ _).drew))
     (first
      | ((go_at_call 119;refine (CC.out _ ?_).mono ?_;exact (Below.refl _ _).drew;rintro e w2 ⟨ao2,cap2,rfl,hown2,hb2⟩;have hb2a:Below wa.heap.size wa w2:=((Below.refl _ _).drew).trans hb2))
      | ((go_at_call 119;refine (CC.out _ ?_).mono ?_;exact ((Below.refl _ _).drew).alloc (Nat.le_refl _) _;rintro e w2 ⟨ao2,cap2,rfl,hown2,hb2⟩;have hb2a:Below wa.heap.size wa w2:=(((Below.refl _ _).drew).alloc (Nat.le_refl _) _).trans (hb2.mono (by simp));have cnew:w2.cell? ⟨wa.heap.size,0,none⟩ = some (SV x):=(hb2.cell (p:=⟨wa.heap.size,0,none⟩) (by simp)).trans ((blk_cell (heap_alloc_new wa.drew _) 0).trans rfl)))
      | ((refine step_app_in rfl (.tmp 19) (.tmp 22) rfl (base:=wa.heap.size) (ownsRow_le hown2 (by simp)) x wa.heap.size cnew rfl rfl (by omega) hb2a.size ?_;intro v' w3 hown3 hg3;have hb3a:Below wa.heap.size wa w3:=hb2a.grown hg3 hb2a.size (fun k hk => ((ownsRow_le hown2 (by simp):w2.ownsRow wa.heap.size 9 1 _ _ _).lt k hk).1);have hmo:=more_names (N:=0) HBa.out.size (HBa.out.trans (hb2a.mono HBa.out.size)) hown3 hg3 (fun k hk => ((ownsRow_le hown2 (by simp):w2.ownsRow wa.heap.size 9 1 _ _ _).lt k hk).1) rfl;have HMO:=Hid.mk' hmo;obtain ⟨ao3,cap3,rfl,_⟩:=hmo))
      | ((refine step_app_in rfl (.tmp 19) (.tmp 22) rfl (base:=wa.heap.size) ((ownsRow_le hown2 (by simp)).alloc _) x w2.heap.size ((blk_cell (heap_alloc_new w2 _) 0).trans rfl) rfl rfl (by omega) (by have:=hb2a.size;simp;omega) ?_;intro v' w3 hown3 hg3;have hb3a:Below wa.heap.size wa w3:=(hb2a.alloc hb2a.size _).grown hg3 (by have:=hb2a.size;simp;omega) (fun k hk => ((ownsRow_le hown2 (by simp):w2.ownsRow wa.heap.size 9 1 _ _ _).lt k hk).1);have hmo:=more_names (N:=0) HBa.out.size (HBa.out.trans ((hb2a.alloc hb2a.size _).mono HBa.out.size)) hown3 hg3 (fun k hk => ((ownsRow_le hown2 (by simp):w2.ownsRow wa.heap.size 9 1 _ _ _).lt k hk).1) rfl;have HMO:=Hid.mk' hmo;obtain ⟨ao3,cap3,rfl,_⟩:=hmo)))
    all_goals
     go_wp2_with fail
     go_meet
     case rel => simpa only [List.length_append,List.length_singleton] using HMO.out
   case rest =>
    obtain ⟨ao3,cap3,hu7,hnm3,hb3⟩:=hcut
    subst hu7
    have hb03:Below w.heap.size w wc:=(HB1.out.trans (HB.out.mono HB1.out.size)).trans (hb3.mono (Nat.le_trans HB1.out.size HB.out.size))
    have CL:=HR.out wc hb03 _ _ hnm3
    have HB13:Hid (Below w1.heap.size w1 wc):=HB.out.trans (hb3.mono HB.out.size)
    have HB03:Hid _:=hb03
    have HNM3:Hid (NamesAt wc (.slice ao3 (q ++ [x]).length cap3) (q ++ [x])):=hnm3
    have hlq:(q ++ [x]).length = q.length + 1:=by simp
    simp only [hlq] at CL ⊢
    clear hnm3 hb3 hb03 ca cx K1 CC hlq
    go_wp2_with fail
    refine CL.mono ?_
    rintro e w4 ⟨⟨v4,rfl,hv4⟩,hb4⟩
    have hform:v4 = .nilIface∨∃ k n,v4 = .iface k (.pointer (some ⟨n,0,none⟩)):=by
     cases hs:(some (Tree.dir es)).bind fun t => sub t (q ++ [x]) with
     | none => rw [hs] at hv4;exact .inl hv4
     | some t => rw [hs] at hv4;exact .inr (RepT.form hv4)
    have HB14:Hid (Below w1.heap.size w1 w4):=HB13.out.trans (hb4.mono HB13.out.size)
    have HB04:Hid (Below w.heap.size w w4):=HB03.out.trans (hb4.mono HB03.out.size)
    have CJ:=prgJoin_any (q ++ [x]) [47] _ w4 (names_below HNM3.out hb4 (Nat.le_refl _)) (by simp;omega) (fun y hy => by
     simp only [List.mem_append,List.mem_singleton] at hy
     rcases hy with hy | rfl
     ·have:=hqn y hy;omega
     ·omega) (by simp)
    rw [List.length_append,List.length_singleton,join_path] at CJ
    clear hv4 CL hb4
    by_cases hf:look (some (.dir es)) (q ++ [x]) = .atFile
    ·have R0:Hid (firstO es x ds = joinP (q ++ [x])):=HA.out.trans (FH.out hf)
     rw [hf,show placeN .atFile = 2 from rfl]
     generalize joinP (q ++ [x]) = js at *
     clear FH FM
     rcases hform with rfl | ⟨kk,nn,rfl⟩
     all_goals
      go_wp2_with fail
      refine CJ.mono ?_
      rintro e w5 ⟨rfl,hb5⟩
      have R:Hid (TextRet w (firstO es x ds) (.returned (SV js)) w5):=⟨by rw [R0.out],HB04.out.trans (hb5.mono HB04.out.size)⟩
      clear hb5
      go_wp2
      go_ret
      exact R.out
    ·have R0:Hid (firstO es x ds = firstO es x (ds.drop (k + 1))):=HA.out.trans (FM.out hf)
     have hp2:(placeN (look (some (.dir es)) (q ++ [x])) == 2) = false:=by
      cases hl:look (some (.dir es)) (q ++ [x]) <;> first | rfl | exact absurd hl hf
     generalize placeN (look (some (.dir es)) (q ++ [x])) = pl at *
     clear FH FM CJ
     rcases hform with rfl | ⟨kk,nn,rfl⟩
     all_goals
      go_wp2
      go_roundw
      case rel => exact ⟨k + 1,by omega,by go_num,HB14.out,R0.out⟩
      case measure => simp [intOf];omega
  ·have hki:¬ (k:Int) < (ds.length:Int):=by omega
   have R:Hid (TextRet w (firstO es x ds) (.returned (SV noT)) wr):=⟨by rw [HA.out,List.drop_eq_nil_of_le (by omega)];rfl,HB1.out.trans (HB.out.mono HB1.out.size)⟩
   go_wp2
   go_ret
   exact R.out
end Go.Proofs.YtdcbgfhkfmohiaaGreatDoor

namespace Go.Proofs.YtdcbgfhkfmohiaaGreatDoor
open Go.RowKit Go.Shelf
attribute [local go_sem] Oper.semAt_some
theorem names_blk {w W:World} {g n c:Nat} {ps:List Str} (h:NamesAt w (.slice (some ⟨g,0,none⟩) n c) ps) (hg:W.heap[g]? = w.heap[g]?) (hs:w.heap.size ≤ W.heap.size):NamesAt W (.slice (some ⟨g,0,none⟩) n c) ps:=by
 obtain ⟨ao,cap,e,h2,h3,h4⟩:=h
 refine ⟨ao,cap,e,h2,h3,fun k hk => ?_⟩
 obtain ⟨g',o',e2,h5,h6⟩:=h4 k hk
 simp only [Value.slice.injEq] at e
 have e3:=e.1.trans e2
 simp only [Option.some.injEq,Addr.mk.injEq] at e3
 exact ⟨g',o',e2,by omega,(cell_blk (by rw [← e3.1];exact hg)).trans h6⟩
def lineG (ps:List Str) (z:Str × Nat):Str:=if laidL runS spelledL ps (splitL 47 z.1) then z.1 ++ [10] else []
theorem lineG_yes {ps:List Str} {z:Str × Nat} (h:laidL runS spelledL ps (splitL 47 z.1) = true):lineG ps z = z.1 ++ [10]:=by unfold lineG;rw [if_pos h]
theorem lineG_no {ps:List Str} {z:Str × Nat} (h:laidL runS spelledL ps (splitL 47 z.1) = false):lineG ps z = []:=by unfold lineG;rw [if_neg (by rw [h];simp)]
theorem files_short {es:Ents} (hw:WFE es) (h5:heightE es ≤ 5) (hn:(filesE es).length ≤ 20) (ps:List Str) :
  ∀ pre,pre <+: chgS 6 [] none (some (.dir es))→(pre.flatMap (lineG ps)).length ≤ 20 * 60∧∀ x ∈ pre,x.1.length ≤ 54:=by
 have h4:(chgS 6 [] none (some (.dir es))).length ≤ 20:=by rw [chg_files hw h5,List.length_map];exact hn
 intro pre hpre
 have hx:∀ x ∈ pre,x.1.length ≤ 54:=fun x hx => by
  have:=chgS_len 6 [] _ _ (show fitsT 6 none from trivial) (fits_root hw h5) x (hpre.subset hx)
  simpa using this
 refine ⟨?_,hx⟩
 have h6:=flatM_len (lineG ps) 60 pre (fun x hxm => by
  have:=hx x hxm
  unfold lineG
  split
  ·simp;omega
  ·simp)
 have h7:=hpre.length_le
 have:pre.length * 60 ≤ 20 * 60:=Nat.mul_le_mul_right _ (by omega)
 omega
set_option maxHeartbeats 8000000 in
set_option maxRecDepth 50000 in
theorem fitting_any (B:Bank) (es:Ents) (ps:List Str) (g n c:Nat) (w:World) (hB:BankAt w B) (hes:es ∈ B.ds) (hw:WFE es) (h5:heightE es ≤ 5) (hfew:(filesE es).length ≤ 20) (hnm:NamesAt w (.slice (some ⟨g,0,none⟩) n c) ps) (hg:g < w.heap.size) (hp1:ps.length ≤ 1000) (hp2:∀ x ∈ ps,x.length ≤ 1000) :
  Calls Tryz.prog 83 #[ptrV (B.ad (.dir es)),.slice (some ⟨g,0,none⟩) n c] w fun e w' => TextRet w ((chgS 6 [] none (some (.dir es))).flatMap (lineG ps)) e w':=by
 have HF:Hid _:=fits_root hw h5
 have HS:Hid _:=files_short hw h5 hfew ps
 have HC:=changes_any noEnt ([],dirV (B.ad (.dir es))) []
 obtain ⟨b1,hb1⟩ : ∃ b1,B.ad (.dir es) = b1:=⟨_,rfl⟩
 rw [hb1] at HC ⊢
 have HB1:Hid _:=hb1
 have HBK:Hid _:=hB
 have HES:Hid _:=hes
 have HNM:Hid _:=hnm
 clear hb1 hB hes hnm
 refine (callsIn_wide (n:=0)).1 ?_
 refine callsIn_of_wp_marks Tryz.func83 rfl trivial ?_ rfl
 refine (wpIn_wide (n:=0)).2 ?_
 simp only [Tryz.ntmps83,List.size_toArray,List.length_cons,List.length_nil,Nat.reduceAdd,Nat.reduceSub,Array.replicate_succ,Array.replicate_zero,List.push_toArray,List.append_toArray,List.nil_append,List.cons_append]
 go_wp2_with (go_at_call 46;refine (HC _ rfl rfl).mono ?_;rintro e w' ⟨rfl,rfl⟩)
 have n0:=heap_alloc_new w (.cells #[.slice (some ⟨g,0,none⟩) n c] 48)
 have h00:Below w.heap.size w (w.alloc (.cells #[.slice (some ⟨g,0,none⟩) n c] 48)):=(Below.refl _ w).alloc (Nat.le_refl _) _
 have hz00:(w.alloc (.cells #[.slice (some ⟨g,0,none⟩) n c] 48)).heap.size = w.heap.size + 1:=by simp
 generalize w.alloc (.cells #[.slice (some ⟨g,0,none⟩) n c] 48) = wa at *
 have n1:=heap_alloc_new wa (.cells #[.pointer none,.slice none 0 0] 94)
 have h1:Below wa.heap.size wa (wa.alloc (.cells #[.pointer none,.slice none 0 0] 94)):=(Below.refl _ wa).alloc (Nat.le_refl _) _
 have hz1:(wa.alloc (.cells #[.pointer none,.slice none 0 0] 94)).heap.size = w.heap.size + 1 + 1:=by simp [hz00]
 generalize wa.alloc (.cells #[.pointer none,.slice none 0 0] 94) = wb at *
 have tb:=three_blocks wb (.cells #[SV [],.nilIface] 101) (.cells #[SV [],dirV b1] 101) (.cells #[SV []] 9)
 generalize hW5:((wb.alloc (.cells #[SV [],.nilIface] 101)).alloc (.cells #[SV [],dirV b1] 101)).alloc (.cells #[SV []] 9) = w5 at *
 have hs5:wb.heap.size + 3 ≤ w5.heap.size:=by rw [← hW5];simp
 clear hW5 HC
 rw [hz00] at n1 h1
 rw [hz1] at tb hs5
 have h15:Below (w.heap.size + 1) wa w5:=h1.trans (tb.2.2.2.mono (by omega))
 have h5' : Below w.heap.size w w5:=h00.trans (h15.mono (by omega))
 have HD5:Hid (w5.heap[w.heap.size + 1]? = some (.cells #[.pointer none,.slice none 0 0] 94 (0,0))):=(tb.2.2.2.block _ (by omega)).trans n1
 have HX5:Hid (w5.heap[w.heap.size]? = some (.cells #[.slice (some ⟨g,0,none⟩) n c] 48 (0,0))):=(h15.block _ (by omega)).trans n0
 have HBank:Hid (BankAt w5 B):=HBK.out.below h5'
 have CH:Hid (ChgAt w5 B [] [] none (some (.dir es)) (w.heap.size + 1 + 1) (w.heap.size + 1 + 1 + 1) (w.heap.size + 1 + 1 + 2)) :=
  ⟨HBank.out,trivial,HES.out,tb.1,by rw [← HB1.out] at tb;exact tb.2.1,tb.2.2.1⟩
 have SQ:=changes_top B es (w.heap.size + 1 + 1) (w.heap.size + 1 + 1 + 1) (w.heap.size + 1 + 1 + 2) w5 CH.out HF.out
 generalize hxs:chgS 6 [] none (some (.dir es)) = xs at *
 have H5:Hid (Below w.heap.size w w5):=h5'
 have OWN:Hid (∀ k,B.own k→k < w.heap.size):=fun k hk => HBK.out.own_lt hk
 have HXS:Hid _:=hxs
 clear hxs
 clear tb n0 n1 h00 h1 h15 h5' HBank CH HES HF HBK
 refine (wpIn_wide (n:=0)).1 ?_
 refine range_flat (m:=0) (α:=Str × Nat) (gf:=71) (lb:=#[ptrV (w.heap.size + 1 + 1),ptrV (w.heap.size + 1 + 1 + 1),ptrV (w.heap.size + 1 + 1 + 2)]) rfl (enters_of Tryz.func71 (by kernel_rfl) rfl)
  SQ (fun _ => rfl) (fun k => k = w.heap.size + 1) ?hR
  (fun pre O1 V => Bld (w.heap.size + 1) (pre.flatMap (lineG ps)) O1 V∧w5.heap.size ≤ V.heap.size) (fun pre => (Bld.local (w.heap.size + 1) (w.heap.size + 1) _ (Nat.le_refl _)).mono (by omega))
  ⟨Bld.new HD5.out,Nat.le_refl _⟩
  (fun t z => ((t.setIfInBounds 12 (SV z.1)).setIfInBounds 13 (.int .u8 z.2)).setIfInBounds 6 (SV z.1)) ?assign ?body ?done
 case hR =>
  rintro k (rfl | rfl | rfl | hk)
  ·exact ⟨by omega,by omega⟩
  ·exact ⟨by omega,by omega⟩
  ·exact ⟨by omega,by omega⟩
  ·have:=OWN.out k hk
   exact ⟨by omega,by omega⟩
 case assign =>
  intro l x V K hK
  gi_wp2
  exact hK
 case body =>
  rintro l pre z O1 V2 hl hpre ⟨hB2',hs2⟩ ht2
  have hsh:=HS.out pre ((List.prefix_append pre [z]).trans hpre)
  have hsh2:=(HS.out _ hpre).2 z (by simp)
  have hgV:V2.heap[g]? = w.heap[g]?:=(ht2.blk g (by omega) (by omega)).trans (H5.out.block g hg)
  have C1:Hid _:=prgFits_any z.1 ps g n c V2 (names_blk HNM.out hgV (by omega)) (by omega) hp1 hp2 (by omega)
  have hbx:V2.heap[w.heap.size]? = some (.cells #[.slice (some ⟨g,0,none⟩) n c] 48 (0,0)):=(ht2.blk _ (by omega) (by omega)).trans HX5.out
  have hcell:V2.cell? ⟨w.heap.size,0,none⟩ = some (.slice (some ⟨g,0,none⟩) n c):=by rw [Lib.cell_of_heap hbx];rfl
  have HP:Hid (Turn (fun k => k = w.heap.size + 1) w5 V2 O1∧w5.heap.size ≤ V2.heap.size):=⟨ht2,hs2⟩
  have HL:Hid ((pre.flatMap (lineG ps)).length ≤ 20 * 60∧z.1.length ≤ 54):=⟨hsh.1,hsh2⟩
  have HBV:Hid _:=hB2'
  clear hB2' hs2 ht2 hpre hsh hsh2 hgV hbx
  obtain ⟨yes,hy⟩ : ∃ yes,laidL runS spelledL ps (splitL 47 z.1) = yes:=⟨_,rfl⟩
  rw [hy] at C1
  have HY:Hid _:=hy
  clear hy
  simp only [List.setIfInBounds_toArray,List.set_cons_zero,List.set_cons_succ]
  gi_wp2_with fail
  refine ⟨trivial,(by first | rfl | (intro h;cases h)),(CallsIn.inRound l (callsIn_wide.2 C1.out)).mono ?_⟩
  rintro e V3 ⟨rfl,hb3⟩
  have hB3:Bld (w.heap.size + 1) (pre.flatMap (lineG ps)) O1 V3:=(Bld.local (w.heap.size + 1) (w.heap.size + 1) _ (Nat.le_refl _)).below HBV.out hb3
  have HT3:Hid (Turn O1 V2 V3 O1):=Turn.of_below hb3
  clear hb3 C1 HBV hcell
  cases yes
  ·have R:Hid (∃ O',(Bld (w.heap.size + 1) ((pre ++ [z]).flatMap (lineG ps)) O' V3∧w5.heap.size ≤ V3.heap.size)∧Turn O1 V2 V3 O'):=by
    refine ⟨O1,⟨?_,Nat.le_trans HP.out.2 HT3.out.size⟩,HT3.out⟩
    have e:(pre ++ [z]).flatMap (lineG ps) = pre.flatMap (lineG ps):=by simp [lineG_no HY.out,List.flatMap_append]
    rw [e];exact hB3
   clear hB3 HP
   gi_wp2
   exact R.out
  ·have C2:Hid _:=writeString_any (w.heap.size + 1) _ z.1 O1 V3 hB3 (by have:=HL.out;omega)
   clear hB3
   gi_wp2_with fail
   refine ⟨trivial,(by first | rfl | (intro h;cases h)),(CallsIn.inRound l (callsIn_wide.2 C2.out)).mono ?_⟩
   rintro e V4 ⟨rfl,O4,hB4,ht4⟩
   have C3:Hid _:=writeByte_any (w.heap.size + 1) _ 10 O4 V4 hB4 (by have:=HL.out;simp only [List.length_append];omega)
   have HT4:Hid _:=ht4
   clear hB4 ht4 C2
   gi_wp2_with fail
   refine ⟨trivial,(by first | rfl | (intro h;cases h)),(CallsIn.inRound l (callsIn_wide.2 C3.out)).mono ?_⟩
   rintro e V5 ⟨rfl,O5,hB5,ht5⟩
   have R:Hid (∃ O',(Bld (w.heap.size + 1) ((pre ++ [z]).flatMap (lineG ps)) O' V5∧w5.heap.size ≤ V5.heap.size)∧Turn O1 V2 V5 O'):=by
    have ht:=(HT3.out.trans HT4.out).trans ht5
    refine ⟨O5,⟨?_,Nat.le_trans HP.out.2 ht.size⟩,ht⟩
    have e:(pre ++ [z]).flatMap (lineG ps) = pre.flatMap (lineG ps) ++ z.1 ++ [10]:=by simp [lineG_yes HY.out,List.flatMap_append]
    rw [e];exact hB5
   clear hB5 ht5 C3 HT3 HT4 HP
   gi_wp2
   exact R.out
 case done =>
  rintro D O' V' hD ⟨hB',hs'⟩ hnD ht hdef
  have C:=string_any (w.heap.size + 1) _ O' V' hB'
  have HT:Hid _:=ht
  have HN:Hid (¬ O' D):=hnD
  have HF:Hid _:=hdef
  clear hB' ht hnD hdef
  go_wp2_with fail
  refine C.mono ?_
  rintro e V6 ⟨rfl,hb6,hk6⟩
  have hdef6:V6.heap[D]? = some (.deferred (some [])):=(hk6 D HN.out).trans HF.out
  have R:Hid (TextRet w (xs.flatMap (lineG ps)) (.returned (SV (xs.flatMap (lineG ps)))) (V6.putObj D (.deferred none))):=by
   refine ⟨rfl,?_⟩
   have hbv:Below w.heap.size w5 V':=⟨HT.out.os,HT.out.tape,HT.out.output,HT.out.size,fun k hk => HT.out.blk k (by have:=H5.out.size;omega) (fun e => by omega)⟩
   have hb7:Below w.heap.size w V6:=(H5.out.trans hbv).trans (hb6.mono (by omega))
   refine ⟨hb7.os,hb7.tape,hb7.output,by have:=hb7.size;simpa using this,fun k hk => (World.putObj_heap_other (by have:=H5.out.size;omega)).trans (hb7.block k hk)⟩
  clear C HT HN HF hb6 hk6 HS SQ
  go_wp2
  exact ⟨by simp,.inl ⟨_,_,rfl,run_takeDeferred hdef6,⟨_,results_tmp (t:=4) rfl _ _ _,by rw [HXS.out];exact R.out⟩⟩⟩
end Go.Proofs.YtdcbgfhkfmohiaaGreatDoor

namespace Go.Proofs.YtdcbgfhkfmohiaaGreatDoor
open Go.RowKit
noncomputable def answerQ (es:Ents):Qn→Str
 | .ex o => kindT es (o.getD [])
 | .li o => listT es (o.getD [])
 | .re o => readT es (o.getD [])
 | .gl o => (chgS 6 [] none (some (.dir es))).flatMap (lineG (o.getD []))
 | .fi x ds => firstO es x ds
theorem fault_zero {n:Nat} {o:Option (List Str)} (hn:n ≠ 0) (h:faultO n o = 0):∃ q,o = some q:=by
 cases o with
 | none => exact absurd h hn
 | some q => exact ⟨q,rfl⟩
theorem place_some {p:Str} {q:List Str} (h:placeO p = some q):isPlaceL p = true∧q = placeL p:=by
 unfold placeO at h
 cases hp:isPlaceL p
 ·rw [hp] at h;simp at h
 ·rw [hp] at h;simp at h;exact ⟨rfl,h.symm⟩
theorem pat_some {p:Str} {q:List Str} (h:patO p = some q):isPatternL p = true∧q = splitL 47 p:=by
 unfold patO at h
 cases hp:isPatternL p
 ·rw [hp] at h;simp at h
 ·rw [hp] at h;simp at h;exact ⟨rfl,h.symm⟩
theorem answer_tree {es:Ents} {xs:List Str} {q:Qn} (hw:WFE es) (h5:heightE es ≤ 5) (hq:qnOf xs = some q) (hf:faultQ q = 0):answerQ es q = answerL (toF (filesE es)) xs:=by
 unfold qnOf at hq
 split at hq
 ·simp at hq
 ·split at hq
  ·rename_i h1
   simp only [Option.some.injEq] at hq
   subst hq
   simp only [Bool.and_eq_true,beq_iff_eq,decide_eq_true_eq] at h1
   rw [answerL_first h1.1 rfl]
   have hn:isNameL (xs.getD 1 []) false = true:=by
    cases hn:isNameL (xs.getD 1 []) false
    ·rw [fault_no hn] at hf;omega
    ·rfl
   have hd:∀ d ∈ xs.drop 2,isPlaceL d = true:=by
    intro d hd
    cases hp:isPlaceL d
    ·obtain ⟨j,hj,rfl⟩:=List.getElem_of_mem hd
     rw [fault_bad hn (k:=j) (by rw [List.length_map];exact hj) (by rw [List.getElem_map];unfold placeO;rw [hp];rfl)] at hf
     omega
    ·rfl
   rw [first_tree hw hn _ hd,answerQ,firstO,List.map_map]
   congr 1
   apply List.map_congr_left
   intro d hd'
   simp only [Function.comp]
   unfold placeO
   rw [hd d hd',if_pos rfl]
   rfl
  ·split at hq
   ·simp at hq
   ·split at hq
    ·rename_i h1
     simp only [Option.some.injEq] at hq
     subst hq
     obtain ⟨p,hp⟩:=fault_zero (by omega) (show faultO 3 _ = 0 from hf)
     obtain ⟨h2,h3⟩:=place_some hp
     rw [answerL_exists (by simpa using h1) rfl,kind_tree hw h2,answerQ,hp,h3]
     rfl
    ·split at hq
     ·rename_i h1
      simp only [Option.some.injEq] at hq
      subst hq
      obtain ⟨p,hp⟩:=fault_zero (by omega) (show faultO 3 _ = 0 from hf)
      obtain ⟨h2,h3⟩:=place_some hp
      rw [answerL_list (by simpa using h1) rfl,list_tree hw h2,answerQ,hp,h3]
      rfl
     ·split at hq
      ·rename_i h1
       simp only [Option.some.injEq] at hq
       subst hq
       obtain ⟨p,hp⟩:=fault_zero (by omega) (show faultO 3 _ = 0 from hf)
       obtain ⟨h2,h3⟩:=place_some hp
       rw [answerL_read (by simpa using h1) rfl,read_tree hw h2,answerQ,hp,h3]
       rfl
      ·split at hq
       ·rename_i h1
        simp only [Option.some.injEq] at hq
        subst hq
        obtain ⟨p,hp⟩:=fault_zero (by omega) (show faultO 9 _ = 0 from hf)
        obtain ⟨h2,h3⟩:=pat_some hp
        rw [answerL_glob (by simpa using h1) rfl,glob_tree hw h5,answerQ,hp,h3]
        rfl
       ·simp at hq
end Go.Proofs.YtdcbgfhkfmohiaaGreatDoor

namespace Go.Proofs.YtdcbgfhkfmohiaaGreatDoor
open Go.RowKit Go.Shelf
attribute [local go_sem] Oper.semAt_some
theorem Tryz.isExEx (u:Value) (w:World):(Instr.typeAssert (.iface 166 (.agg #[u])) 114 166 true).run Tryz.prog w = .ok (.tuple #[.agg #[u],.bool true]) w:=by kernel_rfl
theorem Tryz.isLiEx (u:Value) (w:World):(Instr.typeAssert (.iface 168 (.agg #[u])) 114 166 true).run Tryz.prog w = .ok (.tuple #[.agg #[.slice none 0 0],.bool false]) w:=by kernel_rfl
theorem Tryz.isLiLi (u:Value) (w:World):(Instr.typeAssert (.iface 168 (.agg #[u])) 114 168 true).run Tryz.prog w = .ok (.tuple #[.agg #[u],.bool true]) w:=by kernel_rfl
theorem Tryz.isReEx (u:Value) (w:World):(Instr.typeAssert (.iface 169 (.agg #[u])) 114 166 true).run Tryz.prog w = .ok (.tuple #[.agg #[.slice none 0 0],.bool false]) w:=by kernel_rfl
theorem Tryz.isReLi (u:Value) (w:World):(Instr.typeAssert (.iface 169 (.agg #[u])) 114 168 true).run Tryz.prog w = .ok (.tuple #[.agg #[.slice none 0 0],.bool false]) w:=by kernel_rfl
theorem Tryz.isReRe (u:Value) (w:World):(Instr.typeAssert (.iface 169 (.agg #[u])) 114 169 true).run Tryz.prog w = .ok (.tuple #[.agg #[u],.bool true]) w:=by kernel_rfl
theorem Tryz.isGlEx (u:Value) (w:World):(Instr.typeAssert (.iface 171 (.agg #[u])) 114 166 true).run Tryz.prog w = .ok (.tuple #[.agg #[.slice none 0 0],.bool false]) w:=by kernel_rfl
theorem Tryz.isGlLi (u:Value) (w:World):(Instr.typeAssert (.iface 171 (.agg #[u])) 114 168 true).run Tryz.prog w = .ok (.tuple #[.agg #[.slice none 0 0],.bool false]) w:=by kernel_rfl
theorem Tryz.isGlRe (u:Value) (w:World):(Instr.typeAssert (.iface 171 (.agg #[u])) 114 169 true).run Tryz.prog w = .ok (.tuple #[.agg #[.slice none 0 0],.bool false]) w:=by kernel_rfl
theorem Tryz.isGlGl (u:Value) (w:World):(Instr.typeAssert (.iface 171 (.agg #[u])) 114 171 true).run Tryz.prog w = .ok (.tuple #[.agg #[u],.bool true]) w:=by kernel_rfl
theorem Tryz.isFiEx (x u:Value) (w:World):(Instr.typeAssert (.iface 174 (.agg #[x,u])) 114 166 true).run Tryz.prog w = .ok (.tuple #[.agg #[.slice none 0 0],.bool false]) w:=by kernel_rfl
theorem Tryz.isFiLi (x u:Value) (w:World):(Instr.typeAssert (.iface 174 (.agg #[x,u])) 114 168 true).run Tryz.prog w = .ok (.tuple #[.agg #[.slice none 0 0],.bool false]) w:=by kernel_rfl
theorem Tryz.isFiRe (x u:Value) (w:World):(Instr.typeAssert (.iface 174 (.agg #[x,u])) 114 169 true).run Tryz.prog w = .ok (.tuple #[.agg #[.slice none 0 0],.bool false]) w:=by kernel_rfl
theorem Tryz.isFiGl (x u:Value) (w:World):(Instr.typeAssert (.iface 174 (.agg #[x,u])) 114 171 true).run Tryz.prog w = .ok (.tuple #[.agg #[.slice none 0 0],.bool false]) w:=by kernel_rfl
theorem Tryz.isFiFi (x u:Value) (w:World):(Instr.typeAssert (.iface 174 (.agg #[x,u])) 114 174 true).run Tryz.prog w = .ok (.tuple #[.agg #[x,u],.bool true]) w:=by kernel_rfl
theorem root_rep {w:World} {B:Bank} (hB:BankAt w B) {es:Ents} (h:es ∈ B.ds):RepO w (QK w.heap.size B) (dirV (B.ad (.dir es))) (some (.dir es)):=by
 have:=rep_has hB w.heap.size _ (.dir es) (Nat.le_refl _) h
 unfold valT at this
 exact this
theorem TextRet.back {w W:World} {s:Str} {e:Ending} {w' : World} (h:TextRet W s e w') (hb:Below w.heap.size w W):TextRet w s e w':=⟨h.1,hb.trans (h.2.mono hb.size)⟩
def shortP (q:List Str):Prop:=q.length ≤ 100∧∀ y ∈ q,y.length ≤ 100
def shortQ:Qn→Prop
 | .ex o => ∃ q,o = some q∧shortP q
 | .li o => ∃ q,o = some q∧shortP q
 | .re o => ∃ q,o = some q∧shortP q
 | .gl o => ∃ q,o = some q∧shortP q
 | .fi x ds => x.length ≤ 100∧∀ k (h:k < ds.length),∃ q,ds[k] = some q∧shortP q
set_option maxHeartbeats 8000000 in
set_option maxRecDepth 50000 in
theorem answer_any (B:Bank) (es:Ents) (q:Qn) (v:Value) (base:Nat) (w:World) (hB:BankAt w B) (hes:es ∈ B.ds) (hw:WFE es) (h5:heightE es ≤ 5) (hfew:(filesE es).length ≤ 20) (hv:QAt base w v q) (hq:shortQ q) :
  Calls Tryz.prog 53 #[v,ptrV (B.ad (.dir es))] w fun e w' => TextRet w (answerQ es q) e w':=by
 have HR:Hid (∀ W,Below w.heap.size w W→RepO W (QK W.heap.size B) (dirV (B.ad (.dir es))) (some (.dir es))):=fun W hb => root_rep (hB.below hb) hes
 cases q with
 | ex o =>
  obtain ⟨p,rfl,hp⟩:=hq
  obtain ⟨ao,n,c,rfl,hn⟩:=hv
  have C:Hid (∀ W,Below w.heap.size w W→Calls Tryz.prog 80 #[ptrV (B.ad (.dir es)),.slice ao n c] W fun e w' => TextRet w (answerQ es (.ex (some p))) e w'):=fun W hb => by
   obtain ⟨g,n',c',e,_,_,h4⟩:=hn.below hb
   exact (kindAt_any _ es p _ _ W (HR.out W hb) hw h4).mono fun e w' h => h.back hb
  have a0:=Tryz.isExEx (.slice ao n c)
  clear hn hB hes HR hw h5 hfew hp
  generalize answerQ es (.ex (some p)) = ans at *
  generalize B.ad (.dir es) = b at *
  go_enter Tryz.func53,Tryz.ntmps53
  go_wp2_with fail
  refine (C.out _ ((Below.refl _ _).alloc (Nat.le_refl _) _)).mono ?_
  rintro e w1 ⟨rfl,hb1⟩
  have R:Hid (TextRet w ans (.returned (SV ans)) w1):=⟨rfl,hb1⟩
  clear hb1 C
  go_wp2
  go_ret
  exact R.out
 | li o =>
  obtain ⟨p,rfl,hp⟩:=hq
  obtain ⟨ao,n,c,rfl,hn⟩:=hv
  have C:Hid (∀ W,Below w.heap.size w W→Calls Tryz.prog 81 #[ptrV (B.ad (.dir es)),.slice ao n c] W fun e w' => TextRet w (answerQ es (.li (some p))) e w'):=fun W hb => by
   obtain ⟨g,n',c',e,_,_,h4⟩:=hn.below hb
   exact (listAt_any _ es p _ _ W (HR.out W hb) hw h4).mono fun e w' h => h.back hb
  have a0:=Tryz.isLiEx (.slice ao n c)
  have a1:=Tryz.isLiLi (.slice ao n c)
  clear hn hB hes HR hw h5 hfew hp
  generalize answerQ es (.li (some p)) = ans at *
  generalize B.ad (.dir es) = b at *
  go_enter Tryz.func53,Tryz.ntmps53
  go_wp2_with fail
  refine (C.out _ ((Below.refl _ _).alloc (Nat.le_refl _) _)).mono ?_
  rintro e w1 ⟨rfl,hb1⟩
  have R:Hid (TextRet w ans (.returned (SV ans)) w1):=⟨rfl,hb1⟩
  clear hb1 C
  go_wp2
  go_ret
  exact R.out
 | re o =>
  obtain ⟨p,rfl,hp⟩:=hq
  obtain ⟨ao,n,c,rfl,hn⟩:=hv
  have C:Hid (∀ W,Below w.heap.size w W→Calls Tryz.prog 82 #[ptrV (B.ad (.dir es)),.slice ao n c] W fun e w' => TextRet w (answerQ es (.re (some p))) e w'):=fun W hb => by
   obtain ⟨g,n',c',e,_,_,h4⟩:=hn.below hb
   exact (dataAt_any _ es p _ _ W (HR.out W hb) hw h4).mono fun e w' h => h.back hb
  have a0:=Tryz.isReEx (.slice ao n c)
  have a1:=Tryz.isReLi (.slice ao n c)
  have a2:=Tryz.isReRe (.slice ao n c)
  clear hn hB hes HR hw h5 hfew hp
  generalize answerQ es (.re (some p)) = ans at *
  generalize B.ad (.dir es) = b at *
  go_enter Tryz.func53,Tryz.ntmps53
  go_wp2_with fail
  refine (C.out _ ((Below.refl _ _).alloc (Nat.le_refl _) _)).mono ?_
  rintro e w1 ⟨rfl,hb1⟩
  have R:Hid (TextRet w ans (.returned (SV ans)) w1):=⟨rfl,hb1⟩
  clear hb1 C
  go_wp2
  go_ret
  exact R.out
 | gl o =>
  obtain ⟨p,rfl,hp⟩:=hq
  obtain ⟨ao,n,c,rfl,hn⟩:=hv
  have C:Hid (∀ W,Below w.heap.size w W→Calls Tryz.prog 83 #[ptrV (B.ad (.dir es)),.slice ao n c] W fun e w' => TextRet w (answerQ es (.gl (some p))) e w'):=fun W hb => by
   obtain ⟨g,n',c',e,_,h3,h4⟩:=hn.below hb
   cases e
   exact (fitting_any B es p g n c W (hB.below hb) hes hw h5 hfew h4 h3 (by have:=hp.1;omega) (fun x hx => by have:=hp.2 x hx;omega)).mono fun e w' h => h.back hb
  have a0:=Tryz.isGlEx (.slice ao n c)
  have a1:=Tryz.isGlLi (.slice ao n c)
  have a2:=Tryz.isGlRe (.slice ao n c)
  have a3:=Tryz.isGlGl (.slice ao n c)
  clear hn hB hes HR hw h5 hfew hp
  generalize answerQ es (.gl (some p)) = ans at *
  generalize B.ad (.dir es) = b at *
  go_enter Tryz.func53,Tryz.ntmps53
  go_wp2_with fail
  refine (C.out _ ((Below.refl _ _).alloc (Nat.le_refl _) _)).mono ?_
  rintro e w1 ⟨rfl,hb1⟩
  have R:Hid (TextRet w ans (.returned (SV ans)) w1):=⟨rfl,hb1⟩
  clear hb1 C
  go_wp2
  go_ret
  exact R.out
 | fi x ds =>
  obtain ⟨hx,hd⟩:=hq
  obtain ⟨ao,n,c,rfl,hn⟩:=hv
  have C:Hid (∀ W,Below w.heap.size w W→Calls Tryz.prog 84 #[ptrV (B.ad (.dir es)),.agg #[SV x,.slice ao n c]] W fun e w' => TextRet w (answerQ es (.fi x ds)) e w'):=fun W hb => by
   exact (firstPath_any _ es x ds base _ ao n c W (HR.out W hb) hw (hn.below hb) hd hx).mono fun e w' h => h.back hb
  have a0:=Tryz.isFiEx (SV x) (.slice ao n c)
  have a1:=Tryz.isFiLi (SV x) (.slice ao n c)
  have a2:=Tryz.isFiRe (SV x) (.slice ao n c)
  have a3:=Tryz.isFiGl (SV x) (.slice ao n c)
  have a4:=Tryz.isFiFi (SV x) (.slice ao n c)
  clear hn hB hes HR hw h5 hfew hd hx
  generalize answerQ es (.fi x ds) = ans at *
  generalize B.ad (.dir es) = b at *
  go_enter Tryz.func53,Tryz.ntmps53
  go_wp2_with fail
  refine (C.out _ ((Below.refl _ _).alloc (Nat.le_refl _) _)).mono ?_
  rintro e w1 ⟨rfl,hb1⟩
  have R:Hid (TextRet w ans (.returned (SV ans)) w1):=⟨rfl,hb1⟩
  clear hb1 C
  go_wp2
  go_ret
  exact R.out
end Go.Proofs.YtdcbgfhkfmohiaaGreatDoor

namespace Go.Proofs.YtdcbgfhkfmohiaaGreatDoor
open Go.RowKit Go.Shelf
attribute [local go_sem] Oper.semAt_some
theorem place_short {p:Str} {q:List Str} (hp:p.length ≤ 60) (h:placeO p = some q):shortP q:=by
 obtain ⟨_,rfl⟩:=place_some h
 unfold placeL
 split
 ·exact ⟨by simp,fun y hy => by simp at hy⟩
 ·exact ⟨by have:=splitL_len 47 p;omega,fun y hy => by have:=splitL_piece 47 p y hy;omega⟩
theorem pat_short {p:Str} {q:List Str} (hp:p.length ≤ 60) (h:patO p = some q):shortP q:=by
 obtain ⟨_,rfl⟩:=pat_some h
 exact ⟨by have:=splitL_len 47 p;omega,fun y hy => by have:=splitL_piece 47 p y hy;omega⟩
theorem getD_short {xs:List Str} (h:∀ x ∈ xs,x.length ≤ 60) (k:Nat):(xs.getD k []).length ≤ 60:=by
 rw [List.getD_eq_getElem?_getD]
 cases hg:xs[k]? with
 | none => simp
 | some y => exact h y (List.mem_of_getElem? hg)
theorem short_qn {xs:List Str} {q:Qn} (hx:∀ x ∈ xs,x.length ≤ 60) (hq:qnOf xs = some q) (hf:faultQ q = 0):shortQ q:=by
 have hp:∀ p:Str,p.length ≤ 60→faultO 3 (placeO p) = 0→∃ q,placeO p = some q∧shortP q:=fun p h1 h2 => by
  obtain ⟨q,hq⟩:=fault_zero (by omega) h2
  exact ⟨q,hq,place_short h1 hq⟩
 unfold qnOf at hq
 split at hq
 ·simp at hq
 ·split at hq
  ·simp only [Option.some.injEq] at hq
   subst hq
   refine ⟨by have:=getD_short hx 1;omega,fun k hk => ?_⟩
   simp only [faultQ] at hf
   split at hf
   ·split at hf
    ·rename_i _ hall
     rw [List.all_eq_true] at hall
     have h1:=hall _ (List.getElem_mem hk)
     rw [List.getElem_map] at h1 ⊢
     obtain ⟨q,hq⟩:=Option.isSome_iff_exists.1 h1
     exact ⟨q,hq,place_short (hx _ (List.mem_of_mem_drop (List.getElem_mem _))) hq⟩
    ·omega
   ·omega
  ·split at hq
   ·simp at hq
   ·split at hq
    ·simp only [Option.some.injEq] at hq
     subst hq
     exact hp _ (getD_short hx 1) hf
    ·split at hq
     ·simp only [Option.some.injEq] at hq
      subst hq
      exact hp _ (getD_short hx 1) hf
     ·split at hq
      ·simp only [Option.some.injEq] at hq
       subst hq
       exact hp _ (getD_short hx 1) hf
      ·split at hq
       ·simp only [Option.some.injEq] at hq
        subst hq
        obtain ⟨q,hq⟩:=fault_zero (by omega) (show faultO 9 _ = 0 from hf)
        exact ⟨q,hq,pat_short (getD_short hx 1) hq⟩
       ·simp at hq
set_option maxHeartbeats 8000000 in
set_option maxRecDepth 50000 in
theorem storeAsk_any (B:Bank) (r:RSt) (n:Int) (t:Str) (w:World) (hO:Okay w B) (ha:Agree B r) (hmx:MaxOk w) :
  Calls Tryz.prog 32 #[ptrV B.sb,.int .i64 n,SV t] w fun e w' => DiffOut w (askR r n t) e w':=by
 have s2:w.cell? ⟨B.sb,2,none⟩ = some (.map (some B.rs)):=(blk_cell hO.at'.store 2).trans rfl
 obtain ⟨v1,hl1,h1⟩:=snap_any hO ha n
 have LE:(Instr.lookup 82 (.map (some B.rs)) (.int .i64 n) false).run Tryz.prog w = .ok v1 w:=hl1 w ⟨0,rfl⟩
 have HO:Hid _:=hO
 have HM:Hid _:=hmx
 clear hl1 hO ha hmx
 rcases h1 with ⟨rfl,hf1⟩ | ⟨es1,k1,hk1,rfl,hf1⟩
 ·have R:Hid (DiffOut w (askR r n t) (.returned (.tuple #[SV [],.int .i64 2])) w):=by rw [Hid,askR_none hf1];exact ⟨rfl,Below.refl _ _⟩
  clear HO hf1
  go_enter Tryz.func32,Tryz.ntmps32
  go_wp2
  go_ret2
  exact R.out
 ·have HW1:Hid _:=HO.out.wf _ hk1
  have HD1:Hid (es1 ∈ B.ds):=HO.out.at'.roots _ hk1
  have HF:Hid _:=hf1
  have CP:Hid (Calls Tryz.prog 52 #[SV t] w fun e w' => ParseOut w t e w'):=parse_any t w HM.out
  clear hf1 hk1
  obtain ⟨b1,hb1⟩ : ∃ b1,B.ad (.dir es1) = b1:=⟨_,rfl⟩
  have HB1:Hid _:=hb1
  rw [hb1] at LE
  clear hb1
  go_enter Tryz.func32,Tryz.ntmps32
  go_wp2_with fail
  refine CP.out.mono ?_
  rintro e w2 ⟨hb2,hp⟩
  rcases hp with ⟨hc,rfl⟩ | ⟨hc,v,q,rfl,hq,hf,hv⟩
  ·have R:Hid (DiffOut w (askR r n t) (.returned (.tuple #[SV [],.int .i64 (checkL t:Nat)])) w2):=by rw [Hid,askR_bad HF.out hc];exact ⟨rfl,hb2⟩
   have hc' : ¬ (checkL t:Int) = 0:=by omega
   clear hc hb2 HF CP LE s2
   generalize (checkL t:Int) = ce at *
   go_wp2
   go_ret2
   exact R.out
  ·have h60:=(check_ok hc).1
   have hsh:shortQ q:=short_qn (fun x hx => by have:=splitL_piece 32 t x hx;omega) hq hf
   have HT:Hid _:=answer_tree HW1.out.1 HW1.out.2.2 hq hf
   have CA:Hid (Calls Tryz.prog 53 #[v,ptrV b1] w2 fun e w' => TextRet w2 (answerQ es1 q) e w'):=by
    have:=answer_any B es1 q v _ w2 (HO.out.at'.below hb2) HD1.out HW1.out.1 HW1.out.2.2 HW1.out.2.1 hv hsh
    rw [HB1.out] at this
    exact this
   have R:Hid (∀ w',Below w2.heap.size w2 w'→DiffOut w (askR r n t) (.returned (.tuple #[SV (answerQ es1 q),.int .i64 0])) w'):=fun w' hb' => by
    rw [askR_ok HF.out hc,← HT.out]
    exact ⟨rfl,hb2.trans (hb'.mono hb2.size)⟩
   obtain ⟨tv,cs,rfl⟩:=hv.iface
   clear hc hb2 HF CP hq hf hv HT HW1 HD1 hsh h60 LE s2
   generalize answerQ es1 q = an at *
   go_wp2_with fail
   refine CA.out.mono ?_
   rintro e w3 ⟨rfl,hb3⟩
   have R3:Hid _:=R.out w3 hb3
   clear R CA hb3
   go_wp2
   go_ret2
   exact R3.out
end Go.Proofs.YtdcbgfhkfmohiaaGreatDoor
