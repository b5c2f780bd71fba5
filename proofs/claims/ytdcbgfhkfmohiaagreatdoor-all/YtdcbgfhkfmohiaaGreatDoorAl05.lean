/- Plain: Move. -/
import Derived.Test.YtdcbgfhkfmohiaaGreatDoorAl04
import Derived.Lib.Bytealg
import Derived.Lib.IndexLaws
import Derived.Lib.Walk
import Derived.BigCall
import Derived.BigGuard
import Derived.Shelf.Abstract
namespace Go.Proofs.YtdcbgfhkfmohiaaGreatDoor
mutual
def heightT:Tree→Nat
 | .file _ => 0
 | .dir es => heightE es
def heightE:Ents→Nat
 | [] => 0
 | (_,t) :: es => max (1 + heightT t) (heightE es)
end
mutual
theorem height_le:∀ (t:Tree),WFT t→∀ k,heightT t ≤ k ↔ ∀ p d,fileAt t p = some d→p.length ≤ k
 | .file e,_,k => by
  unfold heightT
  simp only [Nat.zero_le,true_iff]
  intro p d h;rw [fileAt_file] at h;split at h
  ·rename_i e;subst e;simp
  ·simp at h
 | .dir es,h,k => by
  unfold heightT
  unfold WFT at h
  rw [heightE_le es h.2 k]
  constructor
  ·intro h2 p d hp
   cases p with
   | nil => simp
   | cons x r => exact h2 x r d hp
  ·intro h2 x r d hp;exact h2 (x :: r) d hp
theorem heightE_le:∀ (es:Ents),WFE es→∀ k,heightE es ≤ k ↔ ∀ x r d,fileAt (.dir es) (x :: r) = some d→(x :: r).length ≤ k
 | [],_,k => by
  unfold heightE
  simp only [Nat.zero_le,true_iff]
  intro x r d h;rw [fileAt_dir,findE] at h;simp at h
 | (y,t) :: es,h,k => by
  unfold WFE at h
  unfold heightE
  rw [Nat.max_le,heightE_le es h.2.2.2 k]
  have ih:=height_le t h.2.1 (k - 1)
  constructor
  ·rintro ⟨h1,h2⟩ x r d hp
   rw [fileAt_dir,findE] at hp
   by_cases e:y = x
   ·rw [if_pos e] at hp
    have:=ih.1 (by omega) r d hp
    simp;omega
   ·rw [if_neg e] at hp
    exact h2 x r d (by rw [fileAt_dir];exact hp)
  ·intro h2
   refine ⟨?_,?_⟩
   ·obtain ⟨p,d,hp⟩:=WFT.some t h.2.1
    have hk:∀ p d,fileAt t p = some d→p.length + 1 ≤ k:=by
     intro p d hp
     have:=h2 y p d (by rw [fileAt_dir,findE,if_pos rfl];exact hp)
     simpa using this
    have h0:=hk p d hp
    have:=ih.2 (fun p d hp => by have:=hk p d hp;omega)
    omega
   ·intro x r d hp
    refine h2 x r d ?_
    rw [fileAt_dir] at hp ⊢
    cases hf:findE es x with
    | none => rw [hf] at hp;simp at hp
    | some u =>
     rw [hf] at hp
     rw [findE,if_neg (bl_ne (h.2.2.1 _ (findE_mem hf))),hf];exact hp
end
theorem sub_app (t:Tree) (q r:List Str):sub t (q ++ r) = (sub t q).bind fun u => sub u r:=by
 induction q generalizing t with
 | nil => rw [List.nil_append,sub];rfl
 | cons x q ih =>
  cases t with
  | file d => simp [sub]
  | dir es =>
   rw [List.cons_append,sub,sub]
   cases findE es x with
   | none => rfl
   | some u => exact ih u
theorem fileAt_sub {t n:Tree} {q:List Str} (h:sub t q = some n) (r:List Str):fileAt n r = fileAt t (q ++ r):=by
 unfold fileAt;rw [sub_app,h];rfl
theorem sub_wf:∀ (q:List Str) {t n:Tree},WFT t→sub t q = some n→WFT n:=by
 intro q
 induction q with
 | nil => intro t n h hs;rw [sub] at hs;simp at hs;subst hs;exact h
 | cons x q ih =>
  intro t n h hs
  cases t with
  | file d => simp [sub] at hs
  | dir es =>
   unfold WFT at h
   rw [sub] at hs
   cases hf:findE es x with
   | none => rw [hf] at hs;simp at hs
   | some u => rw [hf] at hs;exact ih (h.2.mem _ (findE_mem hf)).2 hs
def moveStepN (s t:List Str) (m:List NF) (f:NF):List NF:=if s <+: f.1 then insN m (t ++ f.1.drop s.length,f.2) else m
theorem moveN_sorted {s t:List Str} {l m:List NF} (hm:SortedN m):SortedN (l.foldl (moveStepN s t) m):=by
 induction l generalizing m with
 | nil => exact hm
 | cons f l ih =>
  rw [List.foldl_cons];apply ih;unfold moveStepN;split
  ·exact insN_sorted hm _
  ·exact hm
theorem drop_inj {s p q:List Str} (hp:s <+: p) (hq:s <+: q) (h:p.drop s.length = q.drop s.length):p = q:=by
 obtain ⟨a,rfl⟩:=hp
 obtain ⟨b,rfl⟩:=hq
 simp at h;rw [h]
theorem moveN_mem {s t:List Str} {l m:List NF} (hl:SortedN l) (hm:SortedN m):∀ x,x ∈ l.foldl (moveStepN s t) m ↔ (x ∈ m∧∀ f ∈ l,s <+: f.1→x.1 ≠ t ++ f.1.drop s.length)∨∃ f ∈ l,s <+: f.1∧x = (t ++ f.1.drop s.length,f.2):=by
 induction l generalizing m with
 | nil => intro x;simp
 | cons f l ih =>
  intro x
  unfold SortedN at hl
  rw [List.pairwise_cons] at hl
  rw [List.foldl_cons]
  by_cases hs:s <+: f.1
  ·have e:moveStepN s t m f = insN m (t ++ f.1.drop s.length,f.2):=by unfold moveStepN;rw [if_pos hs]
   rw [e,ih hl.2 (insN_sorted hm _),insN_mem hm]
   constructor
   ·rintro (⟨h1 | ⟨h1,h2⟩,h3⟩ | ⟨g,hg,h1,h2⟩)
    ·exact .inr ⟨f,by simp,hs,h1⟩
    ·refine .inl ⟨h1,?_⟩
     intro g hg hsg;simp at hg;rcases hg with rfl | hg
     ·exact h2
     ·exact h3 g hg hsg
    ·exact .inr ⟨g,by simp [hg],h1,h2⟩
   ·rintro (⟨h1,h2⟩ | ⟨g,hg,h1,h2⟩)
    ·exact .inl ⟨.inr ⟨h1,h2 f (by simp) hs⟩,fun g hg => h2 g (by simp [hg])⟩
    ·simp at hg;rcases hg with rfl | hg
     ·refine .inl ⟨.inl h2,?_⟩
      intro g' hg' hsg e2
      rw [h2] at e2;simp at e2
      have e3:=drop_inj hs hsg e2
      have:=hl.1 g' hg';rw [e3,ls_irrefl] at this;simp at this
     ·exact .inr ⟨g,hg,h1,h2⟩
  ·have e:moveStepN s t m f = m:=by unfold moveStepN;rw [if_neg hs]
   rw [e,ih hl.2 hm]
   constructor
   ·rintro (⟨h1,h2⟩ | ⟨g,hg,h1,h2⟩)
    ·refine .inl ⟨h1,?_⟩
     intro g hg hsg;simp at hg;rcases hg with rfl | hg
     ·exact absurd hsg hs
     ·exact h2 g hg hsg
    ·exact .inr ⟨g,by simp [hg],h1,h2⟩
   ·rintro (⟨h1,h2⟩ | ⟨g,hg,h1,h2⟩)
    ·exact .inl ⟨h1,fun g hg => h2 g (by simp [hg])⟩
    ·simp at hg;rcases hg with rfl | hg
     ·exact absurd h1 hs
     ·exact .inr ⟨g,hg,h1,h2⟩
theorem insN_valid {l:List NF} {f:NF} (hs:SortedN l) (hl:ValidN l) (hf:OkN f.1):ValidN (insN l f):=by
 intro x hx
 rcases (insN_mem hs f x).1 hx with rfl | ⟨h,_⟩
 ·exact hf
 ·exact hl x h
def Shallow (s t:List Str) (l:List NF):Prop:=∀ f ∈ l,∀ R,R ≠ []→f.1 = s ++ R→(t ++ R).length ≤ 5
theorem move_fold {s t:List Str} {l m:List NF} (hs:OkN s) (ht:OkN t) (hl:ValidN l) (hm:SortedN m) (hv:ValidN m) :
  (Shallow s t l→(toF l).foldl (moveStep (joinP s) (joinP t)) (some (toF m)) = some (toF (l.foldl (moveStepN s t) m)))∧(¬ Shallow s t l→(toF l).foldl (moveStep (joinP s) (joinP t)) (some (toF m)) = none):=by
 induction l generalizing m with
 | nil => exact ⟨fun _ => rfl,fun h => absurd (fun f hf => by simp at hf) h⟩
 | cons f l ih =>
  have hf:=hl f (by simp)
  have hl' : ValidN l:=fun g hg => hl g (by simp [hg])
  have e:toF (f :: l) = (joinP f.1,f.2) :: toF l:=rfl
  rw [e,List.foldl_cons,List.foldl_cons]
  by_cases hp:s <+: f.1
  ·rw [prefix_iff] at hp
   rcases hp with hp | ⟨R,hR,hp⟩
   ·have h1:moveStep (joinP s) (joinP t) (some (toF m)) (joinP f.1,f.2) = some (toF (insN m (t,f.2))):=by
     rw [moveStep];simp only [Option.bind_some];rw [if_pos (by rw [hp];simp)]
     rw [put_names (f:=(t,f.2)) hv ht hm]
    have h2:moveStepN s t m f = insN m (t,f.2):=by
     rw [moveStepN,if_pos (by rw [hp];exact List.prefix_rfl),hp];simp
    rw [h1,h2]
    have:=ih hl' (insN_sorted hm (t,f.2)) (insN_valid hm hv ht)
    refine ⟨fun h => this.1 fun g hg => h g (by simp [hg]),fun h => this.2 fun h3 => h ?_⟩
    intro g hg R' hR' e'
    simp at hg;rcases hg with rfl | hg
    ·rw [hp] at e';simp at e';exact absurd e' hR'
    ·exact h3 g hg R' hR' e'
   ·have hne:¬ (joinP f.1 == joinP s) = true:=by rw [beq_iff_eq,hf.inj hs,hp];simp;exact hR
    have hRk:OkN R:=OkN.tail (hp ▸ hf) hR
    have hbl:belowL (joinP f.1) (joinP s) = joinP R:=by
     rcases below_names hf hs with ⟨_,h2⟩ | ⟨R',h1,h2,h3⟩
     ·exact absurd ⟨R,hR,hp⟩ h2
     ·rw [h3];rw [hp] at h2;simp at h2;rw [h2]
    have hemp:¬ (belowL (joinP f.1) (joinP s)).isEmpty = true:=by rw [below_empty hf hs];exact fun h => h ⟨R,hR,hp⟩
    have hj:joinP t ++ 47 :: joinP R = joinP (t ++ R):=(joinP_app ht.1 hR).symm
    have htR:OkN (t ++ R):=ht.app hRk.2
    have h2:moveStepN s t m f = insN m (t ++ R,f.2):=by
     rw [moveStepN,if_pos (by rw [hp];exact List.prefix_append _ _),hp];simp
    by_cases h5:(t ++ R).length ≤ 5
    ·have h1:moveStep (joinP s) (joinP t) (some (toF m)) (joinP f.1,f.2) = some (toF (insN m (t ++ R,f.2))):=by
      rw [moveStep];simp only [Option.bind_some];rw [if_neg hne,if_neg hemp,hbl,hj,htR.split,if_neg (by omega)]
      rw [put_names (f:=(t ++ R,f.2)) hv htR hm]
     rw [h1,h2]
     have:=ih hl' (insN_sorted hm (t ++ R,f.2)) (insN_valid hm hv htR)
     refine ⟨fun h => this.1 fun g hg => h g (by simp [hg]),fun h => this.2 fun h3 => h ?_⟩
     intro g hg R' hR' e'
     simp at hg;rcases hg with rfl | hg
     ·rw [hp] at e';simp at e';rw [← e'];exact h5
     ·exact h3 g hg R' hR' e'
    ·have h1:moveStep (joinP s) (joinP t) (some (toF m)) (joinP f.1,f.2) = none:=by
      rw [moveStep];simp only [Option.bind_some];rw [if_neg hne,if_neg hemp,hbl,hj,htR.split,if_pos (by omega)]
     rw [h1]
     refine ⟨fun h => absurd (h f (by simp) R hR hp) h5,fun _ => fold_none _⟩
  ·have hp2:=hp
   rw [prefix_iff,not_or] at hp2
   have h1:moveStep (joinP s) (joinP t) (some (toF m)) (joinP f.1,f.2) = some (toF m):=by
    rw [moveStep];simp only [Option.bind_some]
    rw [if_neg (by rw [beq_iff_eq,hf.inj hs];exact hp2.1),if_pos ((below_empty hf hs).2 hp2.2)]
   have h2:moveStepN s t m f = m:=by rw [moveStepN,if_neg hp]
   rw [h1,h2]
   have:=ih hl' hm hv
   refine ⟨fun h => this.1 fun g hg => h g (by simp [hg]),fun h => this.2 fun h3 => h ?_⟩
   intro g hg R' hR' e'
   simp at hg;rcases hg with rfl | hg
   ·exact absurd ⟨R',e'.symm⟩ hp
   ·exact h3 g hg R' hR' e'
theorem move_files {es:Ents} {s t:List Str} {n:Tree} (h:WFE es) (hs:OkN s) (ht:OkN t) (hsub:sub (.dir es) s = some n) (hfree:look (some (.dir es)) t = .free) :
  filesE (putE (removeE es s) t n) = (filesE es).foldl (moveStepN s t) ((filesE es).filter fun f => decide (¬ s <+: f.1)):=by
 have hes:es ≠ []:=by
  intro e;subst e;obtain ⟨h1,_⟩:=hs
  cases s with
  | nil => exact h1 rfl
  | cons x r => simp [sub,findE] at hsub
 have hw:WFT (.dir es):=by unfold WFT;exact ⟨hes,h⟩
 have hn:WFT n:=sub_wf s hw hsub
 obtain ⟨l1,l2,l3⟩:=look_files t (.dir es) hw
 obtain ⟨k1,k2,k3⟩:=look_files s (.dir es) hw
 have hsb:look (some (.dir es)) s ≠ .blocked:=by
  intro hb
  obtain ⟨P,R,d,hR,e,hd⟩:=k3.1 hb
  rw [e,sub_app] at hsub
  unfold fileAt at hd
  split at hd
  ·rename_i hx;rw [hx] at hsub
   cases R with
   | nil => exact hR rfl
   | cons y R => simp [sub] at hsub
  ·simp at hd
 have hwr:WFE (removeE es s):=remove_wf h hs.2
 have htb:look (some (.dir (removeE es s))) t ≠ .blocked:=by
  by_cases he:removeE es s = []
  ·rw [he];obtain ⟨h1,_⟩:=ht
   cases t with
   | nil => exact absurd rfl h1
   | cons x r => simp [look,findE]
  ·intro hb
   have hw2:WFT (.dir (removeE es s)):=by unfold WFT;exact ⟨he,hwr⟩
   obtain ⟨P,R,d,hR,e,hd⟩:=(look_files t _ hw2).2.2.1 hb
   rw [fileAt_remove hs.1 hsb] at hd
   split at hd
   ·simp at hd
   ·have:=l3.2 ⟨P,R,d,hR,e,hd⟩;rw [hfree] at this;simp at this
 have hwp:WFE (putE (removeE es s) t n):=(put_wf hwr ht.2 hn).1
 have hso:=sorted_filesE es h
 refine sorted_unique (sorted_filesE _ hwp) (moveN_sorted (filter_sorted hso _)) ?_
 rintro ⟨p,e⟩
 rw [mem_root hwp,fileAt_put ht.1 htb,moveN_mem hso (filter_sorted hso _),List.mem_filter,mem_root h]
 by_cases hp:t <+: p
 ·rw [if_pos hp]
  obtain ⟨R,rfl⟩:=hp
  rw [List.drop_left,fileAt_sub hsub]
  constructor
  ·intro h1
   refine .inr ⟨(s ++ R,e),(mem_root h _ _).2 h1,List.prefix_append _ _,?_⟩
   simp
  ·rintro (⟨⟨h1,_⟩,_⟩ | ⟨f,hf,h1,h2⟩)
   ·exfalso
    by_cases hR:R = []
    ·subst hR
     rw [List.append_nil] at h1
     have:=l1.2 ⟨e,h1⟩;rw [hfree] at this;simp at this
    ·have:=l2.2 ⟨R,e,hR,h1⟩;rw [hfree] at this;simp at this
   ·simp at h2
    obtain ⟨R',hR'⟩:=h1
    have hR2:=h2.1
    rw [← hR',List.drop_left] at hR2
    have:=(mem_root h f.1 f.2).1 hf
    rw [hR2,hR',h2.2];exact this
 ·rw [if_neg hp,fileAt_remove hs.1 hsb]
  by_cases hps:s <+: p
  ·rw [if_pos hps]
   constructor
   ·intro h1;simp at h1
   ·rintro (⟨⟨_,h1⟩,_⟩ | ⟨f,hf,_,h2⟩)
    ·simp [hps] at h1
    ·simp at h2;exact absurd ⟨_,h2.1.symm⟩ hp
  ·rw [if_neg hps]
   constructor
   ·intro h1
    refine .inl ⟨⟨h1,by simp [hps]⟩,?_⟩
    intro f _ _ e2;simp only at e2;exact hp ⟨_,e2.symm⟩
   ·rintro (⟨⟨h1,_⟩,_⟩ | ⟨f,hf,_,h2⟩)
    ·exact h1
    ·simp at h2;exact absurd ⟨_,h2.1.symm⟩ hp
end Go.Proofs.YtdcbgfhkfmohiaaGreatDoor

namespace Go.Proofs.YtdcbgfhkfmohiaaGreatDoor
theorem names_of_file {es:Ents} (h:WFE es) {x:Str} {t:Tree} (hm:(x,t) ∈ es):∃ r d,fileAt (.dir es) (x :: r) = some d:=by
 obtain ⟨p,d,hp⟩:=WFT.some t (h.mem _ hm).2
 exact ⟨p,d,by rw [fileAt_dir,h.find hm];exact hp⟩
theorem file_of_name {es:Ents} {x:Str} {r:List Str} {d:Str} (h:fileAt (.dir es) (x :: r) = some d):∃ t,(x,t) ∈ es:=by
 rw [fileAt_dir] at h
 cases hf:findE es x with
 | none => rw [hf] at h;simp at h
 | some t => exact ⟨t,findE_mem hf⟩
mutual
theorem tree_ext:∀ (t u:Tree),WFT t→WFT u→(∀ p,fileAt t p = fileAt u p)→t = u
 | .file d,.file e,_,_,h => by have:=h [];simp [fileAt_file] at this;rw [this]
 | .file d,.dir es,_,_,h => by have:=h [];simp [fileAt_file,fileAt_root] at this
 | .dir es,.file d,_,_,h => by have:=h [];simp [fileAt_file,fileAt_root] at this
 | .dir a,.dir b,h1,h2,h => by
  unfold WFT at h1 h2
  rw [ents_ext a b h1.2 h2.2 h]
theorem ents_ext:∀ (a b:Ents),WFE a→WFE b→(∀ p,fileAt (.dir a) p = fileAt (.dir b) p)→a = b
 | [],b,_,h2,h => by
  refine (WFE.empty h2 fun p => ?_).symm
  rw [← h p]
  cases p with
  | nil => rfl
  | cons x r => rw [fileAt_dir,findE]
 | (x,t) :: a,[],h1,_,h => by
  exfalso
  obtain ⟨r,d,hd⟩:=names_of_file h1 (x:=x) (t:=t) (by simp)
  rw [h,fileAt_dir,findE] at hd;simp at hd
 | (x,t) :: a,(y,u) :: b,h1,h2,h => by
  have g1:=h1
  have g2:=h2
  unfold WFE at h1 h2
  have e:x = y:=by
   obtain ⟨r,d,hd⟩:=names_of_file g1 (x:=x) (t:=t) (by simp)
   rw [h] at hd
   obtain ⟨t',ht'⟩:=file_of_name hd
   obtain ⟨r2,d2,hd2⟩:=names_of_file g2 (x:=y) (t:=u) (by simp)
   rw [← h] at hd2
   obtain ⟨u',hu'⟩:=file_of_name hd2
   simp at ht' hu'
   rcases ht' with ⟨e,_⟩ | ht'
   ·exact e
   ·rcases hu' with ⟨e,_⟩ | hu'
    ·exact e.symm
    ·have l1:=h2.2.2.1 _ ht'
     have l2:=h1.2.2.1 _ hu'
     simp only at l1 l2
     rw [bl_asymm l1] at l2;simp at l2
  subst e
  have ht:t = u:=tree_ext t u h1.2.1 h2.2.1 fun p => by
   have:=h (x :: p)
   rw [fileAt_dir,fileAt_dir,findE,findE,if_pos rfl,if_pos rfl] at this;exact this
  have ha:a = b:=ents_ext a b h1.2.2.2 h2.2.2.2 fun p => by
   cases p with
   | nil => rfl
   | cons z r =>
    by_cases hz:x = z
    ·subst hz
     rw [fileAt_dir,fileAt_dir,findE_none (fun e he => (bl_ne (h1.2.2.1 e he)).symm),findE_none (fun e he => (bl_ne (h2.2.2.1 e he)).symm)]
    ·have:=h (z :: r)
     rw [fileAt_dir,fileAt_dir,findE,findE,if_neg hz,if_neg hz] at this
     rw [fileAt_dir,fileAt_dir];exact this
  rw [ht,ha]
end
theorem files_inj {a b:Ents} (ha:WFE a) (hb:WFE b) (h:filesE a = filesE b):a = b:=by
 refine ents_ext a b ha hb fun p => ?_
 cases hx:fileAt (.dir a) p with
 | some d => rw [← mem_root ha,h,mem_root hb] at hx;rw [hx]
 | none =>
  cases hy:fileAt (.dir b) p with
  | none => rfl
  | some d => rw [← mem_root hb,← h,mem_root ha,hx] at hy;simp at hy
theorem toF_inj {a b:List NF} (ha:ValidN a) (hb:ValidN b) (h:toF a = toF b):a = b:=by
 induction a generalizing b with
 | nil => cases b with
  | nil => rfl
  | cons y b => simp [toF] at h
 | cons x a ih => cases b with
  | nil => simp [toF] at h
  | cons y b =>
   simp only [toF,List.map_cons,List.cons.injEq,Prod.mk.injEq] at h
   have e:=((ha x (by simp)).inj (hb y (by simp))).1 h.1.1
   have:x = y:=Prod.ext e h.1.2
   rw [this,ih (fun z hz => ha z (by simp [hz])) (fun z hz => hb z (by simp [hz])) h.2]
theorem cut_unique {c:UInt8} {a b x y:Str} (ha:∀ z ∈ a,z ≠ c) (hb:∀ z ∈ b,z ≠ c) (h:a ++ c :: x = b ++ c :: y):a = b∧x = y:=by
 induction a generalizing b with
 | nil => cases b with
  | nil => simp at h;exact ⟨rfl,h⟩
  | cons z b => simp at h;exact absurd h.1.symm (hb z (by simp))
 | cons w a ih => cases b with
  | nil => simp at h;exact absurd h.1 (ha w (by simp))
  | cons z b =>
   simp at h
   obtain ⟨h1,h2⟩:=ih (fun q hq => ha q (by simp [hq])) (fun q hq => hb q (by simp [hq])) h.2
   exact ⟨by rw [h.1,h1],h2⟩
theorem digit_inj {m n:Nat} (hm:m < 10) (hn:n < 10) (h:(48:UInt8) + UInt8.ofNat m = 48 + UInt8.ofNat n):m = n:=by
 have h1:=congrArg UInt8.toNat h
 simp [UInt8.toNat_add] at h1
 omega
theorem spell_inj {a b:List Fl} (ha:∀ f ∈ a,(∀ z ∈ f.1,z ≠ (61:UInt8))∧f.2.length ≤ 99) (hb:∀ f ∈ b,(∀ z ∈ f.1,z ≠ (61:UInt8))∧f.2.length ≤ 99) (h:spellL a = spellL b):a = b:=by
 induction a generalizing b with
 | nil => cases b with
  | nil => rfl
  | cons y b => simp [spellL,spellF] at h
 | cons x a ih => cases b with
  | nil => simp [spellL,spellF] at h
  | cons y b =>
   have hx:=ha x (by simp)
   have hy:=hb y (by simp)
   have e1:spellL (x :: a) = x.1 ++ 61 :: (48 + UInt8.ofNat (x.2.length / 10)) :: (48 + UInt8.ofNat (x.2.length % 10)) :: (x.2 ++ 10 :: spellL a):=by simp [spellL,spellF]
   have e2:spellL (y :: b) = y.1 ++ 61 :: (48 + UInt8.ofNat (y.2.length / 10)) :: (48 + UInt8.ofNat (y.2.length % 10)) :: (y.2 ++ 10 :: spellL b):=by simp [spellL,spellF]
   rw [e1,e2] at h
   obtain ⟨h1,h2⟩:=cut_unique hx.1 hy.1 h
   simp only [List.cons.injEq] at h2
   have d1:=digit_inj (by omega) (by omega) h2.1
   have d2:=digit_inj (by omega) (by omega) h2.2.1
   have hl:x.2.length = y.2.length:=by omega
   obtain ⟨h3,h4⟩:=List.append_inj h2.2.2 hl
   simp only [List.cons.injEq,true_and] at h4
   rw [Prod.ext h1 h3,ih (fun f hf => ha f (by simp [hf])) (fun f hf => hb f (by simp [hf])) h4]
theorem join_61 {q:List Str} (h:OkN q):∀ z ∈ joinP q,z ≠ (61:UInt8):=by
 have hn:∀ x:Str,isNameL x false = true→∀ z ∈ x,z ≠ (61:UInt8):=by
  intro x hx z hz e
  unfold isNameL at hx
  simp only [Bool.and_eq_true,List.all_eq_true] at hx
  have:=hx.2 z hz
  subst e;simp [okByte] at this
 obtain ⟨_,h⟩:=h
 induction q with
 | nil => simp [joinP]
 | cons x r ih =>
  cases r with
  | nil => simp only [joinP];exact hn x (h x (by simp))
  | cons y r =>
   rw [joinP_cons (by simp)]
   intro z hz
   simp only [List.mem_append,List.mem_cons] at hz
   rcases hz with hz | hz | hz
   ·exact hn x (h x (by simp)) z hz
   ·subst hz;decide
   ·exact ih (by simp) (fun w hw => h w (by simp [hw])) z hz
theorem spell_files_inj {a b:Ents} (ha:WFE a) (hb:WFE b) (h:spellL (toF (filesE a)) = spellL (toF (filesE b))):a = b:=by
 have va:=valid_files ha
 have vb:=valid_files hb
 refine files_inj ha hb (toF_inj va.1 vb.1 (spell_inj ?_ ?_ h))
 ·intro f hf;obtain ⟨g,hg,rfl⟩:=List.mem_map.1 hf
  exact ⟨join_61 (va.1 g hg),by have:=va.2 g hg;simp only;omega⟩
 ·intro f hf;obtain ⟨g,hg,rfl⟩:=List.mem_map.1 hf
  exact ⟨join_61 (vb.1 g hg),by have:=vb.2 g hg;simp only;omega⟩
/- Sets as lists. -/
def addAll (t xs:List Str):List Str:=xs.foldl addL t
theorem addL_mem (t:List Str) (s x:Str):x ∈ addL t s ↔ x ∈ t∨x = s:=by
 unfold addL;split
 ·rename_i h;constructor
  ·exact .inl
  ·rintro (h2 | rfl)
   ·exact h2
   ·exact h
 ·simp
theorem addL_nodup {t:List Str} (h:t.Nodup) (s:Str):(addL t s).Nodup:=by
 unfold addL;split
 ·exact h
 ·rename_i hs
  rw [List.nodup_append]
  refine ⟨h,by simp,?_⟩
  intro a ha b hb e;simp at hb;subst hb;subst e;exact hs ha
theorem addAll_mem (xs t:List Str) (x:Str):x ∈ addAll t xs ↔ x ∈ t∨x ∈ xs:=by
 induction xs generalizing t with
 | nil => simp [addAll]
 | cons y xs ih =>
  have:addAll t (y :: xs) = addAll (addL t y) xs:=rfl
  rw [this,ih,addL_mem];simp [or_assoc]
theorem addAll_nodup {xs t:List Str} (h:t.Nodup):(addAll t xs).Nodup:=by
 induction xs generalizing t with
 | nil => exact h
 | cons y xs ih => exact ih (addL_nodup h y)
theorem addAll_app (t xs ys:List Str):addAll t (xs ++ ys) = addAll (addAll t xs) ys:=by unfold addAll;rw [List.foldl_append]
theorem nodup_len {a b:List Str} (ha:a.Nodup) (h:∀ x ∈ a,x ∈ b):a.length ≤ b.length:=by
 induction a generalizing b with
 | nil => simp
 | cons x a ih =>
  rw [List.nodup_cons] at ha
  have hx:=h x (by simp)
  have:=ih (b:=b.erase x) ha.2 fun y hy => by
   rw [List.mem_erase_of_ne]
   ·exact h y (by simp [hy])
   ·intro e;subst e;exact ha.1 hy
  rw [List.length_erase_of_mem hx] at this
  have hp:0 < b.length:=List.length_pos_of_mem hx
  simp;omega
theorem nodup_same {a b:List Str} (ha:a.Nodup) (hb:b.Nodup) (h:∀ x,x ∈ a ↔ x ∈ b):a.length = b.length :=
 Nat.le_antisymm (nodup_len ha fun x hx => (h x).1 hx) (nodup_len hb fun x hx => (h x).2 hx)
theorem nodup_map {α:Type} {f:α→Str} {l:List α} (h:l.Nodup) (hf:∀ x ∈ l,∀ y ∈ l,f x = f y→x = y):(l.map f).Nodup:=by
 induction l with
 | nil => simp
 | cons x l ih =>
  rw [List.nodup_cons] at h
  rw [List.map_cons,List.nodup_cons]
  refine ⟨?_,ih h.2 fun a ha b hb => hf a (by simp [ha]) b (by simp [hb])⟩
  intro hm;obtain ⟨y,hy,e⟩:=List.mem_map.1 hm
  have:=hf y (by simp [hy]) x (by simp) e
  subst this;exact h.1 hy
/- What Cells puts together. -/
def dirTexts (l:List Fl) (p:Str):List Str:=(List.range p.length).flatMap fun n => if p[n]? = some 47 then [spellL (inL l (p.take n))] else []
def treeTexts (l:List Fl):List Str:=spellL l :: l.flatMap fun f => dirTexts l f.1
theorem fold_dirs (l:List Fl) (p:Str) (t:List Str) (ns:List Nat):ns.foldl (dirStep l p) t = addAll t (ns.flatMap fun n => if p[n]? = some 47 then [spellL (inL l (p.take n))] else []):=by
 induction ns generalizing t with
 | nil => rfl
 | cons n ns ih =>
  rw [List.foldl_cons,ih,List.flatMap_cons,addAll_app]
  congr 1
  unfold dirStep;split <;> rfl
theorem fold_files (l ls:List Fl) (st:List Str × List Str):ls.foldl (fileStep l) st = (addAll st.1 (ls.flatMap fun f => dirTexts l f.1),addAll st.2 (ls.map (·.2))):=by
 induction ls generalizing st with
 | nil => rfl
 | cons f ls ih =>
  rw [List.foldl_cons,ih,List.flatMap_cons,List.map_cons,addAll_app]
  unfold fileStep
  rw [fold_dirs];rfl
theorem cells_texts (all:List (List Fl)):cellsSt all = (addAll [] (all.flatMap treeTexts),addAll [] (all.flatMap fun l => l.map (·.2))):=by
 have key:∀ (all:List (List Fl)) (st:List Str × List Str),all.foldl snapStep st = (addAll st.1 (all.flatMap treeTexts),addAll st.2 (all.flatMap fun l => l.map (·.2))):=by
  intro all
  induction all with
  | nil => intro st;rfl
  | cons l all ih =>
   intro st
   rw [List.foldl_cons,ih,List.flatMap_cons,List.flatMap_cons,addAll_app,addAll_app]
   unfold snapStep
   rw [fold_files];rfl
 exact key all ([],[])
end Go.Proofs.YtdcbgfhkfmohiaaGreatDoor

namespace Go.Proofs.YtdcbgfhkfmohiaaGreatDoor
mutual
def dirsT:Tree→List Ents
 | .file _ => []
 | .dir es => es :: dirsE es
def dirsE:Ents→List Ents
 | [] => []
 | (_,t) :: es => dirsT t ++ dirsE es
end
mutual
theorem mem_dirsT:∀ (t:Tree),WFT t→∀ b,b ∈ dirsT t ↔ ∃ D,sub t D = some (.dir b)
 | .file d,_,b => by
  unfold dirsT
  simp only [List.not_mem_nil,false_iff,not_exists]
  intro D h
  cases D with
  | nil => simp [sub] at h
  | cons x r => simp [sub] at h
 | .dir es,h,b => by
  unfold dirsT
  unfold WFT at h
  rw [List.mem_cons,mem_dirsE es h.2 b]
  constructor
  ·rintro (rfl | ⟨x,r,t,h1,h2⟩)
   ·exact ⟨[],rfl⟩
   ·exact ⟨x :: r,by rw [sub,h1];exact h2⟩
  ·rintro ⟨D,hD⟩
   cases D with
   | nil => simp [sub] at hD;exact .inl hD.symm
   | cons x r =>
    rw [sub] at hD
    cases hf:findE es x with
    | none => rw [hf] at hD;simp at hD
    | some t => rw [hf] at hD;exact .inr ⟨x,r,t,hf,hD⟩
theorem mem_dirsE:∀ (es:Ents),WFE es→∀ b,b ∈ dirsE es ↔ ∃ x r t,findE es x = some t∧sub t r = some (.dir b)
 | [],_,b => by unfold dirsE;simp [findE]
 | (y,u) :: es,h,b => by
  unfold WFE at h
  unfold dirsE
  rw [List.mem_append,mem_dirsT u h.2.1 b,mem_dirsE es h.2.2.2 b]
  constructor
  ·rintro (⟨D,hD⟩ | ⟨x,r,t,h1,h2⟩)
   ·exact ⟨y,D,u,by rw [findE,if_pos rfl],hD⟩
   ·exact ⟨x,r,t,by rw [findE,if_neg (bl_ne (h.2.2.1 _ (findE_mem h1))),h1],h2⟩
  ·rintro ⟨x,r,t,h1,h2⟩
   rw [findE] at h1
   split at h1
   ·simp at h1;subst h1;exact .inl ⟨r,h2⟩
   ·exact .inr ⟨x,r,t,h1,h2⟩
end
theorem mem_dirs {es:Ents} (h:WFE es) (b:Ents):b ∈ dirsE es ↔ ∃ D,D ≠ []∧sub (.dir es) D = some (.dir b):=by
 rw [mem_dirsE es h]
 constructor
 ·rintro ⟨x,r,t,h1,h2⟩;exact ⟨x :: r,by simp,by rw [sub,h1];exact h2⟩
 ·rintro ⟨D,hD,h1⟩
  cases D with
  | nil => exact absurd rfl hD
  | cons x r =>
   rw [sub] at h1
   cases hf:findE es x with
   | none => rw [hf] at h1;simp at h1
   | some t => rw [hf] at h1;exact ⟨x,r,t,hf,h1⟩
/- in, by names. -/
def inN (l:List NF) (D:List Str):List NF:=l.flatMap fun f => if D <+: f.1∧f.1 ≠ D then [(f.1.drop D.length,f.2)] else []
theorem in_names {l:List NF} {D:List Str} (hl:ValidN l) (hD:OkN D):inL (toF l) (joinP D) = toF (inN l D):=by
 induction l with
 | nil => rfl
 | cons f l ih =>
  have ih:=ih fun g hg => hl g (by simp [hg])
  have hf:=hl f (by simp)
  have e:inL (toF (f :: l)) (joinP D) = (if (belowL (joinP f.1) (joinP D)).isEmpty then [] else [(belowL (joinP f.1) (joinP D),f.2)]) ++ inL (toF l) (joinP D):=by
   simp only [inL,toF,List.map_cons,List.flatMap_cons]
  have e2:inN (f :: l) D = (if D <+: f.1∧f.1 ≠ D then [(f.1.drop D.length,f.2)] else []) ++ inN l D:=by
   simp only [inN,List.flatMap_cons]
  rw [e,e2,ih]
  rcases below_names hf hD with ⟨h1,h2⟩ | ⟨R,h1,h2,h3⟩
  ·rw [h1,if_pos (by rfl),if_neg]
   ·simp
   ·rintro ⟨h3,h4⟩
    rcases prefix_iff.1 h3 with h5 | h5
    ·exact h4 h5
    ·exact h2 h5
  ·have hne:¬ (belowL (joinP f.1) (joinP D)).isEmpty = true:=by rw [below_empty hf hD];exact fun h => h ⟨R,h1,h2⟩
   rw [if_neg hne,if_pos ⟨by rw [h2];exact List.prefix_append _ _,by rw [h2];intro e;simp at e;exact h1 e⟩,h3]
   have:f.1.drop D.length = R:=by rw [h2];simp
   rw [this];simp [toF]
theorem ls_prefix (D a b:List Str):lessS (D ++ a) (D ++ b) = lessS a b:=by
 induction D with
 | nil => rfl
 | cons x D ih => rw [List.cons_append,List.cons_append,lessS,if_pos rfl,ih]
theorem inN_mem (l:List NF) (D:List Str) (R:List Str) (d:Str):(R,d) ∈ inN l D ↔ R ≠ []∧(D ++ R,d) ∈ l:=by
 unfold inN
 rw [List.mem_flatMap]
 constructor
 ·rintro ⟨f,hf,h⟩
  split at h
  ·rename_i hc
   simp at h
   obtain ⟨T,hT⟩:=hc.1
   rw [← hT] at h
   simp at h
   obtain ⟨rfl,rfl⟩:=h
   refine ⟨?_,?_⟩
   ·intro e;subst e;simp at hT;exact hc.2 hT.symm
   ·have:f = (D ++ R,f.2):=Prod.ext hT.symm rfl
    rw [← this];exact hf
  ·simp at h
 ·rintro ⟨hR,hm⟩
  refine ⟨_,hm,?_⟩
  rw [if_pos ⟨List.prefix_append _ _,by simp;exact hR⟩]
  simp
theorem inN_sorted {l:List NF} (h:SortedN l) (D:List Str):SortedN (inN l D):=by
 induction l with
 | nil => exact h
 | cons f l ih =>
  unfold SortedN at h
  rw [List.pairwise_cons] at h
  have ih:=ih h.2
  have e2:inN (f :: l) D = (if D <+: f.1∧f.1 ≠ D then [(f.1.drop D.length,f.2)] else []) ++ inN l D:=by
   simp only [inN,List.flatMap_cons]
  rw [e2]
  split
  ·rename_i hc
   rw [List.singleton_append]
   unfold SortedN;rw [List.pairwise_cons]
   refine ⟨?_,ih⟩
   rintro ⟨R,d⟩ hR
   have:=(inN_mem l D R d).1 hR
   have h2:=h.1 _ this.2
   obtain ⟨T,hT⟩:=hc.1
   rw [← hT] at h2 ⊢
   simp only [List.drop_left]
   rw [ls_prefix] at h2;exact h2
  ·exact ih
theorem in_files {es b:Ents} {D:List Str} (h:WFE es) (hD:OkN D) (hs:sub (.dir es) D = some (.dir b)):inL (toF (filesE es)) (joinP D) = toF (filesE b)∧WFE b:=by
 have hes:es ≠ []:=by
  intro e;subst e;obtain ⟨h1,_⟩:=hD
  cases D with
  | nil => exact h1 rfl
  | cons x r => simp [sub,findE] at hs
 have hw:WFT (.dir es):=by unfold WFT;exact ⟨hes,h⟩
 have hb:WFE b:=by have:=sub_wf D hw hs;unfold WFT at this;exact this.2
 refine ⟨?_,hb⟩
 rw [in_names (valid_files h).1 hD]
 congr 1
 refine sorted_unique (inN_sorted (sorted_filesE es h) D) (sorted_filesE b hb) ?_
 rintro ⟨R,d⟩
 rw [inN_mem,mem_root h,mem_root hb,fileAt_sub hs]
 constructor
 ·exact fun h => h.2
 ·intro h2
  refine ⟨?_,h2⟩
  intro e;subst e
  rw [List.append_nil] at h2
  unfold fileAt at h2;rw [hs] at h2;simp at h2
theorem slash_names {P:List Str} (hP:OkN P) (n:Nat):(joinP P)[n]? = some 47 ↔ ∃ D R,D ≠ []∧R ≠ []∧P = D ++ R∧n = (joinP D).length:=by
 constructor
 ·intro h
  obtain ⟨hn,e⟩:=List.getElem?_eq_some_iff.1 h
  have hp:joinP P = (joinP P).take n ++ 47 :: (joinP P).drop (n + 1):=by
   conv => lhs;rw [← List.take_append_drop n (joinP P),List.drop_eq_getElem_cons hn,e]
  have hs:P = splitL 47 ((joinP P).take n) ++ splitL 47 ((joinP P).drop (n + 1)):=by
   have:=hP.split;rw [hp,splitL_app] at this;exact this.symm
  refine ⟨_,_,splitL_ne _ _,splitL_ne _ _,hs,?_⟩
  rw [join_split];simp;omega
 ·rintro ⟨D,R,hD,hR,rfl,rfl⟩
  rw [joinP_app hD hR];simp
theorem dirs_texts {es:Ents} (h:WFE es) (x:Str):x ∈ treeTexts (toF (filesE es)) ↔ ∃ b,(b = es∨b ∈ dirsE es)∧WFE b∧x = spellL (toF (filesE b)):=by
 unfold treeTexts
 rw [List.mem_cons,List.mem_flatMap]
 have hv:=(valid_files h).1
 constructor
 ·rintro (h1 | ⟨g,hg,h1⟩)
  ·exact ⟨es,.inl rfl,h,h1⟩
  ·obtain ⟨f,hf,rfl⟩:=List.mem_map.1 hg
   unfold dirTexts at h1
   rw [List.mem_flatMap] at h1
   obtain ⟨n,_,h1⟩:=h1
   split at h1
   ·rename_i hs
    simp at h1
    obtain ⟨D,R,hD,hR,e,hn⟩:=(slash_names (hv f hf) n).1 hs
    have hok:=hv f hf
    have hDk:OkN D:=⟨hD,fun y hy => hok.2 y (by rw [e];simp [hy])⟩
    have ht:(joinP f.1).take n = joinP D:=by rw [e,joinP_app hD hR,hn];simp
    rw [ht] at h1
    have hfa:=(mem_root h f.1 f.2).1 hf
    have hsub:∃ b,sub (.dir es) D = some (.dir b):=by
     unfold fileAt at hfa
     rw [e,sub_app] at hfa
     cases hd:sub (.dir es) D with
     | none => rw [hd] at hfa;simp at hfa
     | some t => cases t with
      | dir b => exact ⟨b,rfl⟩
      | file d =>
       rw [hd] at hfa
       cases R with
       | nil => exact absurd rfl hR
       | cons y R => simp [sub] at hfa
    obtain ⟨b,hb⟩:=hsub
    obtain ⟨h2,h3⟩:=in_files h hDk hb
    exact ⟨b,.inr ((mem_dirs h b).2 ⟨D,hD,hb⟩),h3,by rw [h1,h2]⟩
   ·simp at h1
 ·rintro ⟨b,hb | hb,hwb,hx⟩
  ·subst hb;exact .inl hx
  ·right
   obtain ⟨D,hD,hs⟩:=(mem_dirs h b).1 hb
   have hes:es ≠ []:=by
    intro e;subst e
    cases D with
    | nil => exact hD rfl
    | cons x r => simp [sub,findE] at hs
   have hw:WFT (.dir es):=by unfold WFT;exact ⟨hes,h⟩
   have hwb2:WFT (.dir b):=sub_wf D hw hs
   obtain ⟨p,d,hp⟩:=WFT.some _ hwb2
   have hpn:p ≠ []:=by intro e;subst e;rw [fileAt_root] at hp;simp at hp
   have hfm:(D ++ p,d) ∈ filesE es:=by rw [mem_root h,← fileAt_sub hs];exact hp
   have hok:=hv _ hfm
   simp only at hok
   have hDk:OkN D:=⟨hD,fun y hy => hok.2 y (by simp [hy])⟩
   refine ⟨(joinP (D ++ p),d),List.mem_map.2 ⟨_,hfm,rfl⟩,?_⟩
   unfold dirTexts
   rw [List.mem_flatMap]
   have hsl:=(slash_names hok (joinP D).length).2 ⟨D,p,hD,hpn,rfl,rfl⟩
   refine ⟨(joinP D).length,?_,?_⟩
   ·rw [List.mem_range];exact (List.getElem?_eq_some_iff.1 hsl).1
   ·rw [if_pos hsl]
    have ht:(joinP (D ++ p)).take (joinP D).length = joinP D:=by rw [joinP_app hD hpn];simp
    simp only [ht,(in_files h hDk hs).1,List.mem_singleton]
    exact hx
theorem cells_dirs {roots:List Ents} (hw:∀ r ∈ roots,WFE r) {ds:List Ents} (hnd:ds.Nodup) (hm:∀ b,b ∈ ds ↔ ∃ r ∈ roots,b = r∨b ∈ dirsE r):(cellsSt (roots.map fun r => toF (filesE r))).1.length = ds.length:=by
 rw [cells_texts]
 have hwd:∀ b ∈ ds,WFE b:=by
  intro b hb
  obtain ⟨r,hr,h | h⟩:=(hm b).1 hb
  ·rw [h];exact hw r hr
  ·obtain ⟨D,hD,hs⟩:=(mem_dirs (hw r hr) b).1 h
   have hr0:r ≠ []:=by
    intro e;subst e
    cases D with
    | nil => exact hD rfl
    | cons x q => simp [sub,findE] at hs
   have hwt:WFT (.dir r):=by unfold WFT;exact ⟨hr0,hw r hr⟩
   have:=sub_wf D hwt hs
   unfold WFT at this;exact this.2
 have h1:(ds.map fun b => spellL (toF (filesE b))).Nodup:=nodup_map hnd fun a ha b hb e => spell_files_inj (hwd a ha) (hwd b hb) e
 have h2:ds.length = (ds.map fun b => spellL (toF (filesE b))).length:=by simp
 rw [h2]
 refine nodup_same (addAll_nodup (by simp)) h1 fun x => ?_
 rw [addAll_mem,List.mem_flatMap,List.mem_map]
 constructor
 ·rintro (h | ⟨l,hl,hx⟩)
  ·simp at h
  ·obtain ⟨r,hr,rfl⟩:=List.mem_map.1 hl
   obtain ⟨b,hb,_,e⟩:=(dirs_texts (hw r hr) x).1 hx
   exact ⟨b,(hm b).2 ⟨r,hr,hb⟩,e.symm⟩
 ·rintro ⟨b,hb,e⟩
  right
  obtain ⟨r,hr,h⟩:=(hm b).1 hb
  exact ⟨_,List.mem_map.2 ⟨r,hr,rfl⟩,(dirs_texts (hw r hr) x).2 ⟨b,h,hwd b hb,e.symm⟩⟩
theorem cells_data {roots:List Ents} {fs:List Str} (hnd:fs.Nodup) (hm:∀ d,d ∈ fs ↔ ∃ r ∈ roots,∃ p,(p,d) ∈ filesE r):(cellsSt (roots.map fun r => toF (filesE r))).2.length = fs.length:=by
 rw [cells_texts]
 refine nodup_same (addAll_nodup (by simp)) hnd fun d => ?_
 rw [addAll_mem,List.mem_flatMap,hm]
 constructor
 ·rintro (h | ⟨l,hl,hx⟩)
  ·simp at h
  ·obtain ⟨r,hr,rfl⟩:=List.mem_map.1 hl
   obtain ⟨g,hg,rfl⟩:=List.mem_map.1 hx
   obtain ⟨f,hf,rfl⟩:=List.mem_map.1 hg
   exact ⟨r,hr,f.1,hf⟩
 ·rintro ⟨r,hr,p,hp⟩
  right
  exact ⟨_,List.mem_map.2 ⟨r,hr,rfl⟩,List.mem_map.2 ⟨_,List.mem_map.2 ⟨_,hp,rfl⟩,rfl⟩⟩
end Go.Proofs.YtdcbgfhkfmohiaaGreatDoor

namespace Go.Proofs.YtdcbgfhkfmohiaaGreatDoor
open Go.RowKit
set_option maxHeartbeats 1000000 in
set_option maxRecDepth 100000 in
theorem indexByte_any (s:Str) (c:UInt8) (w:World) :
  Calls Tryz.prog 188 #[SV s,.int .u8 c.toNat] w fun e w' => e = .returned (.int .i64 (Lib.indexByte s c))∧w' = w:=by
 go_enter Tryz.func188,Tryz.ntmps188
 go_wp2
 rw [run_callFunc_extern Tryz.func194 (by kernel_rfl) (by kernel_rfl) (by kernel_rfl) (e:=Extern.BytealgIndexByte.indexByte) (by kernel_rfl),Lib.run_indexByteString]
 simp only [Result.andThen]
 rw [Oper.upon_value]
 go_wp2
 go_ret
 exact ⟨ret_int (by simp),rfl⟩
set_option maxHeartbeats 1000000 in
set_option maxRecDepth 100000 in
theorem liteIndex_any (s:Str) (c:UInt8) (w:World) (hs:s.length ≤ maxLen) :
  Calls Tryz.prog 175 #[SV s,SV [c]] w fun e w' => e = .returned (.int .i64 (Lib.indexByte s c))∧w' = w:=by
 have hG:=get_list
 go_enter Tryz.func175,Tryz.ntmps175
 go_wp2_with (go_at_call 188;refine (indexByte_any s c _).mono ?_;rintro e w' ⟨rfl,rfl⟩)
 ·go_ret
  refine ⟨ret_int ?_,rfl⟩
  rename_i h;simp at h;subst h;simp [Lib.indexByte]
 ·go_ret
  exact ⟨rfl,rfl⟩
set_option maxHeartbeats 1000000 in
theorem index_any (s:Str) (c:UInt8) (w:World) (hs:s.length ≤ maxLen) :
  Calls Tryz.prog 147 #[SV s,SV [c]] w fun e w' => e = .returned (.int .i64 (Lib.indexByte s c))∧w' = w:=by
 go_enter Tryz.func147,Tryz.ntmps147
 go_wp2_with (go_at_call 175;refine (liteIndex_any s c _ hs).mono ?_;rintro e w' ⟨rfl,rfl⟩)
 go_ret
 exact ⟨rfl,rfl⟩
def splitNL (c:UInt8):Nat→Str→List Str
 | 0,s => [s]
 | n + 1,s => if Lib.indexByte s c < 0 then [s] else s.take (Lib.indexByte s c).toNat :: splitNL c n (s.drop ((Lib.indexByte s c).toNat + 1))
theorem splitNL_len (c:UInt8) (n:Nat) (s:Str):1 ≤ (splitNL c n s).length∧(splitNL c n s).length ≤ n + 1:=by
 induction n generalizing s with
 | zero => simp [splitNL]
 | succ n ih =>
  unfold splitNL;split
  ·simp
  ·have:=ih (s.drop ((Lib.indexByte s c).toNat + 1));simp;omega
theorem take_free {l:Str} {c:UInt8} {m:Nat} (h:Lib.indexByte l c = m):∀ b ∈ l.take m,b ≠ c:=by
 intro b hb e
 obtain ⟨j,hj,rfl⟩:=List.getElem_of_mem hb
 have h2:=(Lib.indexByte_some h).2 j (by simp at hj;omega)
 simp at e
 simp at hj
 exact h2 (by rw [List.getElem?_eq_getElem (by omega),e])
theorem indexByte_split {l:Str} {c:UInt8} {m:Nat} (h:Lib.indexByte l c = m):m < l.length∧l = l.take m ++ c :: l.drop (m + 1):=by
 have h1:=(Lib.indexByte_some h).1
 obtain ⟨hm,e⟩:=List.getElem?_eq_some_iff.1 h1
 refine ⟨hm,?_⟩
 conv => lhs;rw [← List.take_append_drop m l,List.drop_eq_getElem_cons hm,e]
theorem splitNL_all {c:UInt8} {n:Nat} {s:Str} (h:(splitL c s).length ≤ n + 1):splitNL c n s = splitL c s:=by
 induction n generalizing s with
 | zero =>
  unfold splitNL
  by_cases hc:∀ b ∈ s,b ≠ c
  ·rw [splitL_none hc]
  ·exfalso
   have hne:=splitL_ne c s
   by_cases hi:Lib.indexByte s c = -1
   ·apply hc;intro b hb e;obtain ⟨j,hj,rfl⟩:=List.getElem_of_mem hb
    exact Lib.indexByte_none hi j (by rw [List.getElem?_eq_getElem hj,e])
   ·have hge:=Lib.indexByte_ge s c
    obtain ⟨m,hm⟩:=Int.eq_ofNat_of_zero_le (show 0 ≤ Lib.indexByte s c by omega)
    obtain ⟨_,hs⟩:=indexByte_split hm
    rw [hs,splitL_at (take_free hm)] at h
    have:=splitL_ne c (s.drop (m + 1))
    cases hx:splitL c (s.drop (m + 1)) with
    | nil => exact this hx
    | cons a b => rw [hx] at h;simp at h
 | succ n ih =>
  unfold splitNL
  by_cases hi:Lib.indexByte s c < 0
  ·rw [if_pos hi]
   have hge:=Lib.indexByte_ge s c
   have hi' : Lib.indexByte s c = -1:=by omega
   rw [splitL_none]
   intro b hb e;obtain ⟨j,hj,rfl⟩:=List.getElem_of_mem hb
   exact Lib.indexByte_none hi' j (by rw [List.getElem?_eq_getElem hj,e])
  ·rw [if_neg hi]
   obtain ⟨m,hm⟩:=Int.eq_ofNat_of_zero_le (show 0 ≤ Lib.indexByte s c by omega)
   obtain ⟨_,hs⟩:=indexByte_split hm
   rw [hm,Int.toNat_natCast]
   have e:splitL c s = s.take m :: splitL c (s.drop (m + 1)):=by
    conv => lhs;rw [hs,splitL_at (take_free hm)]
   rw [e] at h ⊢
   rw [ih (by simpa using h)]
theorem splitNL_many {c:UInt8} {n:Nat} {s:Str} (h:n + 1 < (splitL c s).length):(splitNL c n s).length = n + 1:=by
 induction n generalizing s with
 | zero => simp [splitNL]
 | succ n ih =>
  unfold splitNL
  by_cases hi:Lib.indexByte s c < 0
  ·exfalso
   have hge:=Lib.indexByte_ge s c
   have hi' : Lib.indexByte s c = -1:=by omega
   rw [splitL_none] at h
   ·simp at h
   ·intro b hb e;obtain ⟨j,hj,rfl⟩:=List.getElem_of_mem hb
    exact Lib.indexByte_none hi' j (by rw [List.getElem?_eq_getElem hj,e])
  ·rw [if_neg hi]
   obtain ⟨m,hm⟩:=Int.eq_ofNat_of_zero_le (show 0 ≤ Lib.indexByte s c by omega)
   obtain ⟨_,hs⟩:=indexByte_split hm
   rw [hm,Int.toNat_natCast]
   have e:splitL c s = s.take m :: splitL c (s.drop (m + 1)):=by
    conv => lhs;rw [hs,splitL_at (take_free hm)]
   rw [e] at h
   rw [List.length_cons,ih (by simpa using h)]

open Go.RowKit
theorem splitNL_min (c:UInt8) (n:Nat) (s:Str):splitNL c (min n s.length) s = splitNL c n s:=by
 by_cases h:n ≤ s.length
 ·rw [Nat.min_eq_left h]
 ·have h1:=splitL_len c s
  rw [Nat.min_eq_right (by omega),splitNL_all h1,splitNL_all (by omega)]
theorem cut_end {w w' : World} {n:Nat} {zs:List Value} {xs ps:List Str} {rest:Str} (hx:xs.length ≤ n) (htk:(zs.set xs.length (SV rest)).take (xs.length + 1) = (xs ++ [rest]).map SV) (hb:Below w.heap.size w w') (he:xs ++ [rest] = ps) (hrow:∀ m,m ≤ n + 1→(w'.setCell ⟨w.heap.size,xs.length,none⟩ (SV rest)).ownsRow w.heap.size 9 1 (.slice (some ⟨w.heap.size,0,none⟩) m (n + 1)) m ((zs.set xs.length (SV rest)).take (m * 1))) :
  ∃ v,Ending.returned (.slice (some ⟨w.heap.size,0,none⟩) (xs.length + 1) (n + 1)) = .returned v∧(w'.setCell ⟨w.heap.size,xs.length,none⟩ (SV rest)).ownsRow w.heap.size 9 1 v ps.length (ps.map SV)∧Below w.heap.size w (w'.setCell ⟨w.heap.size,xs.length,none⟩ (SV rest)):=by
 subst he
 refine ⟨_,rfl,?_,hb.setCell (Nat.le_refl _) _⟩
 have h1:=hrow (xs.length + 1) (by omega)
 rw [Nat.mul_one,htk] at h1
 simpa using h1
structure CutAt (c:UInt8) (n:Nat) (s:Str) (xs:List Str) (rest:Str) (q:Nat):Prop where
 cnt:xs.length + q = n
 eq:xs ++ splitNL c q rest = splitNL c n s
 len:rest.length ≤ s.length
theorem CutAt.step {c:UInt8} {n:Nat} {s:Str} {xs:List Str} {rest:Str} {q m:Nat} (h:CutAt c n s xs rest (q + 1)) (hm:Lib.indexByte rest c = m):CutAt c n s (xs ++ [rest.take m]) (rest.drop (m + 1)) q:=by
 refine ⟨by have:=h.cnt;simp;omega,?_,by have:=h.len;simp;omega⟩
 rw [← h.eq,splitNL,hm,if_neg (by omega)];simp
theorem CutAt.ends {c:UInt8} {n:Nat} {s:Str} {xs:List Str} {rest:Str} {q:Nat} (h:CutAt c n s xs rest q) (hm:q = 0∨Lib.indexByte rest c < 0):xs ++ [rest] = splitNL c n s:=by
 rw [← h.eq]
 cases q with
 | zero => rfl
 | succ q => rw [splitNL,if_pos (by omega)]
theorem row_take {w:World} {base:Nat} {e:TypeId} {size n m:Nat} {g cap:Nat} {xs:List Value} (h:w.ownsRow base e size (.slice (some ⟨g,0,none⟩) n cap) n xs) (hm:m ≤ n):w.ownsRow base e size (.slice (some ⟨g,0,none⟩) m cap) m (xs.take (m * size)):=by
 refine ⟨by rw [List.length_take,h.1];exact Nat.min_eq_left (Nat.mul_le_mul_right _ hm),.inr ?_⟩
 rcases h.2 with ⟨h',_⟩ | ⟨g',cap',cur,h',hb,hg,hnc,hcm,hcs,htake⟩
 ·simp at h'
 ·simp at h'
  obtain ⟨rfl,rfl⟩:=h'
  refine ⟨g,cap,cur,rfl,hb,hg,by omega,hcm,hcs,?_⟩
  rw [← htake,List.take_take,Nat.min_eq_left (Nat.mul_le_mul_right _ hm)]
theorem set_take {zs:List Value} {xs:List Str} {i:Nat} {t:Str} (hl:i < zs.length) (h:zs.take i = xs.map SV):(zs.set i (SV t)).take (i + 1) = (xs ++ [t]).map SV:=by
 rw [List.take_succ_eq_append_getElem (by simpa using hl),List.take_set_of_le (Nat.le_refl _),h];simp
set_option maxHeartbeats 2000000 in
set_option maxRecDepth 100000 in
theorem genSplit_any (s:Str) (c:UInt8) (N:Nat) (w:World) (hs:s.length + 1 < maxLen) (hN1:1 ≤ N) (hN2:N ≤ 1000) :
  Calls Tryz.prog 115 #[SV s,SV [c],.int .i64 0,.int .i64 N] w fun e w' => ∃ v,e = .returned v∧w'.ownsRow w.heap.size 9 1 v (splitNL c (N - 1) s).length ((splitNL c (N - 1) s).map SV)∧Below w.heap.size w w':=by
 obtain ⟨i0,hi,hz0,hz1,hz2⟩:=info_parts Tryz.infoStr
 unfold maxLen at hs
 have hX:=extract_list
 have h0:((N:Int) == 0) = false:=by simp;omega
 obtain ⟨n,hn⟩ : ∃ n,n = min (N - 1) s.length:=⟨_,rfl⟩
 have Hn:Hid (splitNL c n s = splitNL c (N - 1) s):=by rw [Hid,hn,splitNL_min]
 have hmin:(min (N:Int) ((s.length:Int) + 1)) = (n:Int) + 1:=by omega
 have hn1:n ≤ 1000:=by omega
 have hn2:n ≤ s.length:=by omega
 have HM:Hid _:=hmin
 clear hn hmin
 go_enter Tryz.func115,Tryz.ntmps115
 go_wp2_with (at_make;go_loud (refine wpList_make_full _ rfl (.tmp 30) (.tmp 30) 48 rfl w.heap.size 9 i0 _ 1 Tryz.underlying48 hi hz0 hz1 _ _ _ _ (n + 1) rfl rfl ?_ ?_ ?_ ?_ ?_ ?_))
 ·rw [HM.out];omega
 ·rw [HM.out];omega
 ·rw [hz2];omega
 ·unfold maxLen;omega
 ·exact Nat.le_refl _
 intro w1 hown1 hg1
 have hb1:Below w.heap.size w w1:=(Below.refl _ _).grown hg1 (Nat.le_refl _) (fun k hk => by simp at hk)
 obtain ⟨zs0,hzs⟩ : ∃ zs0,w1.ownsRow w.heap.size 9 1 (.slice (some ⟨w.heap.size,0,none⟩) (n + 1) (n + 1)) (n + 1) zs0:=⟨_,hown1⟩
 clear hown1 hg1
 have hmin:=HM.out
 go_wp2
 clear hmin
 go_loopw [0,10,11] (fun sv i _ wr => ∃ (xs:List Str) (rest:Str) (q:Nat) (zs:List Value),i = .int .i64 xs.length∧sv = SV rest∧CutAt c n s xs rest q∧wr.ownsRow w.heap.size 9 1 (.slice (some ⟨w.heap.size,0,none⟩) (n + 1) (n + 1)) (n + 1) zs∧zs.take xs.length = xs.map SV∧Below w.heap.size w wr) (fun _ i _ _ => n - (intOf i).toNat)
 case atStart => exact ⟨[],s,n,zs0,rfl,rfl,⟨by simp,rfl,Nat.le_refl _⟩,hzs,by simp,hb1⟩
 case round =>
  clear hzs hb1
  obtain ⟨xs,rest,q,zs,rfl,rfl,hC,hown,htk,hbel⟩:=hrel
  have hcnt:=hC.cnt
  have hrl:=hC.len
  have hzl:zs.length = n + 1:=by have:=hown.1;omega
  have hcell:=hown.cellAt xs.length (by omega)
  have hfz:=hown.frozenAt xs.length
  obtain ⟨u0,hu0⟩ : ∃ u,zs[xs.length]? = some u:=⟨_,List.getElem?_eq_getElem (by omega)⟩
  rw [hu0] at hcell
  have hml:rest.length ≤ maxLen:=by unfold maxLen;omega
  have hge:=Lib.indexByte_ge rest c
  cases q with
  | zero =>
   have R:Hid _:=hC.ends (.inl rfl)
   have hxn:n ≤ xs.length:=by omega
   have hst:=set_take (t:=rest) (by omega) htk
   have hos:=hown.stored xs.length (SV rest)
   clear hC
   go_wp2
   go_ret
   rw [← Hn.out]
   exact cut_end (by omega) hst hbel R.out (fun m hm => row_take hos.1 hm)
  | succ q =>
   have hxn:xs.length < n:=by omega
   by_cases hneg:Lib.indexByte rest c < 0
   ·have R:Hid _:=hC.ends (.inr hneg)
    have hst:=set_take (t:=rest) (by omega) htk
    have hos:=hown.stored xs.length (SV rest)
    clear hC
    go_wp2_with (go_at_call 147;refine (index_any rest c _ hml).mono ?_;rintro e w' ⟨rfl,rfl⟩)
    go_ret
    rw [← Hn.out]
    exact cut_end (by omega) hst hbel R.out (fun m hm => row_take hos.1 hm)
   ·obtain ⟨m,hm⟩:=Int.eq_ofNat_of_zero_le (show 0 ≤ Lib.indexByte rest c by omega)
    have R:=hC.step hm
    have hsp:=(indexByte_split hm).1
    have hst:=set_take (t:=rest.take m) (by omega) htk
    have hos:=hown.stored xs.length (SV (rest.take m))
    clear hC
    go_wp2_with (go_at_call 147;refine (index_any rest c _ hml).mono ?_;rintro e w' ⟨rfl,rfl⟩)
    go_roundw
    case rel => exact ⟨xs ++ [rest.take m],rest.drop (m + 1),q,_,by simp,by simp [List.take_of_length_le],R,hos.1,by simpa using hst,hbel.grown hos.2 hbel.size (fun k hk => by simp at hk;omega)⟩
    case measure => simp [intOf];omega
set_option maxHeartbeats 1000000 in
theorem splitN_any (s:Str) (c:UInt8) (N:Nat) (w:World) (hs:s.length + 1 < maxLen) (hN1:1 ≤ N) (hN2:N ≤ 1000) :
  Calls Tryz.prog 123 #[SV s,SV [c],.int .i64 N] w fun e w' => ∃ v,e = .returned v∧w'.ownsRow w.heap.size 9 1 v (splitNL c (N - 1) s).length ((splitNL c (N - 1) s).map SV)∧Below w.heap.size w w':=by
 go_enter Tryz.func123,Tryz.ntmps123
 go_wp2_with (go_at_call 115;refine (genSplit_any s c N _ hs hN1 hN2).mono ?_;rintro e w' ⟨v,rfl,hown,hbel⟩)
 go_ret
 exact ⟨_,rfl,hown,hbel⟩

open Go.RowKit
set_option maxHeartbeats 1000000 in
theorem isNameByte_any (c:UInt8) (w:World) :
  Calls Tryz.prog 89 #[.int .u8 c.toNat] w fun e w' => e = .returned (.bool (okByte false c))∧w' = w:=by
 have hlt:c.toNat < 256:=c.toNat_lt
 generalize hb:okByte false c = b
 have hb2:b = decide ((97 ≤ c.toNat∧c.toNat ≤ 122)∨(48 ≤ c.toNat∧c.toNat ≤ 57)∨c.toNat = 46):=by
  rw [← hb];unfold okByte;simp [Bool.or_assoc]
 clear hb
 generalize c.toNat = n at *
 have HB:Hid _:=hb2
 clear hb2
 go_enter Tryz.func89,Tryz.ntmps89
 go_wp2
 all_goals
  go_ret
  refine ⟨ret_bool ?_,rfl⟩
  rw [HB.out,Bool.eq_iff_iff]
  simp
  omega
structure TellsByte (f:Nat) (q:UInt8→Bool):Prop where
 enters:∀ args w,(callFunc f args).run Tryz.prog w = .ok (.enter f args) w
 calls:∀ (c:UInt8) (w:World),Calls Tryz.prog f #[.int .u8 c.toNat] w fun e w' => e = .returned (.bool (q c))∧w' = w
def madeOfL (q:UInt8→Bool) (s:Str):Bool:=decide (1 ≤ s.length∧s.length ≤ 8) && s.all q
set_option maxHeartbeats 1000000 in
theorem isMadeOf_any (f:Nat) (q:UInt8→Bool) (hf:TellsByte f q) (s:Str) (w:World) (hs:s.length ≤ maxLen) :
  Calls Tryz.prog 88 #[SV s,.func (.func f) #[] #[]] w fun e w' => e = .returned (.bool (madeOfL q s))∧w' = w:=by
 unfold maxLen at hs
 have hG:=get_list
 have hF:=hf.enters
 have hC:=hf.calls
 clear hf
 by_cases h1:(s.length:Int) < 1
 ·have R:Hid (madeOfL q s = false):=by unfold madeOfL;rw [Hid,decide_eq_false (by omega)];rfl
  go_enter Tryz.func88,Tryz.ntmps88
  go_wp2
  go_ret
  exact ⟨by rw [R.out];rfl,rfl⟩
 by_cases h8:(8:Int) < s.length
 ·have R:Hid (madeOfL q s = false):=by unfold madeOfL;rw [Hid,decide_eq_false (by omega)];rfl
  go_enter Tryz.func88,Tryz.ntmps88
  go_wp2
  go_ret
  exact ⟨by rw [R.out];rfl,rfl⟩
 have hin:Hid (decide (1 ≤ s.length∧s.length ≤ 8) = true):=decide_eq_true (by omega)
 go_enter Tryz.func88,Tryz.ntmps88
 go_wp2
 go_loop [16] (fun i => ∃ k:Nat,k ≤ s.length∧i = .int .i64 k∧∀ j (hj:j < s.length),j < k→q s[j] = true) (fun i => s.length - (intOf i).toNat)
 case atStart => exact ⟨0,Nat.zero_le _,rfl,fun j _ h => by omega⟩
 case round =>
  obtain ⟨k,hk,rfl,hall⟩:=hrel
  by_cases hlt:k < s.length
  ·have Ck:=hC s[k]
   cases hb:q s[k]
   ·have R:Hid (madeOfL q s = false):=by
     unfold madeOfL
     rw [Hid,show s.all q = false from List.all_eq_false.2 ⟨s[k],List.getElem_mem hlt,by simp [hb]⟩,Bool.and_false]
    rw [hb] at Ck
    clear hall hC
    go_wp2_with (refine (Ck _).mono ?_;rintro e w' ⟨rfl,rfl⟩)
    go_ret
    exact ⟨by rw [R.out];rfl,rfl⟩
   ·have R:=all_step (f:=q) hlt hall hb
    rw [hb] at Ck
    clear hall hC
    go_wp2_with (refine (Ck _).mono ?_;rintro e w' ⟨rfl,rfl⟩)
    go_round
    case rel => exact ⟨k + 1,by omega,by go_num,R⟩
    case measure => simp [intOf];omega
  ·have R:Hid (madeOfL q s = true):=by
    unfold madeOfL
    rw [Hid,hin.out,Bool.true_and,List.all_eq_true]
    intro x hx
    obtain ⟨j,hj,rfl⟩:=List.getElem_of_mem hx
    exact hall j hj (by omega)
   clear hall hC
   go_wp2
   go_ret
   exact ⟨by rw [R.out];rfl,rfl⟩
theorem tells_nameByte:TellsByte 89 (okByte false):=⟨enters_of Tryz.func89 (by kernel_rfl) rfl,isNameByte_any⟩
theorem isNameL_madeOf (s:Str) (b:Bool):isNameL s b = madeOfL (okByte b) s:=by
 by_cases h1:(s.length:Int) < 1
 ·rw [isNameL_short h1];unfold madeOfL;rw [decide_eq_false (by omega)];rfl
 by_cases h8:(8:Int) < s.length
 ·rw [isNameL_long h8];unfold madeOfL;rw [decide_eq_false (by omega)];rfl
 have hin:decide (1 ≤ s.length∧s.length ≤ 8) = true:=decide_eq_true (by omega)
 cases ha:s.all (okByte b)
 ·obtain ⟨x,hx,hq⟩:=List.all_eq_false.1 ha
  obtain ⟨j,hj,rfl⟩:=List.getElem_of_mem hx
  rw [isNameL_bad hj (by simpa using hq)];unfold madeOfL;rw [ha,Bool.and_false]
 ·rw [isNameL_good (by omega) (by omega) (fun j hj => List.all_eq_true.1 ha _ (List.getElem_mem hj))];unfold madeOfL;rw [ha,hin];rfl
set_option maxHeartbeats 1000000 in
theorem prgIsName_any (s:Str) (w:World) (hs:s.length ≤ maxLen) :
  Calls Tryz.prog 58 #[SV s] w fun e w' => e = .returned (.bool (isNameL s false))∧w' = w:=by
 rw [isNameL_madeOf]
 have C:=isMadeOf_any _ _ tells_nameByte s
 go_enter Tryz.func58,Tryz.ntmps58
 go_wp2_with (go_at_call 88;refine (C _ hs).mono ?_;rintro e w' ⟨rfl,rfl⟩)
 go_ret
 exact ⟨rfl,rfl⟩
def NamesAt (w:World) (v:Value) (xs:List Str):Prop :=
 ∃ ao cap,v = .slice ao xs.length cap∧xs.length ≤ cap∧cap ≤ maxLen∧∀ k (h:k < xs.length),∃ g o,ao = some ⟨g,o,none⟩∧g < w.heap.size∧w.cell? ⟨g,o + k,none⟩ = some (SV xs[k])
theorem names_of_row {w:World} {base:Nat} {v:Value} {n:Nat} {xs:List Str} (h:w.ownsRow base 9 1 v n (xs.map SV)):NamesAt w v xs:=by
 rcases strs_cells h with ⟨rfl,rfl,rfl⟩ | ⟨g,cap,rfl,rfl,hg,hgb,hc,hm,hp⟩
 ·exact ⟨none,0,rfl,by simp,by unfold maxLen;omega,fun k hk => by simp at hk⟩
 ·exact ⟨_,cap,rfl,hc,hm,fun k hk => ⟨g,0,rfl,hg,by rw [Nat.zero_add];exact hp k hk⟩⟩
theorem names_below {w w' : World} {B:Nat} {v:Value} {xs:List Str} (h:NamesAt w v xs) (hb:Below B w w') (hB:w.heap.size ≤ B):NamesAt w' v xs:=by
 obtain ⟨ao,cap,h1,h2,h3,h4⟩:=h
 refine ⟨ao,cap,h1,h2,h3,fun k hk => ?_⟩
 obtain ⟨g,o,h5,h6,h7⟩:=h4 k hk
 have:=hb.size
 exact ⟨g,o,h5,by omega,(hb.cell (p:=⟨g,o + k,none⟩) (by simp only;omega)).trans h7⟩
theorem isPathL_of {p:Str} (h1:(splitL 47 p).length ≤ 5) (h2:∀ j (hj:j < (splitL 47 p).length),isNameL (splitL 47 p)[j] false = true):isPathL p = true:=by
 have ha:∀ x ∈ splitL 47 p,isNameL x false = true:=by
  intro x hx;obtain ⟨j,hj,rfl⟩:=List.getElem_of_mem hx;exact h2 j hj
 have h3:=splitL_total 47 p
 have h4:=sum_le (l:=splitL 47 p) (m:=8) (fun x hx => (isNameL_len (ha x hx)).2)
 unfold isPathL
 have:(splitL 47 p).all (fun x => isNameL x false) = true:=by rw [List.all_eq_true];exact ha
 simp [this,h1];omega
structure TellsText (f:Nat) (q:Str→Bool):Prop where
 enters:∀ args w,(callFunc f args).run Tryz.prog w = .ok (.enter f args) w
 calls:∀ (s:Str) (w:World),s.length ≤ maxLen→Calls Tryz.prog f #[SV s] w fun e w' => e = .returned (.bool (q s))∧w' = w
def piecesL (q:Str→Bool) (p:Str):Bool:=decide ((splitL 47 p).length ≤ 5) && (splitL 47 p).all q
def PiecesOut (w:World) (q:Str→Bool) (p:Str) (e:Ending) (w' : World):Prop :=
 Below w.heap.size w w'∧((piecesL q p = false∧e = .returned (.slice none 0 0))∨(piecesL q p = true∧∃ a n c,e = .returned (.slice (some a) n c)∧NamesAt w' (.slice (some a) n c) (splitL 47 p)))
def PiecesOwn (w:World) (q:Str→Bool) (p:Str) (e:Ending) (w' : World):Prop :=
 Below w.heap.size w w'∧((piecesL q p = false∧e = .returned (.slice none 0 0))∨(piecesL q p = true∧∃ g n c,e = .returned (.slice (some ⟨g,0,none⟩) n c)∧w.heap.size ≤ g∧NamesAt w' (.slice (some ⟨g,0,none⟩) n c) (splitL 47 p)))
theorem PiecesOwn.out {w w' : World} {q:Str→Bool} {p:Str} {e:Ending} (h:PiecesOwn w q p e w'):PiecesOut w q p e w':=by
 obtain ⟨h1,h2 | ⟨h2,g,n,c,h3,_,h4⟩⟩:=h
 ·exact ⟨h1,.inl h2⟩
 ·exact ⟨h1,.inr ⟨h2,_,n,c,h3,h4⟩⟩
set_option maxHeartbeats 1000000 in
theorem pieces_in (f:Nat) (q:Str→Bool) (p:Str) (w:World) (hF:∀ args w,(callFunc f args).run Tryz.prog w = .ok (.enter f args) w) (hC:∀ (s:Str) (W:World),Below w.heap.size w W→s.length ≤ maxLen→Calls Tryz.prog f #[SV s] W fun e w' => e = .returned (.bool (q s))∧w' = W) (hp:p.length + 1 < maxLen) :
  Calls Tryz.prog 90 #[SV p,.func (.func f) #[] #[]] w fun e w' => PiecesOwn w q p e w':=by
 go_enter Tryz.func90,Tryz.ntmps90
 go_wp2_with fail
 refine (splitN_any p 47 6 _ hp (by omega) (by omega)).mono ?_
 rintro e w1 ⟨v1,rfl,hown1,hbel1⟩
 have hl5:=splitNL_len 47 5 p
 by_cases h5:(splitL 47 p).length ≤ 5
 ·have hall:=splitNL_all (c:=47) (n:=5) (s:=p) (by omega)
  have hne:=splitL_ne 47 p
  have hpc:=splitL_piece 47 p
  simp only [show 6 - 1 = 5 from rfl] at hown1
  rw [hall] at hown1
  have hN:=names_of_row hown1
  rcases strs_cells hown1 with ⟨rfl,h0,h2⟩ | ⟨g,cap,rfl,hn,hg,hgb,hcap,hm,hcell⟩
  ·exact absurd h2 hne
  clear hown1 hl5 hall hn
  have Hok:Hid (∀ (_:∀ j (hj:j < (splitL 47 p).length),q (splitL 47 p)[j] = true),piecesL q p = true):=fun h => by
   unfold piecesL
   rw [decide_eq_true h5,Bool.true_and,List.all_eq_true]
   intro x hx;obtain ⟨j,hj,rfl⟩:=List.getElem_of_mem hx;exact h j hj
  have Hbad:Hid (∀ k (hk:k < (splitL 47 p).length),q (splitL 47 p)[k] = false→piecesL q p = false):=fun k hk h => by
   unfold piecesL
   rw [show (splitL 47 p).all q = false from List.all_eq_false.2 ⟨_,List.getElem_mem hk,by simp [h]⟩,Bool.and_false]
  have HN:Hid (NamesAt w1 (.slice (some ⟨g,0,none⟩) (splitL 47 p).length cap) (splitL 47 p)):=hN
  clear hN
  generalize hxs:splitL 47 p = xs at *
  have Hxs:Hid _:=hxs
  clear hxs
  unfold maxLen at hm
  go_wp2
  go_loop [15] (fun i => ∃ k:Nat,k ≤ xs.length∧i = .int .i64 k∧∀ j (hj:j < xs.length),j < k→q xs[j] = true) (fun i => xs.length - (intOf i).toNat)
  case atStart => exact ⟨0,Nat.zero_le _,rfl,fun j _ h => by omega⟩
  case round =>
   obtain ⟨k,hk,rfl,hall⟩:=hrel
   by_cases hlt:k < xs.length
   ·have hkl:=hpc xs[k] (List.getElem_mem hlt)
    have hml:xs[k].length ≤ maxLen:=by omega
    have Ck:=hC xs[k] w1 hbel1 hml
    cases he:q xs[k]
    ·have R:Hid _:=Hbad.out k hlt he
     rw [he] at Ck
     clear hall hC
     go_wp2_with (refine Ck.mono ?_;rintro e w' ⟨rfl,rfl⟩)
     go_ret
     exact ⟨hbel1,.inl ⟨R.out,rfl⟩⟩
    ·have R:=str_step (q:=q) hlt hall he
     rw [he] at Ck
     clear hall hC
     go_wp2_with (refine Ck.mono ?_;rintro e w' ⟨rfl,rfl⟩)
     go_round
     case rel => exact ⟨k + 1,by omega,by go_num,R⟩
     case measure => simp [intOf];omega
   ·have R:Hid _:=Hok.out (fun j hj => hall j hj (by omega))
    clear hall hC
    go_wp2
    go_ret
    exact ⟨hbel1,.inr ⟨R.out,_,_,_,rfl,hgb,by rw [Hxs.out];exact HN.out⟩⟩
 ·have h6:(splitNL 47 5 p).length = 6:=by
   by_cases h:(splitL 47 p).length ≤ 6
   ·rw [splitNL_all h];omega
   ·exact splitNL_many (by omega)
  have hfl:piecesL q p = false:=by unfold piecesL;simp [h5]
  simp only [show 6 - 1 = 5 from rfl] at hown1
  rw [h6] at hown1
  obtain ⟨ao,cap,rfl⟩:=row_form hown1
  have HF:Hid _:=hfl
  clear hfl h6 hown1 hl5 hC
  go_wp2
  go_ret
  exact ⟨hbel1,.inl ⟨HF.out,rfl⟩⟩
theorem tells_isName:TellsText 58 (fun s => isNameL s false):=⟨enters_of Tryz.func58 (by kernel_rfl) rfl,prgIsName_any⟩
theorem isPathL_pieces (p:Str):isPathL p = piecesL (fun s => isNameL s false) p:=by
 by_cases h5:(splitL 47 p).length ≤ 5
 ·cases ha:(splitL 47 p).all fun s => isNameL s false
  ·obtain ⟨x,hx,hq⟩:=List.all_eq_false.1 ha
   obtain ⟨j,hj,rfl⟩:=List.getElem_of_mem hx
   rw [isPathL_bad hj (by simpa using hq)];unfold piecesL;rw [ha,Bool.and_false]
  ·rw [isPathL_of h5 (fun j hj => List.all_eq_true.1 ha _ (List.getElem_mem hj))];unfold piecesL;rw [ha,decide_eq_true h5];rfl
 ·have h1:isPathL p = false:=by unfold isPathL;simp [h5]
  rw [h1];unfold piecesL;rw [decide_eq_false h5];rfl
def NamesOut (w:World) (p:Str) (e:Ending) (w' : World):Prop :=
 Below w.heap.size w w'∧((isPathL p = false∧e = .returned (.slice none 0 0))∨(isPathL p = true∧∃ a n c,e = .returned (.slice (some a) n c)∧NamesAt w' (.slice (some a) n c) (splitL 47 p)))
def NamesOwn (w:World) (p:Str) (e:Ending) (w' : World):Prop :=
 Below w.heap.size w w'∧((isPathL p = false∧e = .returned (.slice none 0 0))∨(isPathL p = true∧∃ g n c,e = .returned (.slice (some ⟨g,0,none⟩) n c)∧w.heap.size ≤ g∧NamesAt w' (.slice (some ⟨g,0,none⟩) n c) (splitL 47 p)))
theorem NamesOwn.out {w w' : World} {p:Str} {e:Ending} (h:NamesOwn w p e w'):NamesOut w p e w':=by
 obtain ⟨h1,h2 | ⟨h2,g,n,c,h3,_,h4⟩⟩:=h
 ·exact ⟨h1,.inl h2⟩
 ·exact ⟨h1,.inr ⟨h2,_,n,c,h3,h4⟩⟩
set_option maxHeartbeats 1000000 in
theorem namesOf_own (p:Str) (w:World) (hp:p.length + 1 < maxLen) :
  Calls Tryz.prog 61 #[SV p] w fun e w' => NamesOwn w p e w':=by
 have C:=pieces_in _ _ p w tells_isName.enters (fun s W _ hs => tells_isName.calls s W hs) hp
 have HN:Hid (∀ e w',PiecesOwn w (fun s => isNameL s false) p e w'→NamesOwn w p e w'):=fun e w' h => by
  unfold PiecesOwn at h
  rw [← isPathL_pieces] at h
  exact h
 go_enter Tryz.func61,Tryz.ntmps61
 go_wp2_with (go_at_call 90;refine C.mono ?_)
 intro e w1 h1
 have h2:=HN.out e w1 h1
 obtain ⟨hb,⟨hp0,rfl⟩ | ⟨hp1,g,n,c,rfl,hg,hn⟩⟩:=h2
 ·have HR:Hid (NamesOwn w p (.returned (.slice none 0 0)) w1):=⟨hb,.inl ⟨hp0,rfl⟩⟩
  clear h1 hp0
  go_wp2
  go_ret
  exact HR.out
 ·have HR:Hid (NamesOwn w p (.returned (.slice (some ⟨g,0,none⟩) n c)) w1):=⟨hb,.inr ⟨hp1,g,n,c,rfl,hg,hn⟩⟩
  clear h1 hp1 hn
  go_wp2
  go_ret
  exact HR.out
theorem namesOf_any (p:Str) (w:World) (hp:p.length + 1 < maxLen) :
  Calls Tryz.prog 61 #[SV p] w fun e w' => NamesOut w p e w':=(namesOf_own p w hp).mono fun _ _ h => h.out
def beginsL (a b:List Str):Bool:=decide (a = b.take (min a.length b.length))
set_option maxHeartbeats 1000000 in
theorem equal_any (a b:List Str) (va vb:Value) (w:World) (ha:NamesAt w va a) (hb:NamesAt w vb b) :
  Calls Tryz.prog 95 #[va,vb] w fun e w' => e = .returned (.bool (decide (a = b)))∧Below w.heap.size w w':=by
 obtain ⟨ao,ca,rfl,hac,ham,hacell⟩:=ha
 obtain ⟨bo,cb,rfl,hbc,hbm,hbcell⟩:=hb
 unfold maxLen at ham hbm
 cases hl:((a.length:Int) == (b.length:Int))
 ·have R:Hid (decide (a = b) = false):=by rw [Hid,decide_eq_false_iff_not];intro e;rw [e] at hl;simp at hl
  go_enter Tryz.func95,Tryz.ntmps95
  go_wp2
  go_ret
  exact ⟨by rw [R.out];rfl,Below.refl _ _⟩
 ·have hle:a.length = b.length:=by simp at hl;omega
  have Hle:Hid _:=hle
  have hl1:a.length ≤ b.length:=by omega
  have hl2:b.length ≤ a.length:=by omega
  clear hle
  go_enter Tryz.func95,Tryz.ntmps95
  go_wp2
  go_loopw [13] (fun i wr => ∃ k n:Nat,k ≤ a.length∧i = .int .i64 k∧wr = w.drewN n∧a.take k = b.take k) (fun i _ => a.length - (intOf i).toNat)
  case atStart => exact ⟨0,0,Nat.zero_le _,rfl,rfl,rfl⟩
  case round =>
   obtain ⟨k,n,hk,rfl,rfl,hst⟩:=hrel
   have Hst:Hid _:=hst
   clear hst
   by_cases hlt:k < a.length
   ·have hltb:k < b.length:=by omega
    obtain ⟨g1,o1,rfl,hg1,hc1⟩:=hacell k hlt
    obtain ⟨g2,o2,rfl,hg2,hc2⟩:=hbcell k hltb
    clear hacell hbcell
    cases he:(a[k] == b[k])
    ·have hne:(a[k] != b[k]) = true:=by simp at he ⊢;exact he
     have R:Hid (decide (a = b) = false):=by
      rw [Hid,decide_eq_false_iff_not];intro e;subst e;simp at he
     go_wp2
     go_quiet (fail)
     go_wp2
     go_ret
     exact ⟨by rw [R.out];rfl,below_drewN (below_drewN (Below.refl _ _) _) _⟩
    ·have hne:(a[k] != b[k]) = false:=by simp at he ⊢;exact he
     have R:Hid (a.take (k + 1) = b.take (k + 1)):=by
      simp at he
      rw [Hid,List.take_succ_eq_append_getElem hlt,List.take_succ_eq_append_getElem hltb,Hst.out,he]
     have he2:a[k] = b[k]:=by simpa using he
     rw [he2] at hc1
     clear he hne he2
     go_wp2
     go_quiet (fail)
     go_wp2
     go_roundw
     case rel => exact ⟨k + 1,_,by omega,by go_num,rfl,R.out⟩
     case measure => simp [intOf];omega
   ·have R:Hid (decide (a = b) = true):=by
     have h:=Hst.out
     rw [List.take_of_length_le (by omega),List.take_of_length_le (by omega)] at h
     rw [Hid,decide_eq_true h]
    clear hacell hbcell
    go_wp2
    go_ret
    exact ⟨by rw [R.out];rfl,below_drewN (Below.refl _ _) _⟩
end Go.Proofs.YtdcbgfhkfmohiaaGreatDoor
