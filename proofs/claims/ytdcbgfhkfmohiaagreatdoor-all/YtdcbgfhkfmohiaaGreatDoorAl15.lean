/- Diff's iterator, whole. -/
import Derived.Test.YtdcbgfhkfmohiaaGreatDoorAl14
import Derived.Lib.Builder
import Derived.Lib.AppendStr
import Derived.Lib.UnsafeStr
import Derived.Lib.Strings
import Derived.Lib.Walk
import Derived.Laws.Externs
namespace Go.Proofs.YtdcbgfhkfmohiaaGreatDoor
open Go.RowKit
theorem changes_seq (B:Bank) (n:Nat):∀ (y inside:Str) (a b:Option Tree) (x1 x2 x3:Nat) (w:World),ChgAt w B y inside a b x1 x2 x3→(a ≠ none∨b ≠ none)→(a = none∨b = none→y ≠ [])→y.length ≤ 8→inside.length + 9 * n ≤ 900→fitsT n a→fitsT n b →
  SeqOf Tryz.prog 71 #[ptrV x1,ptrV x2,ptrV x3] encM (chgS n (joinS inside y) a b) (chgR B x1 x2 x3) w:=by
 induction n with
 | zero =>
  intro y inside a b x1 x2 x3 w h hne _ hl1 hl2 hfa hfb
  cases a with
  | some t => exact hfa.elim
  | none =>
   cases b with
   | some t => exact hfb.elim
   | none => simp at hne
 | succ n ih =>
  intro y inside a b x1 x2 x3 w h hne _ hl1 hl2 hfa hfb
  by_cases hab:a = b
  ·subst hab
   cases a with
   | none => simp at hne
   | some t =>
    rw [chgS,if_pos rfl]
    exact changes_equal B y inside t x1 x2 x3 w h
  ·exact changes_go B y inside a b x1 x2 x3 w h hab hl1 n hl2 hfa hfb ih
theorem ent_facts:∀ {es:Ents},WFE es→∀ e ∈ es,isNameL e.1 false = true∧WFT e.2∧heightT e.2 + 1 ≤ heightE es
 | [],_,e,he => by simp at he
 | (x,t) :: es,hw,e,he => by
  unfold WFE at hw
  simp only [List.mem_cons] at he
  rw [heightE]
  rcases he with rfl | he
  ·exact ⟨hw.1,hw.2.1,by simp only;omega⟩
  ·obtain ⟨h1,h2,h3⟩:=ent_facts hw.2.2.2 e he
   exact ⟨h1,h2,by omega⟩
theorem fits_ents (k:Nat):∀ es:Ents,WFE es→heightE es ≤ k→∀ e ∈ es,e.1 ≠ []∧e.1.length ≤ 8∧fitsT k (some e.2):=by
 induction k with
 | zero =>
  intro es hw hh e he
  have:=(ent_facts hw e he).2.2
  omega
 | succ k ih =>
  intro es hw hh e he
  obtain ⟨h1,h2,h3⟩:=ent_facts hw e he
  have hn:=isNameL_len h1
  refine ⟨fun h => by rw [h] at hn;simp at hn,hn.2,?_⟩
  cases ht:e.2 with
  | file d => trivial
  | dir c =>
   rw [ht] at h2 h3
   unfold WFT at h2
   rw [heightT] at h3
   exact ih c h2.2 (by omega)
theorem fits_root {es:Ents} (hw:WFE es) (hh:heightE es ≤ 5):fitsT 6 (some (.dir es)):=fits_ents 5 es hw hh
theorem changes_top (B:Bank) (es:Ents) (x1 x2 x3:Nat) (w:World) (h:ChgAt w B [] [] none (some (.dir es)) x1 x2 x3) (hf:fitsT 6 (some (.dir es))) :
  SeqOf Tryz.prog 71 #[ptrV x1,ptrV x2,ptrV x3] encM (chgS 6 [] none (some (.dir es))) (chgR B x1 x2 x3) w:=by
 have:=changes_go B [] [] none (some (.dir es)) x1 x2 x3 w h (by simp) (by simp) 5 (by simp) trivial hf (changes_seq B 5)
 rw [show joinS [] [] = [] from rfl] at this
 exact this
end Go.Proofs.YtdcbgfhkfmohiaaGreatDoor

namespace Go.Proofs.YtdcbgfhkfmohiaaGreatDoor
open Go.RowKit
open Classical in
noncomputable def chgN:Nat→Option Tree→Option Tree→List (List Str × Nat)
 | 0,_,_ => []
 | n + 1,a,b => if a = b then [] else (if markT a b = 0 then [] else [([],markT a b)]) ++ (pairsT (entsO a) (entsO b)).flatMap fun p => (chgN n p.2.1 p.2.2).map fun f => (p.1 :: f.1,f.2)
theorem join_ne {q:List Str} (hq:q ≠ []) (h:∀ x ∈ q,x ≠ []):joinP q ≠ []:=by
 cases q with
 | nil => exact absurd rfl hq
 | cons x r =>
  cases r with
  | nil => simpa [joinP] using h x (by simp)
  | cons y r => rw [joinP_cons (by simp)];simp [h x (by simp)]
theorem joinS_snoc {q:List Str} {x:Str} (h:∀ y ∈ q,y ≠ []):joinS (joinP q) x = joinP (q ++ [x]):=by
 by_cases hq:q = []
 ·subst hq;rfl
 ·rw [joinP_app hq (by simp)]
  unfold joinS
  rw [if_neg (join_ne hq h)]
  rfl
theorem pair_fits {n:Nat} {a b:Option Tree} (hfa:fitsT (n + 1) a) (hfb:fitsT (n + 1) b):∀ p ∈ pairsT (entsO a) (entsO b),p.1 ≠ []∧fitsT n p.2.1∧fitsT n p.2.2:=by
 intro q hq
 obtain ⟨m1,m2,m3⟩:=pairs_mem (Nat.le_refl _) q hq
 have root:∀ (c:Option Tree),fitsT (n + 1) c→∀ e ∈ entsO c,e.1 ≠ []∧fitsT n (some e.2):=by
  intro c hc e he
  cases c with
  | none => simp [entsO] at he
  | some u =>
   cases u with
   | file d => simp [entsO] at he
   | dir es => exact ⟨(hc e he).1,(hc e he).2.2⟩
 have f0:fitsT n none:=by cases n <;> trivial
 cases h1:q.2.1 with
 | some t =>
  have r1:=root a hfa _ (m1 t h1)
  cases h2:q.2.2 with
  | none => exact ⟨r1.1,r1.2,f0⟩
  | some u =>
   obtain ⟨y,hy,e⟩:=m2 u h2
   exact ⟨r1.1,r1.2,(root b hfb _ hy).2⟩
 | none =>
  cases h2:q.2.2 with
  | none => exact absurd h2 (m3 h1)
  | some u =>
   obtain ⟨y,hy,e⟩:=m2 u h2
   have r2:=root b hfb _ hy
   exact ⟨by rw [e];exact r2.1,f0,r2.2⟩
theorem chg_names (n:Nat):∀ (q:List Str) (a b:Option Tree),(∀ x ∈ q,x ≠ [])→fitsT n a→fitsT n b→chgS n (joinP q) a b = (chgN n a b).map fun f => (joinP (q ++ f.1),f.2):=by
 induction n with
 | zero => intro q a b _ _ _;rfl
 | succ n ih =>
  intro q a b hq hfa hfb
  rw [chgS,chgN]
  by_cases hab:a = b
  ·rw [if_pos hab,if_pos hab];rfl
  ·rw [if_neg hab,if_neg hab,List.map_append]
   congr 1
   ·by_cases hm:markT a b = 0
    ·rw [if_pos hm,if_pos hm];rfl
    ·rw [if_neg hm,if_neg hm];simp
   ·have hp:=pair_fits hfa hfb
    generalize pairsT (entsO a) (entsO b) = ts at hp
    induction ts with
    | nil => rfl
    | cons p ts iht =>
     rw [List.flatMap_cons,List.flatMap_cons,List.map_append,iht (fun p' hp' => hp p' (by simp [hp']))]
     congr 1
     obtain ⟨h1,h2,h3⟩:=hp p (by simp)
     rw [joinS_snoc hq,ih (q ++ [p.1]) p.2.1 p.2.2 (by intro x hx;simp only [List.mem_append,List.mem_singleton] at hx;rcases hx with hx | rfl;exact hq x hx;exact h1) h2 h3]
     simp [List.map_map,Function.comp_def]
end Go.Proofs.YtdcbgfhkfmohiaaGreatDoor

namespace Go.Proofs.YtdcbgfhkfmohiaaGreatDoor
open Go.RowKit
theorem cmp_less:∀ {a b:Str},Lib.compareBytes a b = -1→Op.bytesLess a b = true
 | [],[],h => by simp [Lib.compareBytes] at h
 | [],_ :: _,_ => rfl
 | _ :: _,[],h => by simp [Lib.compareBytes] at h
 | a :: xs,b :: ys,h => by
  unfold Lib.compareBytes at h
  unfold Op.bytesLess
  by_cases h1:a < b
  ·simp [h1]
  ·rw [if_neg h1] at h
   by_cases h2:b < a
   ·rw [if_pos h2] at h;simp at h
   ·rw [if_neg h2] at h
    have e1:a = b:=by
     have h3:¬ a.toNat < b.toNat:=h1
     have h4:¬ b.toNat < a.toNat:=h2
     exact UInt8.toNat_inj.1 (by omega)
    subst e1
    simp [cmp_less h]
theorem cmp_more:∀ {a b:Str},Lib.compareBytes a b = 1→Op.bytesLess b a = true
 | [],[],h => by simp [Lib.compareBytes] at h
 | [],_ :: _,h => by simp [Lib.compareBytes] at h
 | _ :: _,[],_ => rfl
 | a :: xs,b :: ys,h => by
  unfold Lib.compareBytes at h
  unfold Op.bytesLess
  by_cases h1:a < b
  ·rw [if_pos h1] at h;simp at h
  ·rw [if_neg h1] at h
   by_cases h2:b < a
   ·simp [h2]
   ·rw [if_neg h2] at h
    have e1:a = b:=by
     have h3:¬ a.toNat < b.toNat:=h1
     have h4:¬ b.toNat < a.toNat:=h2
     exact UInt8.toNat_inj.1 (by omega)
    subst e1
    simp [cmp_more h]
def Above (y:Str) (es:Ents):Prop:=∀ e ∈ es,Op.bytesLess y e.1 = true
theorem Above.none {y:Str} {es:Ents} (h:Above y es):findE es y = none:=findE_none fun e he => fun e' => by have:=h e he;rw [e',bl_irrefl] at this;simp at this
theorem find_cons {h:Str} {l r:Option Tree} {es fs es' fs' : Ents} {ts:List (Str × Option Tree × Option Tree)} (he:∀ z,findE es z = if h = z then l else findE es' z) (hf:∀ z,findE fs z = if h = z then r else findE fs' z) (ae:Above h es') (af:Above h fs') (hne:l ≠ none∨r ≠ none)
  (ih:∀ p,p ∈ ts ↔ (p.2.1 = findE es' p.1∧p.2.2 = findE fs' p.1∧(p.2.1 ≠ none∨p.2.2 ≠ none))):∀ p,p ∈ (h,l,r) :: ts ↔ (p.2.1 = findE es p.1∧p.2.2 = findE fs p.1∧(p.2.1 ≠ none∨p.2.2 ≠ none)):=by
 rintro ⟨x,u,v⟩
 rw [List.mem_cons,ih,he,hf]
 simp only
 by_cases e:h = x
 ·subst e
  rw [if_pos rfl,if_pos rfl,ae.none,af.none]
  constructor
  ·rintro (h1 | ⟨h1,h2,h3⟩)
   ·simp only [Prod.mk.injEq,true_and] at h1
    obtain ⟨rfl,rfl⟩:=h1
    exact ⟨rfl,rfl,hne⟩
   ·rcases h3 with h3 | h3
    ·exact absurd h1 h3
    ·exact absurd h2 h3
  ·rintro ⟨rfl,rfl,_⟩;exact .inl rfl
 ·rw [if_neg e,if_neg e]
  constructor
  ·rintro (h1 | h1)
   ·simp only [Prod.mk.injEq] at h1;exact absurd h1.1.symm e
   ·exact h1
  ·exact .inr
theorem above_cons {x:Str} {t:Tree} {es:Ents} (h:WFE ((x,t) :: es)):Above x es:=by unfold WFE at h;exact h.2.2.1
theorem above_all {x y:Str} {u:Tree} {fs:Ents} (h:WFE ((y,u) :: fs)) (hxy:Op.bytesLess x y = true):Above x ((y,u) :: fs):=by
 intro e he
 simp only [List.mem_cons] at he
 rcases he with rfl | he
 ·exact hxy
 ·exact bl_trans hxy (above_cons h e he)
theorem pairs_find {n:Nat}:∀ {es fs:Ents},es.length + fs.length ≤ n→WFE es→WFE fs→∀ p,p ∈ pairsT es fs ↔ (p.2.1 = findE es p.1∧p.2.2 = findE fs p.1∧(p.2.1 ≠ none∨p.2.2 ≠ none)):=by
 induction n with
 | zero =>
  intro es fs h _ _ p
  obtain rfl:es = []:=List.length_eq_zero_iff.1 (by omega)
  obtain rfl:fs = []:=List.length_eq_zero_iff.1 (by omega)
  simp only [pairsT,findE,List.not_mem_nil,false_iff]
  rintro ⟨h1,h2,h3 | h3⟩
  ·exact h3 h1
  ·exact h3 h2
 | succ n ih =>
  intro es fs h hw hv
  have c1:∀ (x:Str) (t:Tree) (es:Ents) z,findE ((x,t) :: es) z = if x = z then some t else findE es z:=fun x t es z => rfl
  have c0:∀ (x:Str) z,findE [] z = if x = z then none else findE [] z:=fun x z => by simp [findE]
  have tl:∀ {x:Str} {t:Tree} {es:Ents},WFE ((x,t) :: es)→WFE es:=fun h => by unfold WFE at h;exact h.2.2.2
  cases es with
  | nil =>
   cases fs with
   | nil => exact fun p => ih (es:=[]) (fs:=[]) (by simp) hw hv p
   | cons f fs =>
    obtain ⟨y,u⟩:=f
    rw [pairsT]
    exact find_cons (c0 y) (c1 y u fs) (fun e he => by simp at he) (above_cons hv) (.inr (by simp)) (ih (by simp at h ⊢;omega) hw (tl hv))
  | cons e es =>
   obtain ⟨x,t⟩:=e
   cases fs with
   | nil =>
    rw [pairsT]
    exact find_cons (c1 x t es) (c0 x) (above_cons hw) (fun e he => by simp at he) (.inl (by simp)) (ih (by simp at h ⊢;omega) (tl hw) hv)
   | cons f fs =>
    obtain ⟨y,u⟩:=f
    rw [pairsT]
    by_cases k1:Lib.compareBytes x y = -1
    ·rw [if_pos k1]
     have hl:=cmp_less k1
     refine find_cons (c1 x t es) (fun z => ?_) (above_cons hw) (above_all hv hl) (.inl (by simp)) (ih (by simp at h ⊢;omega) (tl hw) hv)
     by_cases e:x = z
     ·subst e;rw [if_pos rfl];exact (above_all hv hl).none
     ·rw [if_neg e]
    ·by_cases k2:Lib.compareBytes x y = 1
     ·rw [if_neg k1,if_pos k2]
      have hl:=cmp_more k2
      refine find_cons (fun z => ?_) (c1 y u fs) (above_all hw hl) (above_cons hv) (.inr (by simp)) (ih (by simp at h ⊢;omega) hw (tl hv))
      by_cases e:y = z
      ·subst e;rw [if_pos rfl];exact (above_all hw hl).none
      ·rw [if_neg e]
     ·rw [if_neg k1,if_neg k2]
      obtain rfl:=cmp_eq k1 k2
      exact find_cons (c1 x t es) (c1 x u fs) (above_cons hw) (above_cons hv) (.inl (by simp)) (ih (by simp at h ⊢;omega) (tl hw) (tl hv))

open Go.RowKit
def fileAtO (t:Option Tree) (p:List Str):Option Str:=match t with
 | none => none
 | some t => fileAt t p
def markF (a b:Option Str):Nat:=match a,b with
 | none,none => 0
 | some _,none => 45
 | none,some _ => 43
 | some d,some e => if d = e then 0 else 126
def wfO:Option Tree→Prop
 | some (.dir es) => WFE es
 | _ => True
theorem markF_self (a:Option Str):markF a a = 0:=by cases a <;> simp [markF]
theorem fileAtO_nil (t:Option Tree):fileAtO t [] = fileO t:=by
 cases t with
 | none => rfl
 | some t => cases t <;> rfl
theorem fileAtO_cons (t:Option Tree) (x:Str) (r:List Str):fileAtO t (x :: r) = fileAtO (findE (entsO t) x) r:=by
 cases t with
 | none => rfl
 | some t =>
  cases t with
  | file d => rfl
  | dir es =>
   simp only [fileAtO,entsO]
   unfold fileAt
   rw [sub]
   cases findE es x with
   | none => rfl
   | some u => rfl
theorem wfO_find {t:Option Tree} (h:wfO t) (x:Str):wfO (findE (entsO t) x):=by
 cases t with
 | none => trivial
 | some t =>
  cases t with
  | file d => trivial
  | dir es =>
   cases hf:findE (entsO (some (.dir es))) x with
   | none => trivial
   | some u =>
    have hm:=findE_mem hf
    have hu:=(WFE.mem h _ hm).2
    cases u with
    | file d => trivial
    | dir c => unfold WFT at hu;exact hu.2
theorem wfO_ents {t:Option Tree} (h:wfO t):WFE (entsO t):=by
 cases t with
 | none => unfold entsO WFE;trivial
 | some t =>
  cases t with
  | file d => unfold entsO WFE;trivial
  | dir es => exact h
theorem chg_mem (n:Nat):∀ (a b:Option Tree),fitsT n a→fitsT n b→wfO a→wfO b→∀ p m,(p,m) ∈ chgN n a b ↔ (m = markF (fileAtO a p) (fileAtO b p)∧m ≠ 0):=by
 induction n with
 | zero =>
  intro a b hfa hfb _ _ p m
  cases a with
  | some t => exact hfa.elim
  | none =>
   cases b with
   | some t => exact hfb.elim
   | none =>
    simp only [chgN,List.not_mem_nil,false_iff]
    rintro ⟨h1,h2⟩
    exact h2 (h1.trans (markF_self _))
 | succ n ih =>
  intro a b hfa hfb hwa hwb p m
  rw [chgN]
  by_cases hab:a = b
  ·subst hab
   rw [if_pos rfl]
   simp only [List.not_mem_nil,false_iff]
   rintro ⟨h1,h2⟩
   exact h2 (h1.trans (markF_self _))
  ·rw [if_neg hab,List.mem_append]
   have hp:=pair_fits hfa hfb
   have hpf:=pairs_find (Nat.le_refl _) (wfO_ents hwa) (wfO_ents hwb)
   cases p with
   | nil =>
    rw [fileAtO_nil,fileAtO_nil]
    have e:markF (fileO a) (fileO b) = markT a b:=rfl
    rw [e]
    constructor
    ·rintro (h | h)
     ·by_cases hm:markT a b = 0
      ·rw [if_pos hm] at h;simp at h
      ·rw [if_neg hm] at h
       simp only [List.mem_singleton,Prod.mk.injEq,true_and] at h
       exact ⟨h,by rw [h];exact hm⟩
     ·simp only [List.mem_flatMap,List.mem_map,Prod.mk.injEq] at h
      obtain ⟨q,_,f,_,h1,_⟩:=h
      cases h1
    ·rintro ⟨rfl,h2⟩
     left;rw [if_neg h2];simp
   | cons x r =>
    rw [fileAtO_cons,fileAtO_cons]
    constructor
    ·rintro (h | h)
     ·by_cases hm:markT a b = 0
      ·rw [if_pos hm] at h;simp at h
      ·rw [if_neg hm] at h;simp at h
     ·simp only [List.mem_flatMap,List.mem_map,Prod.mk.injEq] at h
      obtain ⟨q,hq,f,hf,h1,h2⟩:=h
      obtain ⟨q1,q2,q3⟩:=q
      simp only [List.cons.injEq] at h1
      obtain ⟨rfl,rfl⟩:=h1
      obtain ⟨k1,k2,_⟩:=(hpf _).1 hq
      simp only at k1 k2 hf
      obtain ⟨f1,f2,f3⟩:=hp _ hq
      simp only at f2 f3
      subst k1
      subst k2
      have:=(ih _ _ f2 f3 (wfO_find hwa _) (wfO_find hwb _) f.1 f.2).1 hf
      rw [← h2];exact this
    ·rintro ⟨h1,h2⟩
     right
     have hne:findE (entsO a) x ≠ none∨findE (entsO b) x ≠ none:=by
      refine Classical.byContradiction fun hc => ?_
      have e1:findE (entsO a) x = none:=Classical.byContradiction fun h => hc (.inl h)
      have e2:findE (entsO b) x = none:=Classical.byContradiction fun h => hc (.inr h)
      rw [e1,e2] at h1
      exact h2 h1
     have hq:=(hpf (x,findE (entsO a) x,findE (entsO b) x)).2 ⟨rfl,rfl,hne⟩
     obtain ⟨f1,f2,f3⟩:=hp _ hq
     simp only [List.mem_flatMap,List.mem_map,Prod.mk.injEq]
     exact ⟨_,hq,(r,m),(ih _ _ f2 f3 (wfO_find hwa _) (wfO_find hwb _) r m).2 ⟨h1,h2⟩,rfl,rfl⟩

open Go.RowKit
theorem pairs_above {x:Str} {es fs:Ents} (he:Above x es) (hf:Above x fs):∀ q ∈ pairsT es fs,Op.bytesLess x q.1 = true:=by
 intro q hq
 obtain ⟨m1,m2,m3⟩:=pairs_mem (Nat.le_refl _) q hq
 cases h1:q.2.1 with
 | some t => exact he _ (m1 t h1)
 | none =>
  cases h2:q.2.2 with
  | none => exact absurd h2 (m3 h1)
  | some t =>
   obtain ⟨y,hy,e⟩:=m2 t h2
   rw [e];exact hf _ hy
theorem pairs_sorted {n:Nat}:∀ {es fs:Ents},es.length + fs.length ≤ n→WFE es→WFE fs→(pairsT es fs).Pairwise fun p q => Op.bytesLess p.1 q.1 = true:=by
 induction n with
 | zero =>
  intro es fs h _ _
  obtain rfl:es = []:=List.length_eq_zero_iff.1 (by omega)
  obtain rfl:fs = []:=List.length_eq_zero_iff.1 (by omega)
  simp [pairsT]
 | succ n ih =>
  intro es fs h hw hv
  have tl:∀ {x:Str} {t:Tree} {es:Ents},WFE ((x,t) :: es)→WFE es:=fun h => by unfold WFE at h;exact h.2.2.2
  cases es with
  | nil =>
   cases fs with
   | nil => simp [pairsT]
   | cons f fs =>
    obtain ⟨y,u⟩:=f
    rw [pairsT,List.pairwise_cons]
    exact ⟨pairs_above (fun e he => by simp at he) (above_cons hv),ih (by simp at h ⊢;omega) hw (tl hv)⟩
  | cons e es =>
   obtain ⟨x,t⟩:=e
   cases fs with
   | nil =>
    rw [pairsT,List.pairwise_cons]
    exact ⟨pairs_above (above_cons hw) (fun e he => by simp at he),ih (by simp at h ⊢;omega) (tl hw) hv⟩
   | cons f fs =>
    obtain ⟨y,u⟩:=f
    rw [pairsT]
    by_cases k1:Lib.compareBytes x y = -1
    ·rw [if_pos k1,List.pairwise_cons]
     exact ⟨pairs_above (above_cons hw) (above_all hv (cmp_less k1)),ih (by simp at h ⊢;omega) (tl hw) hv⟩
    ·by_cases k2:Lib.compareBytes x y = 1
     ·rw [if_neg k1,if_pos k2,List.pairwise_cons]
      exact ⟨pairs_above (above_all hw (cmp_more k2)) (above_cons hv),ih (by simp at h ⊢;omega) hw (tl hv)⟩
     ·rw [if_neg k1,if_neg k2]
      obtain rfl:=cmp_eq k1 k2
      rw [List.pairwise_cons]
      exact ⟨pairs_above (above_cons hw) (above_cons hv),ih (by simp at h ⊢;omega) (tl hw) (tl hv)⟩
theorem chg_sorted (n:Nat):∀ (a b:Option Tree),fitsT n a→fitsT n b→wfO a→wfO b→(chgN n a b).Pairwise fun f g => lessS f.1 g.1 = true:=by
 induction n with
 | zero => intro a b _ _ _ _;simp [chgN]
 | succ n ih =>
  intro a b hfa hfb hwa hwb
  rw [chgN]
  by_cases hab:a = b
  ·rw [if_pos hab];exact List.Pairwise.nil
  ·rw [if_neg hab,List.pairwise_append]
   have hp:=pair_fits hfa hfb
   have hpf:=pairs_find (Nat.le_refl _) (wfO_ents hwa) (wfO_ents hwb)
   have hps:=pairs_sorted (Nat.le_refl _) (wfO_ents hwa) (wfO_ents hwb)
   refine ⟨?_,?_,?_⟩
   ·by_cases hm:markT a b = 0
    ·rw [if_pos hm];exact List.Pairwise.nil
    ·rw [if_neg hm];simp
   ·have key:∀ q ∈ pairsT (entsO a) (entsO b),(chgN n q.2.1 q.2.2).Pairwise fun f g => lessS f.1 g.1 = true:=by
     intro q hq
     obtain ⟨f1,f2,f3⟩:=hp q hq
     obtain ⟨k1,k2,_⟩:=(hpf q).1 hq
     refine ih _ _ f2 f3 ?_ ?_
     ·rw [k1];exact wfO_find hwa _
     ·rw [k2];exact wfO_find hwb _
    generalize pairsT (entsO a) (entsO b) = ts at hps key
    clear hp hpf
    induction ts with
    | nil => exact List.Pairwise.nil
    | cons q ts iht =>
     rw [List.pairwise_cons] at hps
     rw [List.flatMap_cons,List.pairwise_append]
     refine ⟨?_,iht hps.2 (fun q' hq' => key q' (by simp [hq'])),?_⟩
     ·rw [List.pairwise_map]
      refine (key q (by simp)).imp ?_
      intro f g hfg
      simp only [lessS,if_true];exact hfg
     ·intro f hf g hg
      rw [List.mem_map] at hf
      obtain ⟨f',_,rfl⟩:=hf
      rw [List.mem_flatMap] at hg
      obtain ⟨q',hq',hg⟩:=hg
      rw [List.mem_map] at hg
      obtain ⟨g',_,rfl⟩:=hg
      have hl:=hps.1 q' hq'
      simp only [lessS];rw [if_neg (bl_ne hl)];exact hl
   ·intro f hf g hg
    by_cases hm:markT a b = 0
    ·rw [if_pos hm] at hf;simp at hf
    ·rw [if_neg hm,List.mem_singleton] at hf
     subst hf
     rw [List.mem_flatMap] at hg
     obtain ⟨q',_,hg⟩:=hg
     rw [List.mem_map] at hg
     obtain ⟨g',_,rfl⟩:=hg
     rfl

open Go.RowKit
def stepA (B:Ents) (both:List NF) (f:NF):List NF:=match fileAt (.dir B) f.1 with
 | none => insN both (f.1,[45])
 | some e => if e = f.2 then both else insN both (f.1,[126])
def stepB (A:Ents) (both:List NF) (f:NF):List NF:=match fileAt (.dir A) f.1 with
 | none => insN both (f.1,[43])
 | some _ => both
theorem get_file {es:Ents} {q:List Str} (h:WFE es) (hq:OkN q):getI (toF (filesE es)) (joinP q) < 0 ↔ fileAt (.dir es) q = none:=by
 rw [get_names (valid_files h).1 hq]
 constructor
 ·intro hn
  cases hf:fileAt (.dir es) q with
  | none => rfl
  | some d => exact absurd rfl (hn _ ((mem_root h q d).2 hf))
 ·intro hn f hf e
  have:=(mem_root h f.1 f.2).1 hf
  rw [e,hn] at this;cases this
theorem sub_of_file {t:Tree} {q:List Str} {d:Str} (h:fileAt t q = some d):sub t q = some (.file d):=by
 unfold fileAt at h
 split at h
 ·rename_i e he;rw [he];simp at h;rw [h]
 ·cases h
structure Good (l:List NF):Prop where
 sorted:SortedN l
 valid:ValidN l
theorem Good.ins {l:List NF} (h:Good l) {f:NF} (hf:OkN f.1):Good (insN l f):=⟨insN_sorted h.sorted f,insN_valid h.sorted h.valid hf⟩
theorem diffA_names {B:Ents} (hB:WFE B) {both:List NF} (hg:Good both) {f:NF} (hf:OkN f.1):diffA (toF (filesE B)) (toF both) (joinP f.1,f.2) = toF (stepA B both f)∧Good (stepA B both f):=by
 unfold diffA stepA
 simp only
 cases h:fileAt (.dir B) f.1 with
 | none =>
  rw [if_pos ((get_file hB hf).2 h)]
  exact ⟨put_names (f:=(f.1,[45])) hg.valid hf hg.sorted,hg.ins hf⟩
 | some e =>
  rw [if_neg (fun hc => by rw [(get_file hB hf).1 hc] at h;cases h),data_at hB hf (sub_of_file h)]
  simp only
  by_cases he:e = f.2
  ·rw [if_pos he,if_pos he];exact ⟨rfl,hg⟩
  ·rw [if_neg he,if_neg he];exact ⟨put_names (f:=(f.1,[126])) hg.valid hf hg.sorted,hg.ins hf⟩
theorem diffB_names {A:Ents} (hA:WFE A) {both:List NF} (hg:Good both) {f:NF} (hf:OkN f.1):diffB (toF (filesE A)) (toF both) (joinP f.1,f.2) = toF (stepB A both f)∧Good (stepB A both f):=by
 unfold diffB stepB
 simp only
 cases h:fileAt (.dir A) f.1 with
 | none =>
  rw [if_pos ((get_file hA hf).2 h)]
  exact ⟨put_names (f:=(f.1,[43])) hg.valid hf hg.sorted,hg.ins hf⟩
 | some e =>
  rw [if_neg (fun hc => by rw [(get_file hA hf).1 hc] at h;cases h)]
  exact ⟨rfl,hg⟩
theorem foldA_names {B:Ents} (hB:WFE B):∀ (l both:List NF),ValidN l→Good both→(toF l).foldl (diffA (toF (filesE B))) (toF both) = toF (l.foldl (stepA B) both)∧Good (l.foldl (stepA B) both)
 | [],both,_,hg => ⟨rfl,hg⟩
 | f :: l,both,hl,hg => by
  obtain ⟨h1,h2⟩:=diffA_names hB hg (hl f (by simp))
  have:=foldA_names hB l _ (fun g hg' => hl g (by simp [hg'])) h2
  simp only [toF,List.map_cons,List.foldl_cons] at h1 this ⊢
  rw [h1];exact this
theorem foldB_names {A:Ents} (hA:WFE A):∀ (l both:List NF),ValidN l→Good both→(toF l).foldl (diffB (toF (filesE A))) (toF both) = toF (l.foldl (stepB A) both)∧Good (l.foldl (stepB A) both)
 | [],both,_,hg => ⟨rfl,hg⟩
 | f :: l,both,hl,hg => by
  obtain ⟨h1,h2⟩:=diffB_names hA hg (hl f (by simp))
  have:=foldB_names hA l _ (fun g hg' => hl g (by simp [hg'])) h2
  simp only [toF,List.map_cons,List.foldl_cons] at h1 this ⊢
  rw [h1];exact this
theorem good_nil:Good []:=⟨by unfold SortedN;exact List.Pairwise.nil,fun f hf => by simp at hf⟩
theorem diff_names {A B:Ents} (hA:WFE A) (hB:WFE B):diffL (toF (filesE A)) (toF (filesE B)) = toF ((filesE B).foldl (stepB A) ((filesE A).foldl (stepA B) []))∧Good ((filesE B).foldl (stepB A) ((filesE A).foldl (stepA B) [])):=by
 obtain ⟨h1,h2⟩:=foldA_names hB (filesE A) [] (valid_files hA).1 good_nil
 obtain ⟨h3,h4⟩:=foldB_names hA (filesE B) _ (valid_files hB).1 h2
 unfold diffL
 have e:(toF (filesE A)).foldl (diffA (toF (filesE B))) [] = toF ((filesE A).foldl (stepA B) []):=h1
 rw [e]
 exact ⟨h3,h4⟩

open Go.RowKit
def stepC (c:NF→Option Str) (both:List NF) (f:NF):List NF:=match c f with
 | none => both
 | some k => insN both (f.1,k)
theorem fold_mem (c:NF→Option Str):∀ (l both:List NF),(l.map (·.1)).Nodup→SortedN both→(∀ f ∈ l,c f ≠ none→∀ x ∈ both,x.1 ≠ f.1)→∀ x,x ∈ l.foldl (stepC c) both ↔ (x ∈ both∨∃ f ∈ l,c f = some x.2∧x.1 = f.1)
 | [],both,_,_,_,x => by simp
 | f :: l,both,hn,hs,hd,x => by
  rw [List.map_cons,List.nodup_cons] at hn
  rw [List.foldl_cons]
  cases hc:c f with
  | none =>
   have e:stepC c both f = both:=by unfold stepC;rw [hc]
   rw [e,fold_mem c l both hn.2 hs (fun g hg => hd g (by simp [hg])) x]
   constructor
   ·rintro (h | ⟨g,hg,h⟩)
    ·exact .inl h
    ·exact .inr ⟨g,by simp [hg],h⟩
   ·rintro (h | ⟨g,hg,h⟩)
    ·exact .inl h
    ·simp only [List.mem_cons] at hg
     rcases hg with rfl | hg
     ·rw [hc] at h;cases h.1
     ·exact .inr ⟨g,hg,h⟩
  | some k =>
   have e:stepC c both f = insN both (f.1,k):=by unfold stepC;rw [hc]
   have hd1:=hd f (by simp) (by rw [hc];simp)
   have hm:∀ y,y ∈ insN both (f.1,k) ↔ y = (f.1,k)∨y ∈ both:=fun y => by
    rw [insN_mem hs]
    exact ⟨fun h => h.imp id (fun h => h.1),fun h => h.imp id (fun h => ⟨h,hd1 y h⟩)⟩
   rw [e,fold_mem c l _ hn.2 (insN_sorted hs _) ?_ x,hm]
   ·constructor
    ·rintro ((h | h) | ⟨g,hg,h⟩)
     ·exact .inr ⟨f,by simp,by rw [hc,h],by rw [h]⟩
     ·exact .inl h
     ·exact .inr ⟨g,by simp [hg],h⟩
    ·rintro (h | ⟨g,hg,h⟩)
     ·exact .inl (.inr h)
     ·simp only [List.mem_cons] at hg
      rcases hg with rfl | hg
      ·rw [hc] at h
       exact .inl (.inl (Prod.ext h.2 (Option.some.inj h.1).symm))
      ·exact .inr ⟨g,hg,h⟩
   ·intro g hg hcg y hy
    rcases (hm y).1 hy with rfl | hy
    ·intro e2
     exact hn.1 (List.mem_map.2 ⟨g,hg,e2.symm⟩)
    ·exact hd g (by simp [hg]) hcg y hy
def cA (B:Ents) (f:NF):Option Str:=match fileAt (.dir B) f.1 with
 | none => some [45]
 | some e => if e = f.2 then none else some [126]
def cB (A:Ents) (f:NF):Option Str:=match fileAt (.dir A) f.1 with
 | none => some [43]
 | some _ => none
theorem stepA_eq (B:Ents):stepA B = stepC (cA B):=by
 funext both f
 unfold stepA stepC cA
 cases fileAt (.dir B) f.1 with
 | none => rfl
 | some e => simp only;split <;> rfl
theorem stepB_eq (A:Ents):stepB A = stepC (cB A):=by
 funext both f
 unfold stepB stepC cB
 cases fileAt (.dir A) f.1 <;> rfl
theorem diff_mem {A B:Ents} (hA:WFE A) (hB:WFE B):∀ x,x ∈ (filesE B).foldl (stepB A) ((filesE A).foldl (stepA B) []) ↔ ((∃ d,fileAt (.dir A) x.1 = some d∧cA B (x.1,d) = some x.2)∨(∃ d,fileAt (.dir B) x.1 = some d∧cB A (x.1,d) = some x.2)):=by
 intro x
 rw [stepA_eq,stepB_eq]
 have nA:=sorted_nodup (sorted_filesE A hA)
 have nB:=sorted_nodup (sorted_filesE B hB)
 have m1:=fold_mem (cA B) (filesE A) [] nA (by unfold SortedN;exact List.Pairwise.nil) (fun _ _ _ y hy => by simp at hy)
 have s1:SortedN ((filesE A).foldl (stepC (cA B)) []):=by
  rw [← stepA_eq];exact (foldA_names hB (filesE A) [] (valid_files hA).1 good_nil).2.sorted
 rw [fold_mem (cB A) (filesE B) _ nB s1 ?_ x,m1]
 ·constructor
  ·rintro ((h | ⟨f,hf,h1,h2⟩) | ⟨f,hf,h1,h2⟩)
   ·simp at h
   ·exact .inl ⟨f.2,by rw [h2];exact (mem_root hA _ _).1 hf,by rw [h2];exact h1⟩
   ·exact .inr ⟨f.2,by rw [h2];exact (mem_root hB _ _).1 hf,by rw [h2];exact h1⟩
  ·rintro (⟨d,h1,h2⟩ | ⟨d,h1,h2⟩)
   ·exact .inl (.inr ⟨(x.1,d),(mem_root hA _ _).2 h1,h2,rfl⟩)
   ·exact .inr ⟨(x.1,d),(mem_root hB _ _).2 h1,h2,rfl⟩
 ·intro f hf hc y hy e
  rcases (m1 y).1 hy with h | ⟨g,hg,_,h2⟩
  ·simp at h
  ·have h3:=(mem_root hA _ _).1 hg
   rw [← h2,e] at h3
   unfold cB at hc
   rw [h3] at hc
   exact hc rfl
theorem one_mark {c:Nat} (hc:c ≠ 0) (k:Str):(∃ m,(m = c∧m ≠ 0)∧k = [UInt8.ofNat m]) ↔ k = [UInt8.ofNat c] :=
 ⟨by rintro ⟨m,⟨rfl,_⟩,e⟩;exact e,fun e => ⟨c,⟨rfl,hc⟩,e⟩⟩
theorem diff_chg {A B:Ents} (hA:WFE A) (hB:WFE B) (h5:heightE A ≤ 5) (h5' : heightE B ≤ 5):diffL (toF (filesE A)) (toF (filesE B)) = toF ((chgN 6 (some (.dir A)) (some (.dir B))).map fun f => (f.1,[UInt8.ofNat f.2])):=by
 obtain ⟨h1,h2⟩:=diff_names hA hB
 rw [h1]
 congr 1
 have fa:=fits_root hA h5
 have fb:=fits_root hB h5'
 refine sorted_unique h2.sorted ?_ ?_
 ·unfold SortedN
  rw [List.pairwise_map]
  exact chg_sorted 6 _ _ fa fb hA hB
 ·rintro ⟨p,k⟩
  rw [diff_mem hA hB]
  have hm:=fun m => chg_mem 6 (some (.dir A)) (some (.dir B)) fa fb hA hB p m
  have e1:fileAtO (some (.dir A)) p = fileAt (.dir A) p:=rfl
  have e2:fileAtO (some (.dir B)) p = fileAt (.dir B) p:=rfl
  rw [e1,e2] at hm
  have hr:(p,k) ∈ ((chgN 6 (some (.dir A)) (some (.dir B))).map fun f => (f.1,[UInt8.ofNat f.2])) ↔ ∃ m,(p,m) ∈ chgN 6 (some (.dir A)) (some (.dir B))∧k = [UInt8.ofNat m]:=by
   rw [List.mem_map]
   constructor
   ·rintro ⟨f,hf,e⟩
    simp only [Prod.mk.injEq] at e
    exact ⟨f.2,by rw [← e.1];exact hf,e.2.symm⟩
   ·rintro ⟨m,hf,e⟩
    exact ⟨_,hf,by rw [e]⟩
  rw [hr]
  simp only [hm]
  simp only [cA,cB]
  cases fileAt (.dir A) p with
  | none =>
   cases fileAt (.dir B) p with
   | none => simp [markF]
   | some e =>
    rw [show markF none (some e) = 43 from rfl,one_mark (by decide)]
    constructor
    ·rintro (⟨d,h,_⟩ | ⟨d,_,h⟩)
     ·cases h
     ·exact (Option.some.inj h).symm
    ·rintro rfl;exact .inr ⟨e,rfl,rfl⟩
  | some d =>
   cases fileAt (.dir B) p with
   | none =>
    rw [show markF (some d) none = 45 from rfl,one_mark (by decide)]
    constructor
    ·rintro (⟨d',_,h⟩ | ⟨d',h,_⟩)
     ·exact (Option.some.inj h).symm
     ·cases h
    ·rintro rfl;exact .inl ⟨d,rfl,rfl⟩
   | some e =>
    by_cases he:d = e
    ·subst he;simp [markF]
    ·have he' : ¬ e = d:=fun h => he h.symm
     rw [show markF (some d) (some e) = 126 from if_neg he,one_mark (by decide)]
     constructor
     ·rintro (⟨d',h1,h⟩ | ⟨d',_,h⟩)
      ·obtain rfl:=Option.some.inj h1
       simp only [if_neg he'] at h
       exact (Option.some.inj h).symm
      ·cases h
     ·rintro rfl;exact .inl ⟨d,rfl,by simp only [if_neg he'];rfl⟩

open Go.RowKit
theorem append_block_string {P:Program} (w:World) (t u ty e:TypeId) (i:TypeInfo) (ht:P.underlying t = some (.slice e)) (hu:P.underlying u = some .string) (hi:P.info? e = some i) (hz:i.zero = some (.int .u8 0))
  (hsize:i.size = 1) (hby:i.bytes = 1) (base:Nat) (v:Value) (n:Nat) (xs:List Value) (hown:w.ownsRow base e 1 v n xs) (s:ByteArray)
  (h63:n + s.size ≤ maxLen) (hbytes:n + s.size ≤ 140737488355328) {v' : Value} {w' : World}
  (hr:(Builtin.append_ #[t,u] ty #[v,.string s]).run P w = .ok v' w'):∀ k,v'.ownBlock = some k→v.ownBlock = some k∨w.heap.size ≤ k:=by
 intro k hk
 have hxl:xs.length = n:=by simpa using hown.1
 have hm:n + s.size ≤ 9223372036854775807:=by simp only [maxLen] at h63;omega
 rcases hown.2 with ⟨rfl,rfl⟩ | ⟨g,cap,cur,rfl,hbg,hg,hnc,hcm,hcs,htake⟩
 ·obtain ⟨v2,w2,hr2,ho,_⟩:=Lib.run_append_own_string (P:=P) w w.heap.size t u ty e i ht hu hi hz hsize hby (.slice none 0 0) 0 [] (World.ownsRow_nil w _ e 1) s h63 hbytes (Nat.le_refl _)
  rw [hr] at hr2
  injection hr2 with h1 h2
  subst h1
  exact .inr (ho.lt k hk).1
 ·by_cases hroom:n + s.size ≤ cap
  ·have hr2:=Lib.run_append_room_string (P:=P) w t u ty e i ht hu hi hsize g n cap cur hg s hroom (by omega)
   rw [hr] at hr2
   injection hr2 with h1 h2
   subst h1
   exact .inl hk
  ·have holds:∀ j u,xs[j]? = some u→w.cell? ((⟨g,0,none⟩ : Addr).add j) = some u:=hown.cells (g:=g) rfl
   have hr2:=Lib.run_append_grow_string (P:=P) w t u ty e i (.int .u8 0) ht hu hi hz ⟨g,0,none⟩ n cap xs (by rw [hsize];simpa using hxl) holds s (by omega) (by omega) (by rw [hby];exact growslice_fits (by omega) (by omega))
   rw [hr] at hr2
   injection hr2 with h1 h2
   subst h1
   simp [Value.ownBlock] at hk
   exact .inr (by omega)
theorem append_block {P:Program} (w:World) (t ty e:TypeId) (i:TypeInfo) (z:Value) (ht:P.underlying t = some (.slice e)) (hi:P.info? e = some i) (hz:i.zero = some z)
  (hsize:i.size = 1) (hby:i.bytes = 1) (hzs:z.cells.size = 1) (base:Nat) (v:Value) (n:Nat) (xs:List Value) (hown:w.ownsRow base e 1 v n xs)
  (a:Addr) (m c:Nat) (news:List Value) (hl:news.length = m) (hnews:∀ j u,news[j]? = some u→w.cell? (a.add j) = some u) (h1:∀ u ∈ news,u.oneCell' = true)
  (h63:n + m ≤ maxLen) (hbytes:n + m ≤ 140737488355328) {v' : Value} {w' : World}
  (hr:(Builtin.append_ #[t,t] ty #[v,.slice (some a) m c]).run P w = .ok v' w'):∀ k,v'.ownBlock = some k→v.ownBlock = some k∨w.heap.size ≤ k:=by
 intro k hk
 have hxl:xs.length = n:=by simpa using hown.1
 have hm:n + m ≤ 9223372036854775807:=by simp only [maxLen] at h63;omega
 rcases hown.2 with ⟨rfl,rfl⟩ | ⟨g,cap,cur,rfl,hbg,hg,hnc,hcm,hcs,htake⟩
 ·obtain ⟨v2,w2,hr2,ho,_⟩:=run_append_own (P:=P) w w.heap.size t ty e i z 1 1 ht hi hz hsize hby hzs (by omega) (.slice none 0 0) 0 [] (World.ownsRow_nil w _ e 1) a m c news (by omega) hnews h1 h63 (by omega) (Nat.le_refl _)
  rw [hr] at hr2
  injection hr2 with h1 h2
  subst h1
  exact .inr (ho.lt k hk).1
 ·by_cases hroom:n + m ≤ cap
  ·have hr2:=run_append_room (P:=P) w t ty e i ht hi g n cap cur hg a m c news (by rw [hsize];omega) hnews h1 hroom (by rw [hsize];omega)
   rw [hr] at hr2
   injection hr2 with h1 h2
   subst h1
   exact .inl hk
  ·have holds:∀ j u,xs[j]? = some u→w.cell? ((⟨g,0,none⟩ : Addr).add j) = some u:=hown.cells (g:=g) rfl
   have hr2:=run_append_grow (P:=P) w t ty e i z ht hi hz ⟨g,0,none⟩ n cap xs (by rw [hsize];omega) holds a m c news (by rw [hsize];omega) hnews (by omega) (by omega) (by rw [hby];exact growslice_fits (by omega) (by omega))
   rw [hr] at hr2
   injection hr2 with h1 h2
   subst h1
   simp [Value.ownBlock] at hk
   exact .inr (by omega)
theorem wpList_append_bytes {P:Program} {w:World} {ops:Array Oper} {rest:List Oper} {o:Oper} {a:Act} {Q:Exit→Act→World→Prop} (hgd:o.guard = none) (sl x:Operand) (t u:TypeId)
  (ho:o.op = .call { callee:=.builtin .append,args:=#[sl,x],argTypes:=#[t,u] })
  (base:Nat) (e:TypeId) (i:TypeInfo) (ht:P.underlying t = some (.slice e)) (hu:P.underlying u = some .string) (hi:P.info? e = some i) (hz:i.zero = some (.int .u8 0))
  (hsize:i.size = 1) (hby:i.bytes = 1)
  (v:Value) (n:Nat) (xs:List Value) (hs:a.eval sl = v) (hown:w.ownsRow base e 1 v n xs) (s:ByteArray) (hx:a.eval x = .string s)
  (h63:n + s.size ≤ maxLen) (hbytes:n + s.size ≤ 140737488355328) (hbase:base ≤ w.heap.size)
  (h:∀ v' w',w'.ownsRow base e 1 v' (n + s.size) (xs ++ Lib.strCells s)→w.grownBy w' v.ownBlock→(v' = .slice none 0 0 ↔ v = .slice none 0 0∧s.size = 0)→(∀ k,v'.ownBlock = some k→v.ownBlock = some k∨w.heap.size ≤ k)→wpList P ops Q rest (a.put o.dst v') w'):wpList P ops Q (o :: rest) a w:=by
 refine wpList_plain hgd fun K hK => ?_
 obtain ⟨v',w',hr,h2,h3,h4⟩:=Lib.run_append_own_string (P:=P) w base t u o.type e i ht hu hi hz hsize hby v n xs hown s h63 hbytes hbase
 have h5:=append_block_string w t u o.type e i ht hu hi hz hsize hby base v n xs hown s h63 hbytes hr
 unfold Oper.wp execOp
 simp only [ho,resolve,invoke,builtin,Sem.run_bind,Sem.run_pure,Result.andThen_ok,List.map_toArray,List.map_cons,List.map_nil,hs,hx,hr]
 exact hK _ _ (h v' w' h2 h3 h4 h5)
theorem wpList_append_one {P:Program} {w:World} {ops:Array Oper} {rest:List Oper} {o:Oper} {a:Act} {Q:Exit→Act→World→Prop} (hgd:o.guard = none) (s x:Operand) (t:TypeId)
  (ho:o.op = .call { callee:=.builtin .append,args:=#[s,x],argTypes:=#[t,t] })
  (base:Nat) (e:TypeId) (i:TypeInfo) (z:Value) (ht:P.underlying t = some (.slice e)) (hi:P.info? e = some i) (hz:i.zero = some z)
  (hsize:i.size = 1) (hby:i.bytes = 1) (hzs:z.cells.size = 1)
  (v:Value) (n:Nat) (xs:List Value) (hs:a.eval s = v) (hown:w.ownsRow base e 1 v n xs)
  (ad:Addr) (m c:Nat) (news:List Value) (hx:a.eval x = .slice (some ad) m c) (hl:news.length = m) (hnews:∀ j u,news[j]? = some u→w.cell? (ad.add j) = some u) (h1:∀ u ∈ news,u.oneCell' = true)
  (h63:n + m ≤ maxLen) (hbytes:n + m ≤ 140737488355328) (hbase:base ≤ w.heap.size)
  (h:∀ v' w',w'.ownsRow base e 1 v' (n + m) (xs ++ news)→w.grownBy w' v.ownBlock→(v' = .slice none 0 0 ↔ v = .slice none 0 0∧m = 0)→(∀ k,v'.ownBlock = some k→v.ownBlock = some k∨w.heap.size ≤ k)→wpList P ops Q rest (a.put o.dst v') w'):wpList P ops Q (o :: rest) a w:=by
 refine wpList_plain hgd fun K hK => ?_
 obtain ⟨v',w',hr,h2,h3,h4⟩:=run_append_own (P:=P) w base t o.type e i z 1 1 ht hi hz hsize hby hzs (by omega) v n xs hown ad m c news (by omega) hnews h1 h63 (by omega) hbase
 have h5:=append_block w t o.type e i z ht hi hz hsize hby hzs base v n xs hown ad m c news hl hnews h1 h63 hbytes hr
 unfold Oper.wp execOp
 simp only [ho,resolve,invoke,builtin,Sem.run_bind,Sem.run_pure,Result.andThen_ok,List.map_toArray,List.map_cons,List.map_nil,hs,hx,hr]
 exact hK _ _ (h v' w' h2 h3 h4 h5)

open Go.RowKit
theorem Tryz.sizeBuilder:(Tryz.prog.info? 94).map (·.size) = some 2:=by kernel_rfl
theorem Tryz.liesBuilder:liesAt Tryz.prog Tryz.prog.depth 94 (2 / Tryz.prog.cellsOf 94) 0 94 1 = true:=by kernel_rfl
theorem Tryz.infoByte:(Tryz.prog.info? 5).map (fun i => (i.zero,i.size,i.bytes)) = some (some (.int .u8 0),1,1):=by kernel_rfl
theorem Tryz.cellsByte:Tryz.prog.cellsOf 5 = 1:=by kernel_rfl
def Bld (b:Nat) (l:Str) (O:Nat→Prop) (w:World):Prop :=
 ∃ p v,w.heap[b]? = some (.cells #[p,v] 94 (0,0))∧(p = .pointer none∨p = .pointer (some ⟨b,0,none⟩))∧w.ownsRow b 5 1 v l.length (Lib.byteCells l)∧(l = []→v = .slice none 0 0)∧O = (fun k => k = b∨v.ownBlock = some k)
theorem Bld.lt {b:Nat} {l:Str} {O:Nat→Prop} {w:World} (h:Bld b l O w):∀ k,O k→b ≤ k∧k < w.heap.size:=by
 obtain ⟨p,v,hb,_,hown,_,rfl⟩:=h
 rintro k (rfl | hk)
 ·exact ⟨Nat.le_refl _,(Array.getElem?_eq_some_iff.1 hb).1⟩
 ·exact hown.lt k hk
theorem Bld.keep {b:Nat} {l:Str} {O:Nat→Prop} {w w' : World} (h:Bld b l O w) (hk:∀ k,O k→w'.heap[k]? = w.heap[k]?):Bld b l O w':=by
 obtain ⟨p,v,hb,hp,hown,h0,rfl⟩:=h
 refine ⟨p,v,(hk b (.inl rfl)).trans hb,hp,⟨hown.1,?_⟩,h0,rfl⟩
 rcases hown.2 with hn | ⟨g,cap,cur,hv,hbg,hg,rest⟩
 ·exact .inl hn
 ·exact .inr ⟨g,cap,cur,hv,hbg,(hk g (.inr (by rw [hv];rfl))).trans hg,rest⟩
theorem Bld.local (B b:Nat) (l:Str) (hB:B ≤ b):Local B fun O w => Bld b l O w :=
 ⟨fun O W W' h _ _ _ _ hk => h.keep fun k ho => hk k (.inl ho),fun O W h => ⟨by have:=h.lt b (by obtain ⟨p,v,_,_,_,_,rfl⟩:=h;exact .inl rfl);omega,fun k hk => (h.lt k hk).2⟩⟩
theorem Bld.new {b:Nat} {w:World} (hb:w.heap[b]? = some (.cells #[.pointer none,.slice none 0 0] 94 (0,0))):Bld b [] (fun k => k = b) w :=
 ⟨_,_,hb,.inl rfl,World.ownsRow_nil w b 5 1,fun _ => rfl,by simp [Value.ownBlock]⟩
set_option maxHeartbeats 1000000 in
set_option maxRecDepth 100000 in
theorem copyCheck_any (b:Nat) (p v:Value) (w:World) (hb:w.heap[b]? = some (.cells #[p,v] 94 (0,0))) (hp:p = .pointer none∨p = .pointer (some ⟨b,0,none⟩)) :
  Calls Tryz.prog 76 #[.pointer (some ⟨b,0,none⟩)] w fun e w' => e = .returned (.tuple #[])∧((p = .pointer none∧w' = w.setCell ⟨b,0,none⟩ (.pointer (some ⟨b,0,none⟩)))∨(p = .pointer (some ⟨b,0,none⟩)∧w' = w)):=by
 obtain ⟨j,hj,hjs⟩:=Option.map_eq_some_iff.1 Tryz.sizeBuilder
 have hc:w.cell? ⟨b,0,none⟩ = some p:=by rw [Lib.cell_of_heap hb];rfl
 rcases hp with rfl | rfl
 ·have hsh:w.shape? b = some (94,2):=by simp [World.shape?,hb]
  have hfz:w.frozen? ⟨b,0,none⟩ = false:=Lib.frozen_of_heap hb 0
  clear hb
  go_enter Tryz.func76,Tryz.ntmps76
  go_wp2
  rw [Lib.run_to_unsafe w ⟨b,0,none⟩ (by kernel_rfl) (by kernel_rfl) hj (by rw [hjs];decide) hsh (Nat.zero_lt_succ 1)]
  simp only [Result.andThen]
  rw [Oper.upon_value]
  go_wp2
  rw [run_callFunc_extern Tryz.func109 (by kernel_rfl) (by kernel_rfl) (by kernel_rfl) (e:=Extern.AbiNoEscape.same) (by kernel_rfl)]
  rw [Lib.run_noEscape]
  simp only [Result.andThen]
  rw [Oper.upon_value]
  go_wp2
  rw [Lib.run_from_unsafe w ⟨b,0,none⟩ (by kernel_rfl) (by kernel_rfl) hj hsh Tryz.liesBuilder]
  simp only [Result.andThen]
  rw [Oper.upon_value]
  go_wp2
  go_end0
  exact ⟨rfl,.inl ⟨trivial,rfl⟩⟩
 ·clear hb
  go_enter Tryz.func76,Tryz.ntmps76
  go_wp2
  rw [Lib.run_neq_ptr_same w _ (by kernel_rfl) hj]
  go_wp2
  go_end0
  exact ⟨rfl,.inr ⟨trivial,rfl⟩⟩
theorem Bld.checked {b:Nat} {l:Str} {O:Nat→Prop} {w:World} (h:Bld b l O w) :
  Calls Tryz.prog 76 #[.pointer (some ⟨b,0,none⟩)] w fun e w' => e = .returned (.tuple #[])∧Turn O w w' O ∧
   ∃ v,w'.heap[b]? = some (.cells #[.pointer (some ⟨b,0,none⟩),v] 94 (0,0))∧w'.ownsRow b 5 1 v l.length (Lib.byteCells l)∧(l = []→v = .slice none 0 0)∧O = (fun k => k = b∨v.ownBlock = some k):=by
 obtain ⟨p,v,hb,hp,hown,h0,rfl⟩:=h
 refine (copyCheck_any b p v w hb hp).mono ?_
 rintro e w' ⟨rfl,⟨rfl,rfl⟩ | ⟨rfl,rfl⟩⟩
 ·refine ⟨rfl,?_⟩
  have hne:=Lib.ownBlock_ne hown hb (by decide)
  refine ⟨⟨rfl,rfl,rfl,by simp [World.setCell],fun k hk hn => Below.heap_setCell _ _ _ _ (fun e => hn (.inl e)),fun k hk => .inl hk⟩,v,?_,?_,h0,rfl⟩
  ·simp [World.setCell,Array.getElem?_modify,hb]
  ·refine hown.kept (row:=some b) ⟨rfl,rfl,rfl,by simp [World.setCell],fun k _ hk => Below.heap_setCell _ _ _ _ (fun e => hk (by simp [e]))⟩ (Or.inr hne)
 ·refine ⟨rfl,?_⟩
  exact ⟨Turn.refl _ _,v,hb,hown,h0,rfl⟩
theorem Bld.put {b:Nat} {l' : Str} {v v' : Value} {A w:World} {O:Nat→Prop} (hO:O = (fun k => k = b∨v.ownBlock = some k)) (hA:b < A.heap.size)
  (hb:w.heap[b]? = some (.cells #[.pointer (some ⟨b,0,none⟩),v] 94 (0,0))) (hown:w.ownsRow b 5 1 v' l'.length (Lib.byteCells l')) (h0:l' = []→v' = .slice none 0 0)
  (hg:∀ k,k < A.heap.size→k ≠ b→v.ownBlock ≠ some k→w.heap[k]? = A.heap[k]?) (hsz:A.heap.size ≤ w.heap.size) (h1:w.os = A.os) (h2:w.tape = A.tape) (h3:w.output = A.output)
  (hk:∀ k,v'.ownBlock = some k→v.ownBlock = some k∨A.heap.size ≤ k):∃ O',Bld b l' O' (w.setCell ⟨b,1,none⟩ v')∧Turn O A (w.setCell ⟨b,1,none⟩ v') O':=by
 subst hO
 have hne:=Lib.ownBlock_ne hown hb (by decide)
 refine ⟨fun k => k = b∨v'.ownBlock = some k,⟨.pointer (some ⟨b,0,none⟩),v',?_,.inr rfl,?_,h0,rfl⟩,h1,h2,h3,by simpa [World.setCell] using hsz,?_,?_⟩
 ·simp [World.setCell,Array.getElem?_modify,hb]
 ·exact hown.kept (row:=some b) ⟨rfl,rfl,rfl,by simp [World.setCell],fun k _ hk => Below.heap_setCell _ _ _ _ (fun e => hk (by simp [e]))⟩ (Or.inr hne)
 ·intro k hk hn
  rw [Below.heap_setCell _ _ _ _ (fun e => hn (.inl e))]
  exact hg k hk (fun e => hn (.inl e)) (fun e => hn (.inr e))
 ·rintro k (rfl | h)
  ·exact .inl (.inl rfl)
  ·exact (hk k h).imp .inr id
set_option maxHeartbeats 2000000 in
set_option maxRecDepth 100000 in
theorem writeByte_any (b:Nat) (l:Str) (c:UInt8) (O:Nat→Prop) (w:World) (h:Bld b l O w) (hlen:l.length + 1 ≤ 140737488355328) :
  Calls Tryz.prog 47 #[.pointer (some ⟨b,0,none⟩),.int .u8 c.toNat] w fun e w' => e = .returned .nilIface∧∃ O',Bld b (l ++ [c]) O' w'∧Turn O w w' O':=by
 obtain ⟨i0,hi,hz0,hz1,hz2⟩:=info_parts Tryz.infoByte
 have C:=h.checked
 clear h
 go_enter Tryz.func47,Tryz.ntmps47
 go_wp2_with (go_at_call 76;refine C.mono ?_)
 rintro e w1 ⟨rfl,ht1,v,hbk,hown,h0,hO⟩
 have c0:w1.cell? ⟨b,0,none⟩ = some (.pointer (some ⟨b,0,none⟩)):=by rw [Lib.cell_of_heap hbk];rfl
 have c1:w1.cell? ⟨b,1,none⟩ = some v:=by rw [Lib.cell_of_heap hbk];rfl
 have hlt:b < w1.heap.size:=(Array.getElem?_eq_some_iff.1 hbk).1
 have hne:=Lib.ownBlock_ne hown hbk (by decide)
 go_wp2_with (at_builtin;refine wpList_append_one rfl _ _ 92 rfl b 5 i0 (.int .u8 0) (by kernel_rfl) hi hz0 hz1 hz2 rfl _ _ _ rfl (hown.alloc _) ⟨w1.heap.size,0,none⟩ 1 1 [.int .u8 c.toNat] rfl rfl ?c1 ?c2 ?c3 ?c4 ?c5 ?_)
 case c1 =>
  intro j u hj
  match j,hj with
  | 0,hj => simp at hj;subst hj;simp [Addr.add]
 case c2 => intro u hu;simp at hu;subst hu;rfl
 case c3 => unfold maxLen;omega
 case c4 => omega
 case c5 => simp;omega
 intro v' w2 hown' hgrow hnil hblk
 have hb2:w2.heap[b]? = some (.cells #[.pointer (some ⟨b,0,none⟩),v] 94 (0,0)):=by
  rw [hgrow.block b (by simp;omega) (fun e => hne e.symm),Lib.alloc_old w1 _ b hlt]
  exact hbk
 have d0:w2.cell? ⟨b,0,none⟩ = some (.pointer (some ⟨b,0,none⟩)):=by rw [Lib.cell_of_heap hb2];rfl
 have d1:w2.cell? ⟨b,1,none⟩ = some v:=by rw [Lib.cell_of_heap hb2];rfl
 have f1:w2.frozen? ⟨b,1,none⟩ = false:=Lib.frozen_of_heap hb2 1
 have HP:Hid (∃ O',Bld b (l ++ [c]) O' (w2.setCell ⟨b,1,none⟩ v')∧Turn O w (w2.setCell ⟨b,1,none⟩ v') O'):=by
  obtain ⟨O',hB,hT⟩:=Bld.put (l':=l ++ [c]) (v':=v') (A:=w1) hO hlt hb2 (by simpa [Lib.byteCells] using hown') (by simp)
   (fun k hk hkb hkv => (hgrow.block k (by simp;omega) (fun e => hkv e.symm)).trans (Lib.alloc_old w1 _ k hk)) (by have:=hgrow.size;simp at this;omega) hgrow.os hgrow.tape hgrow.output
   (fun k hk => (hblk k hk).imp id (fun h => by first | omega | (simp at h;omega)))
  exact ⟨O',hB,ht1.trans hT⟩
 obtain ⟨g,cap,rfl⟩ : ∃ g cap,v' = .slice (some ⟨g,0,none⟩) (l.length + 1) cap:=by
  rcases hown'.2 with ⟨_,h0⟩ | ⟨g,cap,cur,hv,_⟩
  ·omega
  ·exact ⟨g,cap,hv⟩
 clear hnil hblk hgrow hown' hown hO hne hb2 hbk ht1
 go_wp2
 go_ret
 exact ⟨rfl,HP.out⟩
set_option maxHeartbeats 2000000 in
set_option maxRecDepth 100000 in
theorem writeString_any (b:Nat) (l s:Str) (O:Nat→Prop) (w:World) (h:Bld b l O w) (hlen:l.length + s.length ≤ 140737488355328) :
  Calls Tryz.prog 48 #[.pointer (some ⟨b,0,none⟩),.string ⟨s.toArray⟩] w fun e w' => e = .returned (.tuple #[.int .i64 s.length,.nilIface])∧∃ O',Bld b (l ++ s) O' w'∧Turn O w w' O':=by
 obtain ⟨i0,hi,hz0,hz1,hz2⟩:=info_parts Tryz.infoByte
 have C:=h.checked
 clear h
 have hss:(ByteArray.mk s.toArray).size = s.length:=by simp [ByteArray.size]
 go_enter Tryz.func48,Tryz.ntmps48
 go_wp2_with (go_at_call 76;refine C.mono ?_)
 rintro e w1 ⟨rfl,ht1,v,hbk,hown,h0,hO⟩
 have c0:w1.cell? ⟨b,0,none⟩ = some (.pointer (some ⟨b,0,none⟩)):=by rw [Lib.cell_of_heap hbk];rfl
 have c1:w1.cell? ⟨b,1,none⟩ = some v:=by rw [Lib.cell_of_heap hbk];rfl
 have hlt:b < w1.heap.size:=(Array.getElem?_eq_some_iff.1 hbk).1
 have hne:=Lib.ownBlock_ne hown hbk (by decide)
 go_wp2_with (at_builtin;refine wpList_append_bytes rfl _ _ 92 9 rfl b 5 i0 (by kernel_rfl) (by kernel_rfl) hi hz0 hz1 hz2 _ _ _ rfl hown ⟨s.toArray⟩ rfl ?c3 ?c4 ?c5 ?_)
 case c3 => rw [hss];unfold maxLen;omega
 case c4 => rw [hss];omega
 case c5 => omega
 intro v' w2 hown' hgrow hnil hblk
 have hb2:w2.heap[b]? = some (.cells #[.pointer (some ⟨b,0,none⟩),v] 94 (0,0)):=by
  rw [hgrow.block b hlt (fun e => hne e.symm)]
  exact hbk
 have d0:w2.cell? ⟨b,0,none⟩ = some (.pointer (some ⟨b,0,none⟩)):=by rw [Lib.cell_of_heap hb2];rfl
 have d1:w2.cell? ⟨b,1,none⟩ = some v:=by rw [Lib.cell_of_heap hb2];rfl
 have f1:w2.frozen? ⟨b,1,none⟩ = false:=Lib.frozen_of_heap hb2 1
 have HP:Hid (∃ O',Bld b (l ++ s) O' (w2.setCell ⟨b,1,none⟩ v')∧Turn O w (w2.setCell ⟨b,1,none⟩ v') O'):=by
  obtain ⟨O',hB,hT⟩:=Bld.put (l':=l ++ s) (v':=v') (A:=w1) hO hlt hb2 (by simpa [Lib.byteCells,Lib.strCells] using hown')
   (fun h => by simp at h;exact hnil.2 ⟨h0 h.1,by simp [h.2]⟩)
   (fun k hk hkb hkv => hgrow.block k hk (fun e => hkv e.symm)) hgrow.size hgrow.os hgrow.tape hgrow.output hblk
  exact ⟨O',hB,ht1.trans hT⟩
 obtain ⟨ao,n',cap,rfl⟩ : ∃ ao n' cap,v' = .slice ao n' cap:=by
  rcases hown'.2 with ⟨hv,_⟩ | ⟨g,cap,cur,hv,_⟩
  ·exact ⟨_,_,_,hv⟩
  ·exact ⟨_,_,_,hv⟩
 clear hnil hblk hgrow hown' hown hO hne hb2 hbk ht1 h0
 go_wp2
 go_ret2
 exact ⟨rfl,HP.out⟩

open Go.RowKit
theorem freeze_other {w:World} {g k:Nat} (n:Nat) (h:k ≠ g):(w.freeze ⟨g,0,none⟩ n).heap[k]? = w.heap[k]?:=by
 unfold World.freeze
 split
 ·rfl
 ·simp only [Array.getElem?_modify]
  rw [if_neg (fun e => h e.symm)]
set_option maxHeartbeats 2000000 in
set_option maxRecDepth 100000 in
theorem string_any (b:Nat) (l:Str) (O:Nat→Prop) (w:World) (h:Bld b l O w) :
  Calls Tryz.prog 49 #[.pointer (some ⟨b,0,none⟩)] w fun e w' => e = .returned (.string ⟨l.toArray⟩)∧Below b w w'∧∀ k,¬ O k→w'.heap[k]? = w.heap[k]?:=by
 obtain ⟨p,v,hbk,_,hown,hnil,hO⟩:=h
 have HO:Hid _:=hO
 clear hO
 by_cases h0:l = []
 ·have hv:=hnil h0
  subst h0 hv
  have hUS:∀ (W:World) (q:Option Addr),(Builtin.unsafeString_ #[158,3] 9 #[.pointer q,.int .i64 0]).run Tryz.prog W = .ok (.string .empty) W:=fun W q => Lib.run_unsafeString_none W _ _ _ q
  have c1:w.drew.cell? ⟨b,1,none⟩ = some (.slice none 0 0):=by
   have:w.drew.heap[b]? = some (.cells #[p,.slice none 0 0] 94 (0,0)):=hbk
   rw [Lib.cell_of_heap this];rfl
  have hSD:(Builtin.unsafeSliceData_ #[92] 158 #[.slice none 0 0]).run Tryz.prog w.drew = .ok (.pointer none) w.drew:=rfl
  clear hbk hown hnil
  go_enter Tryz.func49,Tryz.ntmps49
  go_wp2
  go_region
  all_goals (go_wp2;go_ret;exact ⟨rfl,Below.drew (Below.refl b w),fun _ _ => rfl⟩)
 have hl0:l.length ≠ 0:=by simpa using h0
 obtain ⟨g,cap,cur,rfl,hbg,hg,hnc,hcm,hcs,htake⟩ : ∃ g cap cur,v = .slice (some ⟨g,0,none⟩) l.length cap∧b ≤ g∧w.heap[g]? = some (.cells cur 5 (0,0))∧l.length ≤ cap∧cap ≤ maxLen∧cur.size = cap * 1∧cur.toList.take (l.length * 1) = Lib.byteCells l:=by
  rcases hown.2 with ⟨_,hz⟩ | ⟨g,cap,cur,hv,r⟩
  ·exact absurd hz hl0
  ·exact ⟨g,cap,cur,hv,r⟩
 have c1:w.drew.cell? ⟨b,1,none⟩ = some (.slice (some ⟨g,0,none⟩) l.length cap):=by
  have:w.drew.heap[b]? = some (.cells #[p,.slice (some ⟨g,0,none⟩) l.length cap] 94 (0,0)):=hbk
  rw [Lib.cell_of_heap this];rfl
 have hSD:(Builtin.unsafeSliceData_ #[92] 158 #[.slice (some ⟨g,0,none⟩) l.length cap]).run Tryz.prog w.drew = .ok (.pointer (some ⟨g,0,none⟩)) w.drew :=
  Lib.run_unsafeSliceData_row _ _ _ _ _ _ (by omega)
 have hUS:(Builtin.unsafeString_ #[158,3] 9 #[.pointer (some ⟨g,0,none⟩),.int .i64 l.length]).run Tryz.prog w.drew = .ok (.string ⟨l.toArray⟩) (w.drew.freeze ⟨g,0,none⟩ l.length):=by
  refine Lib.run_unsafeString_row w.drew 158 3 9 5 (by kernel_rfl) Tryz.cellsByte g cur.size (by have hg' : w.drew.heap[g]? = some (.cells cur 5 (0,0)):=hg;simp [World.shape?,hg']) l h0 (by omega) (by unfold maxLen at hcm;omega) ?_
  intro j x hx
  have:=hown.cells (g:=g) rfl j (.int .u8 x.toNat) (by simp [Lib.byteCells,hx])
  exact this
 clear hbk hown hnil htake hcs
 go_enter Tryz.func49,Tryz.ntmps49
 go_wp2
 go_region
 all_goals (go_wp2;go_ret;exact ⟨rfl,Lib.below_freeze (Below.drew (Below.refl b w)) (p:=⟨g,0,none⟩) hbg _,fun k hk => freeze_other _ (fun e => hk (by rw [HO.out];exact .inr (by rw [e];rfl)))⟩)
end Go.Proofs.YtdcbgfhkfmohiaaGreatDoor

namespace Go.Proofs.YtdcbgfhkfmohiaaGreatDoor
open Go.RowKit Go.Shelf
attribute [local go_sem] Oper.semAt_some
theorem diffR_none1 {r:RSt} {n m:Int} (h:findL r.all n = none):diffR r n m = ([],2):=by unfold diffR;rw [h]
theorem diffR_none2 {r:RSt} {n m:Int} (h:findL r.all m = none):diffR r n m = ([],2):=by unfold diffR;rw [h];split <;> simp_all
theorem diffR_go {r:RSt} {n m:Int} {l k:List Fl} (h:findL r.all n = some l) (h' : findL r.all m = some k):diffR r n m = (diffT l k,0):=by unfold diffR;rw [h,h']
def lineM (x:Str × Nat):Str:=UInt8.ofNat x.2 :: x.1 ++ [10]
theorem diffT_lines {A B:Ents} (hA:WFE A) (hB:WFE B) (h5:heightE A ≤ 5) (h5' : heightE B ≤ 5):diffT (toF (filesE A)) (toF (filesE B)) = (chgS 6 [] (some (.dir A)) (some (.dir B))).flatMap lineM:=by
 have h1:=diff_chg hA hB h5 h5'
 have h2:=chg_names 6 [] (some (.dir A)) (some (.dir B)) (by simp) (fits_root hA h5) (fits_root hB h5')
 rw [show joinP ([]:List Str) = [] from rfl] at h2
 unfold diffT
 rw [h1,h2]
 unfold toF
 simp only [List.flatMap_map,List.map_map,Function.comp_def]
 congr 1
theorem diffL_len (l m:List Fl):(diffL l m).length ≤ l.length + m.length:=by
 have hA:∀ (l both:List Fl),(l.foldl (diffA m) both).length ≤ both.length + l.length:=by
  intro l
  induction l with
  | nil => intro both;simp
  | cons f l ih =>
   intro both
   rw [List.foldl_cons,List.length_cons]
   have h1:=ih (diffA m both f)
   have h2:(diffA m both f).length ≤ both.length + 1:=by
    unfold diffA
    split
    ·exact putL_len_le _ _
    ·split
     ·omega
     ·exact putL_len_le _ _
   omega
 have hB:∀ (k both:List Fl),(k.foldl (diffB l) both).length ≤ both.length + k.length:=by
  intro k
  induction k with
  | nil => intro both;simp
  | cons f k ih =>
   intro both
   rw [List.foldl_cons,List.length_cons]
   have h1:=ih (diffB l both f)
   have h2:(diffB l both f).length ≤ both.length + 1:=by
    unfold diffB
    split
    ·exact putL_len_le _ _
    ·omega
   omega
 unfold diffL
 have h1:=hB m (l.foldl (diffA m) [])
 have h2:=hA l []
 simp at h2
 omega
theorem chgS_len (n:Nat):∀ (path:Str) (a b:Option Tree),fitsT n a→fitsT n b→∀ x ∈ chgS n path a b,x.1.length ≤ path.length + 9 * n:=by
 induction n with
 | zero => intro path a b _ _ x hx;simp [chgS] at hx
 | succ n ih =>
  intro path a b hfa hfb x hx
  have root:∀ (c:Option Tree),fitsT (n + 1) c→∀ e ∈ entsO c,e.1.length ≤ 8:=by
   intro c hc e he
   cases c with
   | none => simp [entsO] at he
   | some u =>
    cases u with
    | file d => simp [entsO] at he
    | dir es => exact (hc e he).2.1
  rw [chgS] at hx
  split at hx
  ·simp at hx
  ·rw [List.mem_append] at hx
   rcases hx with hx | hx
   ·split at hx
    ·simp at hx
    ·simp at hx;subst hx;simp
   ·rw [List.mem_flatMap] at hx
    obtain ⟨p,hp,hx⟩:=hx
    obtain ⟨h1,h2,h3⟩:=pair_fits hfa hfb p hp
    have h4:=ih _ _ _ h2 h3 x hx
    obtain ⟨m1,m2,m3⟩:=pairs_mem (Nat.le_refl _) p hp
    have h5:p.1.length ≤ 8:=by
     cases ht:p.2.1 with
     | some t => exact root a hfa _ (m1 t ht)
     | none =>
      cases hu:p.2.2 with
      | none => exact absurd hu (m3 ht)
      | some u =>
       obtain ⟨y,hy,e⟩:=m2 u hu
       rw [e];exact root b hfb _ hy
    have h6:(joinS path p.1).length ≤ path.length + 9:=by
     unfold joinS;split
     ·omega
     ·simp only [List.length_append,List.length_cons];omega
    omega
theorem flatM_len {α:Type} (f:α→Str) (c:Nat):∀ l:List α,(∀ x ∈ l,(f x).length ≤ c)→(l.flatMap f).length ≤ l.length * c
 | [],_ => by simp
 | x :: l,h => by
  rw [List.flatMap_cons,List.length_append,List.length_cons,Nat.add_mul]
  have h1:=h x (by simp)
  have h2:=flatM_len f c l (fun y hy => h y (by simp [hy]))
  omega
theorem chg_short {A B:Ents} (hA:WFE A) (hB:WFE B) (h5:heightE A ≤ 5) (h5' : heightE B ≤ 5) (hn:(filesE A).length ≤ 20) (hn' : (filesE B).length ≤ 20) :
  ∀ pre,pre <+: chgS 6 [] (some (.dir A)) (some (.dir B))→(pre.flatMap lineM).length ≤ 40 * 60∧∀ x ∈ pre,x.1.length ≤ 54:=by
 have h1:=diff_chg hA hB h5 h5'
 have h2:=chg_names 6 [] (some (.dir A)) (some (.dir B)) (by simp) (fits_root hA h5) (fits_root hB h5')
 rw [show joinP ([]:List Str) = [] from rfl] at h2
 have h3:=diffL_len (toF (filesE A)) (toF (filesE B))
 rw [h1] at h3
 have h4:(chgS 6 [] (some (.dir A)) (some (.dir B))).length ≤ 40:=by
  rw [h2]
  simp [toF] at h3 ⊢
  omega
 intro pre hpre
 have hx:∀ x ∈ pre,x.1.length ≤ 54:=fun x hx => by
  have:=chgS_len 6 [] _ _ (fits_root hA h5) (fits_root hB h5') x (hpre.subset hx)
  simpa using this
 refine ⟨?_,hx⟩
 have h6:=flatM_len lineM 60 pre (fun x hxm => by have:=hx x hxm;simp [lineM];omega)
 have h7:=hpre.length_le
 have:pre.length * 60 ≤ 40 * 60:=Nat.mul_le_mul_right _ (by omega)
 omega
theorem range_flat {α:Type} {n m:Nat} {g:Operand} {ps:Array Tmp} {assign body:Code} {Q:Exit→Act→World→Prop} {a:Act} {w:World} {gf:Nat} {lb:Array Value} (hg:a.eval g = .func (.func gf) #[] lb) (eg:∀ args w,(callFunc gf args).run Tryz.prog w = .ok (.enter gf args) w)
  {encs:α→Array Value} {xs:List α} {R:Nat→Prop} (hseq:SeqOf Tryz.prog gf lb encs xs R w) (hps:∀ x,(encs x).size = ps.size) (O:Nat→Prop) (hR:∀ k,R k→k < w.heap.size∧¬ O k)
  (I:List α→(Nat→Prop)→World→Prop) (hloc:∀ pre,Local w.heap.size (I pre)) (h0:I [] O w) (ins:Array Value→α→Array Value)
  (hassign:∀ l x W (K:Act→World→Prop),K { tmps:=ins a.tmps x,defers:=[] } W →
   assign.wpIn (Fence.wide.inRound l) m Tryz.prog (Exit.then K (fun _ _ _ => False)) { tmps:=(ps.zip (encs x)).foldl (fun t (p,v) => t.setIfInBounds p v) a.tmps,defers:=[] } W)
  (hbody:∀ l pre x O1 W2,w.heap.size ≤ l→pre ++ [x] <+: xs→I pre O1 W2→Turn O w W2 O1 →
   body.wpIn (Fence.wide.inRound l) m Tryz.prog (goesOn I (pre ++ [x]) O1 W2) { tmps:=ins a.tmps x,defers:=[] } W2)
  (hdone:∀ D O' W',w.heap.size ≤ D→I xs O' W'→¬ O' D→Turn O w W' O'→W'.heap[D]? = some (.deferred (some []))→Q .normal { a with defers:={ target:=.collected D,args:=#[] } :: a.defers } W') :
  (Code.rangeFunc g ps assign body).wpIn Fence.wide n Tryz.prog Q a w:=by
 refine range_outer (m:=m) hg eg hseq hps O hR I hloc h0 (fun x a' _ => a' = { tmps:=ins a.tmps x,defers:=[] }) ?_ ?_ hdone
 ·intro l pre x O1 W K _ _ hK
  exact hassign l x W K (hK _ _ (Below.refl _ _) rfl)
 ·rintro l r pre x O1 a' W' W2 h1 h2 h3 rfl _ _ _ h8 h9
  exact hbody l pre x O1 W2 h1 h2 h8 h9
end Go.Proofs.YtdcbgfhkfmohiaaGreatDoor
