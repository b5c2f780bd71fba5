/- Contracts of the document's answer (package canopyref): its store: Put, Delete. -/
import Derived.Test.YtdcbgfhkfmohiaaGreatDoorAl02
namespace Go.Proofs.YtdcbgfhkfmohiaaGreatDoor
open Go.RowKit
def RefOut (w:World) (b:Nat) (va vr:Value) (sn:List (Nat × Value)) (o:RSt × Nat × Nat) (e:Ending) (w' : World):Prop :=
 ∃ va' sn',e = .returned (.tuple #[.int .i64 o.2.1,.int .i64 o.2.2])∧RefAt w' b o.1 va' vr sn'∧RefStep w b va sn w' va' sn'
theorem refStep_below {w w' : World} {b:Nat} {va:Value} {sn:List (Nat × Value)} (h:Below w.heap.size w w'):RefStep w b va sn w' va sn :=
 ⟨h.os,h.tape,h.output,h.size,fun k hk _ _ => h.block k hk,Moved.refl _ _,fun _ hx => .inl hx⟩
theorem refOut_no {w w' : World} {b:Nat} {r:RSt} {va vr:Value} {sn:List (Nat × Value)} {o:RSt × Nat × Nat} {n er:Nat} {e:Ending} (h:RefAt w b r va vr sn) (hb:Below w.heap.size w w') (ho:o = (r,n,er)) (he:e = .returned (.tuple #[.int .i64 n,.int .i64 er])):RefOut w b va vr sn o e w':=by
 subst ho
 exact ⟨va,sn,he,h.later hb (Nat.le_refl _),refStep_below hb⟩
theorem refOut_keep {w w1 w' : World} {b:Nat} {r:RSt} {va vr:Value} {sn:List (Nat × Value)} {v:Value} {l:List Fl} {o:RSt × Nat × Nat} {e:Ending} (hb:Below w.heap.size w w1) (hv:∀ k,v.ownBlock = some k→w.heap.size ≤ k)
  (hk:KeepOut w1 b r va vr sn v l e w') (ho:o = keepR r l):RefOut w b va vr sn o e w':=by
 subst ho
 obtain ⟨va',sn',he,hr,hos,htp,hou,hsz,hbl,hmv,hx⟩:=hk
 have hs:=hb.size
 refine ⟨va',sn',he,hr,⟨hos.trans hb.os,htp.trans hb.tape,hou.trans hb.output,by omega,?_,?_,?_⟩⟩
 ·intro k hk hkb hkv;rw [hbl k (by omega) hkb hkv,hb.block k hk]
 ·intro k hk
  rcases hmv k hk with h | h
  ·exact .inl h
  ·exact .inr (by omega)
 ·intro x hx'
  rcases hx x hx' with h | h
  ·exact .inl h
  ·right;intro k hk;rw [h] at hk;exact hv k hk
def putR (r:RSt) (n:Int) (p d:Str):RSt × Nat × Nat :=
 match findL r.all n with
 | none => (r,0,2)
 | some l => if isPathL p = false then (r,0,3) else if 30 < d.length then (r,0,4) else if isDirL l p || crossedL l p then (r,0,5) else if getI l p < 0∧20 ≤ l.length then (r,0,7) else keepR r (putL l (p,d))
def deleteR (r:RSt) (n:Int) (p:Str):RSt × Nat × Nat :=
 match findL r.all n with
 | none => (r,0,2)
 | some l => if isPathL p = false then (r,0,3) else if (withoutL l p).length = l.length then (r,0,6) else keepR r (withoutL l p)
theorem putTo_count {l:List Fl} {f:Fl} {k:Nat} (hk:k ≤ l.length):(putTo l f k).1.length + (l.take k).countP (fun g => g.1 == f.1) = k + (if (putTo l f k).2 then 1 else 0):=by
 induction k with
 | zero => simp [putTo_zero]
 | succ k ih =>
  have hlt:k < l.length:=by omega
  have ih:=ih (by omega)
  rw [putTo_succ hlt,List.take_succ_eq_append_getElem hlt,List.countP_append]
  generalize putTo l f k = st at *
  obtain ⟨out,dn⟩:=st
  simp only [putStep,List.countP_singleton] at *
  cases h1:(l[k].1 == f.1) <;> cases dn <;> cases h2:(lessL f.1 l[k].1 || f.1 == l[k].1) <;> simp_all <;> omega
theorem putL_len (l:List Fl) (f:Fl):(putL l f).length + l.countP (fun g => g.1 == f.1) = l.length + 1:=by
 have h:=putTo_count (l:=l) (f:=f) (Nat.le_refl _)
 rw [putTo_all (l:=l) (f:=f) (k:=l.length) (Nat.le_refl _)]
 rw [List.take_length] at h
 generalize putTo l f l.length = st at *
 obtain ⟨out,dn⟩:=st
 cases dn <;> simp_all <;> omega
theorem putTo_mem {l:List Fl} {f:Fl} {k:Nat}:∀ x ∈ (putTo l f k).1,x ∈ l∨x = f:=by
 induction k with
 | zero => simp [putTo_zero]
 | succ k ih =>
  by_cases hlt:k < l.length
  ·rw [putTo_succ hlt]
   intro x hx
   simp only [putStep,List.mem_append] at hx
   rcases hx with hx | hx
   ·split at hx
    ·simp at hx;rcases hx with hx | hx
     ·exact ih x hx
     ·exact .inr hx
    ·exact ih x hx
   ·split at hx
    ·simp at hx
    ·simp at hx;subst hx;exact .inl (List.getElem_mem hlt)
  ·have:putTo l f (k + 1) = putTo l f k:=by unfold putTo;rw [List.take_of_length_le (by omega),List.take_of_length_le (by omega)]
   rw [this];exact ih
theorem putL_mem {l:List Fl} {f:Fl}:∀ x ∈ putL l f,x ∈ l∨x = f:=by
 intro x hx
 rw [putTo_all (l:=l) (f:=f) (k:=l.length) (Nat.le_refl _)] at hx
 split at hx
 ·exact putTo_mem x hx
 ·rw [List.mem_append] at hx;rcases hx with hx | hx
  ·exact putTo_mem x hx
  ·simp at hx;exact .inr hx
theorem getI_neg {l:List Fl} {p:Str} (h:¬ getI l p < 0):0 < l.countP (fun g => g.1 == p):=by
 unfold getI at h
 split at h
 ·rename_i k hk
  unfold getL at hk;rw [List.findIdx?_eq_some_iff_getElem] at hk
  obtain ⟨h1,h2,_⟩:=hk
  exact List.countP_pos_iff.2 ⟨l[k],List.getElem_mem h1,h2⟩
 ·omega
theorem put_tiny {l:List Fl} {p d:Str} (h:Tiny l) (hp:p.length ≤ 100) (hd:d.length ≤ 30) (hn:¬ (getI l p < 0∧20 ≤ l.length)):Tiny (putL l (p,d)):=by
 have h1:=putL_len l (p,d)
 have h2:=h.1
 refine ⟨?_,?_⟩
 ·by_cases hg:getI l p < 0
  ·omega
  ·have:=getI_neg hg;simp only at h1;omega
 ·intro f hf
  rcases putL_mem f hf with h3 | h3
  ·exact h.2 f h3
  ·subst h3;exact ⟨hp,hd⟩
theorem without_len (l:List Fl) (p:Str):(withoutL l p).length ≤ l.length:=by
 unfold withoutL;induction l with
 | nil => simp
 | cons f t ih => simp only [List.flatMap_cons,List.length_append];split <;> simp only [List.length_nil,List.length_cons] <;> omega
theorem without_mem {l:List Fl} {p:Str}:∀ x ∈ withoutL l p,x ∈ l:=by
 intro x hx;unfold withoutL at hx;rw [List.mem_flatMap] at hx;obtain ⟨y,hy,hx⟩:=hx
 split at hx
 ·simp at hx
 ·simp at hx;subst hx;exact hy
theorem without_tiny {l:List Fl} (h:Tiny l) (p:Str):Tiny (withoutL l p):=⟨Nat.le_trans (without_len l p) h.1,fun f hf => h.2 f (without_mem f hf)⟩
theorem isPathL_len {p:Str} (h:isPathL p = true):p.length ≤ 100:=by
 unfold isPathL at h;simp at h;exact h.1.1
theorem row_fresh {w w' : World} {e:TypeId} {size n:Nat} {v:Value} {xs:List Value} (h:w'.ownsRow w.heap.size e size v n xs):∀ k,v.ownBlock = some k→w.heap.size ≤ k:=fun k hk => (h.lt k hk).1
set_option maxHeartbeats 2000000 in
theorem refPut_any (b:Nat) (r:RSt) (va vr:Value) (sn:List (Nat × Value)) (n:Int) (p d:Str) (w:World) (h:RefAt w b r va vr sn) (hmade:r.made < 4611686018427387904) (hp:p.length < maxLen) (hd:d.length ≤ maxLen) :
  Calls Tryz.prog 97 #[.pointer (some ⟨b,0,none⟩),.int .i64 n,SV p,SV d] w fun e w' => RefOut w b va vr sn (putR r n p d) e w':=by
 have H:Hid _:=h
 clear h
 have hp' : p.length ≤ maxLen:=by omega
 unfold maxLen at hd
 have hd' : (d.length:Int) ≤ 9223372036854775807:=by omega
 go_enter Tryz.func97,Tryz.ntmps97
 go_wp2_with fail
 refine (find_any b r va vr sn n _ H.out).mono ?_
 rintro e w1 ⟨rfl,hf⟩
 rcases hf with ⟨k,h1,h2,hfl,rfl⟩ | ⟨hfl,rfl⟩
 ·have hF:=H.out.fil k h1 h2
  have hT:=H.out.tiny r.all[k] (List.getElem_mem h2)
  have RR:Hid (putR r n p d = if isPathL p = false then (r,0,3) else if 30 < d.length then (r,0,4) else if isDirL r.all[k].2 p || crossedL r.all[k].2 p then (r,0,5) else if getI r.all[k].2 p < 0∧20 ≤ r.all[k].2.length then (r,0,7) else keepR r (putL r.all[k].2 (p,d))):=by
   rw [Hid,putR,hfl]
  generalize r.all[k].2 = l at *
  generalize sn[k].2 = v at *
  obtain ⟨ao,cap,rfl⟩:=row_form hF
  have hl20:=hT.1
  clear hfl h1 h2
  go_wp2_with fail
  refine (isPath_any p _ hp').mono ?_
  rintro e w2 ⟨rfl,hb2⟩
  have hF2:=files_below hF hb2 (Nat.le_refl _)
  cases hpa:isPathL p
  ·have R:Hid _:=RR.out
   rw [hpa,if_pos rfl] at R
   go_wp2
   go_ret2
   exact refOut_no H.out hb2 R.out rfl
  ·have hp100:=isPathL_len hpa
   by_cases h30:30 < d.length
   ·have R:Hid _:=RR.out
    rw [hpa,if_neg (by simp),if_pos h30] at R
    go_wp2
    go_ret2
    exact refOut_no H.out hb2 R.out rfl
   ·go_wp2_with fail
    refine (isDir_any l _ p _ hF2 hT.small hp).mono ?_
    rintro e w3 ⟨rfl,hb3⟩
    have hF3:=files_below hF2 hb3 (Nat.le_refl _)
    go_wp2_with fail
    refine (crossed_any l _ p _ hF3 hT.small hp').mono ?_
    rintro e w4 ⟨rfl,rfl⟩
    have hb:Below w1.heap.size w1 w4:=hb2.trans (hb3.mono hb2.size)
    cases hdir:isDirL l p
    ·cases hcr:crossedL l p
     ·go_wp2_with fail
      refine (get_any l _ p _ hF3).mono ?_
      rintro e w5 ⟨rfl,rfl⟩
      by_cases hm:getI l p < 0∧20 ≤ l.length
      ·obtain ⟨hm1,hm2⟩:=hm
       have R:Hid (putR r n p d = (r,0,7)):=by rw [Hid,RR.out,hpa,hdir,hcr,if_neg (by simp),if_neg h30,if_neg (by simp),if_pos ⟨hm1,hm2⟩]
       go_wp2_with fail
       go_ret2
       exact refOut_no H.out hb R.out rfl
      ·have R:Hid (putR r n p d = keepR r (putL l (p,d))):=by rw [Hid,RR.out,hpa,hdir,hcr,if_neg (by simp),if_neg h30,if_neg (by simp),if_neg hm]
       have hT2:=put_tiny (d:=d) hT hp100 (by omega) hm
       have hH4:=H.out.later hb (Nat.le_refl _)
       by_cases hm1:getI l p < 0
       ·have hm2:¬ 20 ≤ l.length:=fun h => hm ⟨hm1,h⟩
        clear hm
        go_wp2_with fail
        refine (put_any l _ (p,d) _ hF3 hT.small (by simp only;omega)).mono ?_
        rintro e w6 ⟨v6,rfl,hown6,hb6⟩
        have hH6:=hH4.later hb6 (Nat.le_refl _)
        have hb7:=hb.trans (hb6.mono hb.size)
        have hfr:∀ k,v6.ownBlock = some k→w5.heap.size ≤ k:=row_fresh hown6
        have hF6:FilesAt w6 v6 (putL l (p,d)):=ownsRow_le hown6 (Nat.zero_le _)
        clear hown6 hb6 hH4
        go_wp2_with fail
        refine (keep_any b r va vr sn v6 (putL l (p,d)) _ hH6 hF6 hT2 hmade).mono ?_
        intro e w7 hk
        have hO:=refOut_keep hb7 (fun k hk => Nat.le_trans hb.size (hfr k hk)) hk R.out
        clear hk
        obtain ⟨va',sn',rfl,hO⟩:=hO
        go_wp2_with fail
        go_ret2
        exact ⟨va',sn',rfl,hO⟩
       ·clear hm
        go_wp2_with fail
        refine (put_any l _ (p,d) _ hF3 hT.small (by simp only;omega)).mono ?_
        rintro e w6 ⟨v6,rfl,hown6,hb6⟩
        have hH6:=hH4.later hb6 (Nat.le_refl _)
        have hb7:=hb.trans (hb6.mono hb.size)
        have hfr:∀ k,v6.ownBlock = some k→w5.heap.size ≤ k:=row_fresh hown6
        have hF6:FilesAt w6 v6 (putL l (p,d)):=ownsRow_le hown6 (Nat.zero_le _)
        clear hown6 hb6 hH4
        go_wp2_with fail
        refine (keep_any b r va vr sn v6 (putL l (p,d)) _ hH6 hF6 hT2 hmade).mono ?_
        intro e w7 hk
        have hO:=refOut_keep hb7 (fun k hk => Nat.le_trans hb.size (hfr k hk)) hk R.out
        clear hk
        obtain ⟨va',sn',rfl,hO⟩:=hO
        go_wp2_with fail
        go_ret2
        exact ⟨va',sn',rfl,hO⟩
     ·have R:Hid (putR r n p d = (r,0,5)):=by rw [Hid,RR.out,hpa,hdir,hcr,if_neg (by simp),if_neg h30,if_pos (by simp)]
      go_wp2_with fail
      go_ret2
      exact refOut_no H.out hb R.out rfl
    ·have R:Hid (putR r n p d = (r,0,5)):=by rw [Hid,RR.out,hpa,hdir,if_neg (by simp),if_neg h30,if_pos (by simp)]
     go_wp2_with fail
     go_ret2
     exact refOut_no H.out hb R.out rfl
 ·have R:Hid (putR r n p d = (r,0,2)):=by rw [Hid,putR,hfl]
  clear hfl
  go_wp2
  go_ret2
  exact refOut_no H.out (Below.refl _ _) R.out rfl
set_option maxHeartbeats 2000000 in
theorem refDelete_any (b:Nat) (r:RSt) (va vr:Value) (sn:List (Nat × Value)) (n:Int) (p:Str) (w:World) (h:RefAt w b r va vr sn) (hmade:r.made < 4611686018427387904) (hp:p.length < maxLen) :
  Calls Tryz.prog 98 #[.pointer (some ⟨b,0,none⟩),.int .i64 n,SV p] w fun e w' => RefOut w b va vr sn (deleteR r n p) e w':=by
 have H:Hid _:=h
 clear h
 have hp' : p.length ≤ maxLen:=by omega
 go_enter Tryz.func98,Tryz.ntmps98
 go_wp2_with fail
 refine (find_any b r va vr sn n _ H.out).mono ?_
 rintro e w1 ⟨rfl,hf⟩
 rcases hf with ⟨k,h1,h2,hfl,rfl⟩ | ⟨hfl,rfl⟩
 ·have hF:=H.out.fil k h1 h2
  have hT:=H.out.tiny r.all[k] (List.getElem_mem h2)
  have RR:Hid (deleteR r n p = if isPathL p = false then (r,0,3) else if (withoutL r.all[k].2 p).length = r.all[k].2.length then (r,0,6) else keepR r (withoutL r.all[k].2 p)):=by
   rw [Hid,deleteR,hfl]
  generalize r.all[k].2 = l at *
  generalize sn[k].2 = v at *
  obtain ⟨ao,cap,rfl⟩:=row_form hF
  have hl20:=hT.1
  clear hfl h1 h2
  go_wp2_with fail
  refine (isPath_any p _ hp').mono ?_
  rintro e w2 ⟨rfl,hb2⟩
  have hF2:=files_below hF hb2 (Nat.le_refl _)
  cases hpa:isPathL p
  ·have R:Hid _:=RR.out
   rw [hpa,if_pos rfl] at R
   go_wp2
   go_ret2
   exact refOut_no H.out hb2 R.out rfl
  ·have hT2:=without_tiny hT p
   have hl2:=hT2.1
   have hH2:=H.out.later hb2 (Nat.le_refl _)
   go_wp2_with fail
   refine (without_any l _ p _ hF2 hT.small hp).mono ?_
   rintro e w6 ⟨v6,rfl,hown6,hb6⟩
   have hH6:=hH2.later hb6 (Nat.le_refl _)
   have hb7:=hb2.trans (hb6.mono hb2.size)
   have hfr:∀ k,v6.ownBlock = some k→w2.heap.size ≤ k:=row_fresh hown6
   have hF6:FilesAt w6 v6 (withoutL l p):=ownsRow_le hown6 (Nat.zero_le _)
   obtain ⟨ao6,cap6,rfl⟩:=row_form hown6
   clear hown6 hb6 hH2
   cases he:(((withoutL l p).length:Int) == (l.length:Int))
   ·have R:Hid (deleteR r n p = keepR r (withoutL l p)):=by
     rw [Hid,RR.out,hpa,if_neg (by simp),if_neg];intro e;rw [e] at he;simp at he
    go_wp2_with fail
    refine (keep_any b r va vr sn _ (withoutL l p) _ hH6 hF6 hT2 hmade).mono ?_
    intro e w7 hk
    have hO:=refOut_keep hb7 (fun k hk => Nat.le_trans hb2.size (hfr k hk)) hk R.out
    clear hk
    obtain ⟨va',sn',rfl,hO⟩:=hO
    go_wp2_with fail
    go_ret2
    exact ⟨va',sn',rfl,hO⟩
   ·have R:Hid (deleteR r n p = (r,0,6)):=by
     rw [Hid,RR.out,hpa,if_neg (by simp),if_pos];simp at he;omega
    go_wp2_with fail
    go_ret2
    exact refOut_no H.out hb7 R.out rfl
 ·have R:Hid (deleteR r n p = (r,0,2)):=by rw [Hid,deleteR,hfl]
  clear hfl
  go_wp2
  go_ret2
  exact refOut_no H.out (Below.refl _ _) R.out rfl

open Go.RowKit
def releaseR (r:RSt) (n:Int):RSt × Nat :=
 match findL r.all n with
 | none => (r,2)
 | some _ => ({ r with all:=r.all.filter fun x => !((x.1:Int) == n) },0)
def ReleaseOut (w:World) (b:Nat) (va vr:Value) (sn:List (Nat × Value)) (o:RSt × Nat) (e:Ending) (w' : World):Prop :=
 ∃ va' sn',e = .returned (.int .i64 o.2)∧RefAt w' b o.1 va' vr sn'∧RefStep w b va sn w' va' sn'
def keepN (n:Int) (x:Nat × Value):Bool:=!((x.1:Int) == n)
theorem filter_take {α:Type} {f:α→Bool} {l:List α} {k:Nat} (hk:k < l.length):(l.take (k + 1)).filter f = (l.take k).filter f ++ (if f l[k] then [l[k]] else []):=by
 rw [List.take_succ_eq_append_getElem hk,List.filter_append];congr 1
 cases h:f l[k] <;> simp [h]
inductive Side (w:World):List (Nat × Value)→List (Nat × List Fl)→Prop
 | nil:Side w [] []
 | cons {x:Nat × Value} {y:Nat × List Fl} {s:List (Nat × Value)} {t:List (Nat × List Fl)} (h1:x.1 = y.1) (h2:FilesAt w x.2 y.2) (h:Side w s t):Side w (x :: s) (y :: t)
theorem Side.mk {sn:List (Nat × Value)} {all:List (Nat × List Fl)} {w:World} (hlen:sn.length = all.length) (hnum:∀ k (h:k < sn.length) (h' : k < all.length),sn[k].1 = all[k].1) (hfil:∀ k (h:k < sn.length) (h' : k < all.length),FilesAt w sn[k].2 all[k].2):Side w sn all:=by
 induction sn generalizing all with
 | nil => cases all with
  | nil => exact .nil
  | cons y t => simp at hlen
 | cons x s ih => cases all with
  | nil => simp at hlen
  | cons y t =>
   refine .cons (hnum 0 (by simp) (by simp)) (hfil 0 (by simp) (by simp)) (ih (by simpa using hlen) ?_ ?_)
   ·intro k h h';have:=hnum (k + 1) (by simp;omega) (by simp;omega);exact this
   ·intro k h h';have:=hfil (k + 1) (by simp;omega) (by simp;omega);exact this
theorem Side.len {sn:List (Nat × Value)} {all:List (Nat × List Fl)} {w:World} (h:Side w sn all):sn.length = all.length:=by
 induction h with
 | nil => rfl
 | cons _ _ _ ih => simp [ih]
theorem Side.num {sn:List (Nat × Value)} {all:List (Nat × List Fl)} {w:World} (h:Side w sn all):∀ k (h:k < sn.length) (h' : k < all.length),sn[k].1 = all[k].1:=by
 induction h with
 | nil => intro k h;simp at h
 | cons h1 _ _ ih => intro k h h';cases k with
  | zero => exact h1
  | succ k => exact ih k (by simpa using h) (by simpa using h')
theorem Side.fil {sn:List (Nat × Value)} {all:List (Nat × List Fl)} {w:World} (h:Side w sn all):∀ k (h:k < sn.length) (h' : k < all.length),FilesAt w sn[k].2 all[k].2:=by
 induction h with
 | nil => intro k h;simp at h
 | cons _ h2 _ ih => intro k h h';cases k with
  | zero => exact h2
  | succ k => exact ih k (by simpa using h) (by simpa using h')
theorem Side.filter {sn:List (Nat × Value)} {all:List (Nat × List Fl)} {w:World} (h:Side w sn all) (n:Int):Side w (sn.filter (keepN n)) (all.filter fun x => !((x.1:Int) == n)):=by
 induction h with
 | nil => exact .nil
 | @cons x y s t h1 h2 _ ih =>
  rw [List.filter_cons,List.filter_cons]
  have e:keepN n x = !((y.1:Int) == n):=by rw [keepN,h1]
  rw [e]
  split
  ·exact .cons h1 h2 ih
  ·exact ih
theorem refAt_set {w:World} {b:Nat} {r:RSt} {va vr:Value} {sn sn' : List (Nat × Value)} {v' : Value} {all' : List (Nat × List Fl)} (h:RefAt w b r va vr sn) (hrow:w.ownsRow 0 196 2 v' sn'.length (flatS sn')) (hs:Side w sn' all') (ht:∀ x ∈ all',Tiny x.2) (hf:all'.length ≤ 12) :
  RefAt (w.setCell ⟨b,2,none⟩ v') b { r with all:=all' } v' vr sn':=by
 have hother:∀ (k:Nat) (c:Array Value) (e:TypeId),e ≠ 193→w.heap[k]? = some (.cells c e (0,0))→(w.setCell ⟨b,2,none⟩ v').heap[k]? = w.heap[k]?:=by
  intro k c e he hk
  rw [Below.heap_setCell _ _ _ _ ?_]
  intro e';simp only at e';subst e';rw [h.blk] at hk;simp at hk;exact he hk.2.symm
 refine ⟨?_,row_kept hrow fun k c hk => hother k c _ (by decide) hk,hs.len,hs.num,fun k h1 h2 => row_kept (hs.fil k h1 h2) fun k c hk => hother k c _ (by decide) hk,ht,hf,h.lim⟩
 rw [setCell_blk h.blk];rfl
theorem snap_len {w:World} {base:Nat} {v:Value} {n:Nat} {xs:List (Nat × Value)} (h:w.ownsRow base 196 2 v n (flatS xs)):w.ownsRow base 196 2 v xs.length (flatS xs):=by
 have h1:=h.1;rw [flatS_len] at h1
 rw [show xs.length = n from by omega];exact h
set_option maxHeartbeats 2000000 in
theorem refRelease_any (b:Nat) (r:RSt) (va vr:Value) (sn:List (Nat × Value)) (n:Int) (w:World) (h:RefAt w b r va vr sn) :
  Calls Tryz.prog 100 #[.pointer (some ⟨b,0,none⟩),.int .i64 n] w fun e w' => ReleaseOut w b va vr sn (releaseR r n) e w':=by
 have H:Hid _:=h
 clear h
 go_enter Tryz.func100,Tryz.ntmps100
 go_wp2_with fail
 refine (find_any b r va vr sn n _ H.out).mono ?_
 rintro e w1 ⟨rfl,hf⟩
 rcases hf with ⟨k,h1,h2,hfl,rfl⟩ | ⟨hfl,rfl⟩
 ·have RR:Hid (releaseR r n = ({ r with all:=r.all.filter fun x => !((x.1:Int) == n) },0)):=by rw [Hid,releaseR,hfl]
  obtain ⟨ao,cap,hva,hm,hc,hsn⟩:=snaps_view H.out.row
  have hs:∃ ao2 cap2,sn[k].2 = .slice ao2 r.all[k].2.length cap2:=row_form (H.out.fil k h1 h2)
  obtain ⟨ao2,cap2,hs⟩:=hs
  rw [hs]
  have hc2:=blk_cell H.out.blk 2
  simp at hc2
  rw [hva] at hc2
  have hbl:=(Array.getElem?_eq_some_iff.1 H.out.blk).1
  have hfew:=H.out.few
  have hl1:sn.length ≤ r.all.length:=by have:=H.out.len;omega
  generalize r.all[k].2.length = q at *
  clear hfl h1 h2 hs
  go_wp2_with fail
  go_loopw [7,8] (fun v i wr => ∃ k:Nat,k ≤ sn.length∧i = .int .i64 k∧wr.ownsRow w1.heap.size 196 2 v ((sn.take k).filter (keepN n)).length (flatS ((sn.take k).filter (keepN n)))∧Below w1.heap.size w1 wr) (fun _ i _ => sn.length - (intOf i).toNat)
  case atStart => exact ⟨0,Nat.zero_le _,rfl,World.ownsRow_nil _ _ _ _,Below.refl _ _⟩
  case round =>
   obtain ⟨k,hk,rfl,hown,hbel⟩:=hrel
   have hz:=hbel.size
   have hc2':=(hbel.cell (p:=⟨b,2,none⟩) hbl).trans hc2
   have hle:((sn.take k).filter (keepN n)).length ≤ k:=Nat.le_trans (List.length_filter_le _ _) (by simp;omega)
   by_cases hlt:k < sn.length
   ·obtain ⟨g,rfl,hg,hp,hd⟩:=hsn k hlt
    have hp':=(hbel.cell (p:=⟨g,k * 2,none⟩) hg).trans hp
    have hd':=(hbel.cell (p:=⟨g,k * 2 + 1,none⟩) hg).trans hd
    have hF:=H.out.fil k hlt (by have:=H.out.len;omega)
    obtain ⟨a3,c3,h3⟩:=row_form hF
    rw [h3] at hd'
    generalize (r.all[k]'(by have:=H.out.len;omega)).2.length = q3 at *
    have R0:Hid _:=filter_take (f:=keepN n) hlt
    generalize hx:sn[k].1 = m at *
    clear hsn hp hd hF
    cases he:((m:Int) == n)
    ·have R:Hid ((sn.take (k + 1)).filter (keepN n) = (sn.take k).filter (keepN n) ++ [(m,.slice a3 q3 c3)]):=by
      rw [Hid,R0.out,keepN,hx,he];simp;exact Prod.ext hx h3
     have Hx:Hid _:=hx
     have H3:Hid _:=h3
     clear hx h3
     go_wp2_with (at_builtin;go_loud (refine wp_app 190 196 _ 2 32 Tryz.infoSnap Tryz.underlying190 rfl (by decide) rfl (.tmp 36) (.tmp 44) rfl hown [.int .i64 m,.slice a3 q3 c3] rfl (by intro u hu;simp at hu;rcases hu with rfl | rfl <;> rfl) ⟨rfl,rfl,rfl,rfl⟩ rfl rfl ?_ ?_ hz ?_))
     ·unfold maxLen;omega
     ·omega
     intro v' w2 hown' hb'
     go_wp2
     go_roundw
     case rel => exact ⟨k + 1,by omega,by go_num,by rw [R.out];exact snap_len (by rw [flatS_app];exact hown'),hbel.trans hb'⟩
     case measure => simp [intOf];omega
    ·have R:Hid ((sn.take (k + 1)).filter (keepN n) = (sn.take k).filter (keepN n)):=by
      rw [Hid,R0.out,keepN,hx,he];simp
     have Hx:Hid _:=hx
     clear hx
     go_wp2
     go_roundw
     case rel => exact ⟨k + 1,by omega,by go_num,by rw [R.out];exact hown,hbel⟩
     case measure => simp [intOf];omega
   ·have hke:k = sn.length:=by omega
    subst hke
    rw [List.take_length] at hown
    have hfz:=blk_free (H.out.later hbel (Nat.le_refl _)).blk 2
    obtain ⟨a3,c3,rfl⟩:=row_form hown
    clear hsn hlt
    generalize hL:(sn.filter (keepN n)).length = L at *
    have HL:Hid _:=hL
    clear hL
    go_wp2
    go_ret
    rw [RR.out]
    have h3:=H.out.later hbel (Nat.le_refl _)
    have hS:=(Side.mk h3.len h3.num h3.fil).filter n
    have hr:wr.ownsRow 0 196 2 (.slice a3 L c3) (sn.filter (keepN n)).length (flatS (sn.filter (keepN n))):=by rw [HL.out];exact ownsRow_le hown (Nat.zero_le _)
    refine ⟨_,_,rfl,refAt_set h3 hr hS ?_ ?_,⟨hbel.os,hbel.tape,hbel.output,?_,?_,?_,?_⟩⟩
    ·intro x hx;exact H.out.tiny x (List.mem_filter.1 hx).1
    ·have:=List.length_filter_le (fun x:Nat × List Fl => !((x.1:Int) == n)) r.all;omega
    ·simpa [World.setCell] using hz
    ·intro k hk hkb _;rw [Below.heap_setCell _ _ _ _ hkb,hbel.block k hk]
    ·exact fun k hk => .inr (hown.lt k hk).1
    ·intro x hx;exact .inl (List.mem_filter.1 hx).1
 ·have R:Hid (releaseR r n = (r,2)):=by rw [Hid,releaseR,hfl]
  clear hfl
  go_wp2
  go_ret
  rw [R.out]
  exact ⟨va,sn,rfl,H.out,refStep_below (Below.refl _ _)⟩

open Go.RowKit
def newR (c:Nat):RSt:=⟨c,1,[(0,[])]⟩
theorem tiny_nil:Tiny []:=⟨by simp,by simp⟩
theorem refAt_new {w w' : World} {b c:Nat} {v' : Value} (hb:w'.heap[b]? = some (.cells #[.int .i64 c,.int .i64 1,.slice none 0 0,.slice none 0 0] 193 (0,0))) (hc:c ≤ 200)
  (h1:w'.ownsRow w.heap.size 196 2 v' 1 [.int .i64 0,.slice none 0 0]):RefAt (w'.setCell ⟨b,2,none⟩ v') b (newR c) v' (.slice none 0 0) [(0,.slice none 0 0)]:=by
 have h0:RefAt w' b ⟨c,1,[]⟩ (.slice none 0 0) (.slice none 0 0) []:=⟨hb,World.ownsRow_nil _ _ _ _,rfl,by simp,by simp,by simp,by simp,hc⟩
 exact refAt_set h0 (by exact ownsRow_le h1 (Nat.zero_le _)) (.cons rfl (World.ownsRow_nil _ _ _ _) .nil) (by intro x hx;simp at hx;subst hx;exact tiny_nil) (by simp)
def RefNewOut (w:World) (c:Nat) (e:Ending) (w' : World):Prop :=
 ∃ b va,w.heap.size ≤ b∧e = .returned (.tuple #[.pointer (some ⟨b,0,none⟩),.int .i64 0])∧RefAt w' b (newR c) va (.slice none 0 0) [(0,.slice none 0 0)]∧Below w.heap.size w w'∧∀ k,va.ownBlock = some k→w.heap.size ≤ k
set_option maxHeartbeats 1000000 in
theorem refNew_no (c:Int) (w:World) (h:c < 1∨200 < c) :
  Calls Tryz.prog 67 #[.int .i64 c] w fun e w' => e = .returned (.tuple #[.pointer none,.int .i64 1])∧w' = w:=by
 by_cases h1:c < 1
 ·go_enter Tryz.func67,Tryz.ntmps67
  go_wp2
  go_ret2
  exact ⟨rfl,rfl⟩
 ·have h2:200 < c:=by omega
  go_enter Tryz.func67,Tryz.ntmps67
  go_wp2
  go_ret2
  exact ⟨rfl,rfl⟩
set_option maxHeartbeats 1000000 in
theorem refNew_yes (c:Nat) (w:World) (h1:1 ≤ c) (h2:c ≤ 200) :
  Calls Tryz.prog 67 #[.int .i64 c] w fun e w' => RefNewOut w c e w':=by
 have h1' : ¬ (c:Int) < 1:=by omega
 have h2' : ¬ (200:Int) < c:=by omega
 go_enter Tryz.func67,Tryz.ntmps67
 go_wp2_with (at_builtin;go_loud (refine wp_app 190 196 _ 2 32 Tryz.infoSnap Tryz.underlying190 rfl (by decide) rfl (.tmp 18) (.tmp 20) rfl (base:=w.heap.size + 1) (World.ownsRow_nil _ _ _ _) [.int .i64 0,.slice none 0 0] rfl (by intro u hu;simp at hu;rcases hu with rfl | rfl <;> rfl) ⟨rfl,rfl,rfl,rfl⟩ rfl ?_ ?_ ?_ ?_ ?_))
 ·unfold maxLen;omega
 ·intro v' w2 hown' hb'
  have hb2:w2.heap[w.heap.size]? = some (.cells #[.int .i64 c,.int .i64 1,.slice none 0 0,.slice none 0 0] 193 (0,0)):=by
   rw [hb'.block _ (by omega)];exact heap_alloc_new w _
  have hc2:=blk_cell hb2 2
  have hf2:=blk_free hb2 2
  simp at hc2
  obtain ⟨g,cap,rfl⟩:=row_some hown'
  go_wp2
  go_ret2
  refine ⟨w.heap.size,.slice (some ⟨g,0,none⟩) 1 cap,Nat.le_refl _,rfl,refAt_new hb2 h2 (ownsRow_le hown' (Nat.le_succ _)),?_,?_⟩
  ·exact (((Below.refl _ _).alloc (Nat.le_refl _) _).trans (hb'.mono (by omega))).setCell (Nat.le_refl _) _
  ·intro k hk;have:=(hown'.lt k hk).1;omega

open Go.RowKit
theorem splitL_total (c:UInt8) (s:Str):((splitL c s).map fun x => x.length + 1).sum = s.length + 1:=by
 induction s with
 | nil => simp [splitL]
 | cons b t ih =>
  unfold splitL;split
  ·simp;omega
  ·have:=splitL_ne c t
   split
   ·rename_i h r he;rw [he] at ih;simp at ih ⊢;omega
   ·rename_i he;exact absurd he this
theorem sum_le {l:List Str} {m:Nat} (h:∀ x ∈ l,x.length ≤ m):(l.map fun x => x.length + 1).sum ≤ l.length * (m + 1):=by
 induction l with
 | nil => simp
 | cons x t ih =>
  have h1:=h x (by simp)
  have h2:=ih (fun y hy => h y (by simp [hy]))
  simp only [List.map_cons,List.sum_cons,List.length_cons,Nat.add_mul];omega
theorem isNameL_len {s:Str} {wild:Bool} (h:isNameL s wild = true):1 ≤ s.length∧s.length ≤ 8:=by
 unfold isNameL at h;simp at h;exact ⟨h.1.1,h.1.2⟩
theorem isPathL_44 {p:Str} (h:isPathL p = true):p.length ≤ 44:=by
 have h1:=splitL_total 47 p
 have h2:∀ x ∈ splitL 47 p,x.length ≤ 8:=by
  intro x hx;unfold isPathL at h;simp at h;exact (isNameL_len (h.1.2 x hx)).2
 have h3:=sum_le h2
 have h4:(splitL 47 p).length ≤ 5:=by unfold isPathL at h;simp at h;exact h.2
 omega
def moveStep (src dst:Str) (m:Option (List Fl)) (f:Fl):Option (List Fl) :=
 m.bind fun m => if (f.1 == src) = true then some (putL m (dst,f.2)) else if (belowL f.1 src).isEmpty = true then some m
  else if 5 < (splitL 47 (dst ++ 47 :: belowL f.1 src)).length then none else some (putL m (dst ++ 47 :: belowL f.1 src,f.2))
def moveL (l:List Fl) (src dst:Str):Option (List Fl):=l.foldl (moveStep src dst) (some (withoutL l src))
def moveR (r:RSt) (n:Int) (src dst:Str):RSt × Nat × Nat :=
 match findL r.all n with
 | none => (r,0,2)
 | some l => if isPathL src = false∨isPathL dst = false then (r,0,3) else if (withoutL l src).length = l.length then (r,0,6)
  else if 0 ≤ getI l dst∨isDirL l dst = true∨crossedL l dst = true∨(src == dst) = true∨(belowL dst src).isEmpty = false then (r,0,5)
  else match moveL l src dst with
   | none => (r,0,3)
   | some m => keepR r m
def movedB (src:Str) (f:Fl):Bool:=(f.1 == src) || !(belowL f.1 src).isEmpty
theorem without_count (l:List Fl) (src:Str):(withoutL l src).length + l.countP (movedB src) = l.length:=by
 unfold withoutL;induction l with
 | nil => simp
 | cons f t ih =>
  simp only [List.flatMap_cons,List.length_append,List.countP_cons,List.length_cons] at *
  by_cases hb:(f.1 == src || !(belowL f.1 src).isEmpty) = true
  ·have hb2:movedB src f = true:=hb
   rw [if_pos hb,if_pos hb2,List.length_nil];omega
  ·have hb2:¬ movedB src f = true:=hb
   rw [if_neg hb,if_neg hb2,List.length_cons,List.length_nil];omega
structure MoveAt (l:List Fl) (src dst:Str) (k:Nat) (m:List Fl):Prop where
 eq:(l.take k).foldl (moveStep src dst) (some (withoutL l src)) = some m
 len:m.length ≤ (withoutL l src).length + (l.take k).countP (movedB src)
 mem:∀ f ∈ m,f.1.length ≤ dst.length + 1 + 44∧f.2.length ≤ 30
theorem MoveAt.start {l:List Fl} {src dst:Str} (ht:Tiny l) (hs:∀ f ∈ l,f.1.length ≤ 44):MoveAt l src dst 0 (withoutL l src) :=
 ⟨rfl,by simp,fun f hf => by have h1:=hs f (without_mem f hf);have h2:=(ht.2 f (without_mem f hf)).2;omega⟩
theorem putL_len_le (l:List Fl) (f:Fl):(putL l f).length ≤ l.length + 1:=by have:=putL_len l f;omega
theorem fold_take {l:List Fl} {src dst:Str} {k:Nat} {z:Option (List Fl)} (hk:k < l.length):(l.take (k + 1)).foldl (moveStep src dst) z = moveStep src dst ((l.take k).foldl (moveStep src dst) z) l[k]:=by
 rw [List.take_succ_eq_append_getElem hk,List.foldl_append];rfl
theorem fold_none {src dst:Str} (l:List Fl):l.foldl (moveStep src dst) none = none:=by
 induction l with
 | nil => rfl
 | cons f t ih => exact ih
theorem moveL_none {l:List Fl} {src dst:Str} {k:Nat} (h:(l.take k).foldl (moveStep src dst) (some (withoutL l src)) = none):moveL l src dst = none:=by
 unfold moveL
 conv => lhs;rw [← List.take_append_drop k l]
 rw [List.foldl_append,List.take_append_drop,h,fold_none]
theorem MoveAt.file {l:List Fl} {src dst:Str} {k:Nat} {m:List Fl} (h:MoveAt l src dst k m) (ht:Tiny l) (hk:k < l.length) (he:(l[k].1 == src) = true):MoveAt l src dst (k + 1) (putL m (dst,l[k].2)):=by
 have hd:=(ht.2 l[k] (List.getElem_mem hk)).2
 have hp:=putL_len_le m (dst,l[k].2)
 refine ⟨?_,?_,?_⟩
 ·rw [fold_take hk,h.eq,moveStep];simp [he]
 ·rw [List.take_succ_eq_append_getElem hk,List.countP_append];have:=h.len;simp [movedB,he];omega
 ·intro f hf;rcases putL_mem f hf with h1 | h1
  ·exact h.mem f h1
  ·subst h1;simp only;omega
theorem MoveAt.pass {l:List Fl} {src dst:Str} {k:Nat} {m:List Fl} (h:MoveAt l src dst k m) (hk:k < l.length) (he:(l[k].1 == src) = false) (hb:(belowL l[k].1 src).isEmpty = true):MoveAt l src dst (k + 1) m:=by
 refine ⟨?_,?_,h.mem⟩
 ·rw [fold_take hk,h.eq,moveStep];simp [he,hb]
 ·rw [List.take_succ_eq_append_getElem hk,List.countP_append];have:=h.len;omega
theorem MoveAt.under {l:List Fl} {src dst:Str} {k:Nat} {m:List Fl} (h:MoveAt l src dst k m) (ht:Tiny l) (hs:∀ f ∈ l,f.1.length ≤ 44) (hk:k < l.length) (he:(l[k].1 == src) = false) (hb:(belowL l[k].1 src).isEmpty = false)
  (h5:¬ 5 < (splitL 47 (dst ++ 47 :: belowL l[k].1 src)).length):MoveAt l src dst (k + 1) (putL m (dst ++ 47 :: belowL l[k].1 src,l[k].2)):=by
 have hd:=(ht.2 l[k] (List.getElem_mem hk)).2
 have hs:=hs l[k] (List.getElem_mem hk)
 have hbl:=belowL_len l[k].1 src
 have hp:=putL_len_le m (dst ++ 47 :: belowL l[k].1 src,l[k].2)
 refine ⟨?_,?_,?_⟩
 ·rw [fold_take hk,h.eq,moveStep];simp [he,hb];omega
 ·rw [List.take_succ_eq_append_getElem hk,List.countP_append];have:=h.len;simp [movedB,hb];omega
 ·intro f hf;rcases putL_mem f hf with h1 | h1
  ·exact h.mem f h1
  ·subst h1;simp;omega
theorem MoveAt.deep {l:List Fl} {src dst:Str} {k:Nat} {m:List Fl} (h:MoveAt l src dst k m) (hk:k < l.length) (he:(l[k].1 == src) = false) (hb:(belowL l[k].1 src).isEmpty = false)
  (h5:5 < (splitL 47 (dst ++ 47 :: belowL l[k].1 src)).length):moveL l src dst = none:=by
 refine moveL_none (k:=k + 1) ?_
 rw [fold_take hk,h.eq,moveStep];simp [he,hb];omega
theorem MoveAt.small {l:List Fl} {src dst:Str} {k:Nat} {m:List Fl} (h:MoveAt l src dst k m) (ht:Tiny l) (hd:dst.length ≤ 44):Small m:=by
 have h1:=without_len l src
 have h2:=ht.1
 have h3:(l.take k).countP (movedB src) ≤ (l.take k).length:=List.countP_le_length
 have h4:(l.take k).length ≤ l.length:=by simp;omega
 refine ⟨by have:=h.len;omega,fun f hf => by have:=h.mem f hf;omega⟩
theorem MoveAt.tiny {l:List Fl} {src dst:Str} {m:List Fl} (h:MoveAt l src dst l.length m) (ht:Tiny l) (hd:dst.length ≤ 44):Tiny m:=by
 have h1:=without_count l src
 have h2:=ht.1
 have h3:=h.len
 rw [List.take_length] at h3
 exact ⟨by omega,fun f hf => by have:=h.mem f hf;omega⟩
theorem moveR_5 {r:RSt} {n:Int} {src dst:Str} {l:List Fl} (hf:findL r.all n = some l) (h1:isPathL src = true) (h2:isPathL dst = true) (h3:¬ (withoutL l src).length = l.length) (h4:0 ≤ getI l dst∨isDirL l dst = true∨crossedL l dst = true∨(src == dst) = true∨(belowL dst src).isEmpty = false):moveR r n src dst = (r,0,5):=by
 rw [moveR,hf];simp only;rw [if_neg (by simp [h1,h2]),if_neg h3,if_pos h4]
theorem moveR_go {r:RSt} {n:Int} {src dst:Str} {l:List Fl} (hf:findL r.all n = some l) (h1:isPathL src = true) (h2:isPathL dst = true) (h3:¬ (withoutL l src).length = l.length) (h4:¬ (0 ≤ getI l dst∨isDirL l dst = true∨crossedL l dst = true∨(src == dst) = true∨(belowL dst src).isEmpty = false)) :
  moveR r n src dst = match moveL l src dst with
   | none => (r,0,3)
   | some m => keepR r m:=by
 rw [moveR,hf];simp only;rw [if_neg (by simp [h1,h2]),if_neg h3,if_neg h4]
set_option maxHeartbeats 8000000 in
set_option maxRecDepth 20000 in
theorem refMove_any (b:Nat) (r:RSt) (va vr:Value) (sn:List (Nat × Value)) (n:Int) (src dst:Str) (w:World) (h:RefAt w b r va vr sn) (hmade:r.made < 4611686018427387904) (hshort:∀ x ∈ r.all,∀ f ∈ x.2,f.1.length ≤ 44) (hp:src.length < maxLen) (hq:dst.length < maxLen) :
  Calls Tryz.prog 99 #[.pointer (some ⟨b,0,none⟩),.int .i64 n,SV src,SV dst] w fun e w' => RefOut w b va vr sn (moveR r n src dst) e w':=by
 have H:Hid _:=h
 clear h
 have hp' : src.length ≤ maxLen:=by omega
 have hq' : dst.length ≤ maxLen:=by omega
 go_enter Tryz.func99,Tryz.ntmps99
 go_wp2_with fail
 refine (find_any b r va vr sn n _ H.out).mono ?_
 rintro e w1 ⟨rfl,hf⟩
 rcases hf with ⟨k,h1,h2,hfl,rfl⟩ | ⟨hfl,rfl⟩
 ·have hF:=H.out.fil k h1 h2
  have hT:=H.out.tiny r.all[k] (List.getElem_mem h2)
  have hS:=hshort r.all[k] (List.getElem_mem h2)
  have HS:Hid _:=hS
  have Hfl:Hid _:=hfl
  clear hshort hS hfl
  generalize r.all[k].2 = l at *
  generalize sn[k].2 = v at *
  obtain ⟨ao,cap,rfl⟩:=row_form hF
  have hl20:=hT.1
  clear h1 h2
  go_wp2_with fail
  refine (isPath_any src _ hp').mono ?_
  rintro e w2 ⟨rfl,hb2⟩
  go_wp2_with fail
  refine (isPath_any dst _ hq').mono ?_
  rintro e w3 ⟨rfl,hb3⟩
  have hb:Below w1.heap.size w1 w3:=hb2.trans (hb3.mono hb2.size)
  have hF3:=files_below hF hb (Nat.le_refl _)
  clear hb2 hb3
  cases hpa:isPathL src
  ·have R:Hid (moveR r n src dst = (r,0,3)):=by rw [Hid,moveR,Hfl.out];simp only;rw [if_pos (.inl hpa)]
   go_wp2_with fail
   go_ret2
   exact refOut_no H.out hb R.out rfl
  cases hpb:isPathL dst
  ·have R:Hid (moveR r n src dst = (r,0,3)):=by rw [Hid,moveR,Hfl.out];simp only;rw [if_pos (.inr hpb)]
   go_wp2_with fail
   go_ret2
   exact refOut_no H.out hb R.out rfl
  have hd44:=isPathL_44 hpb
  have hl2:=without_len l src
  go_wp2_with fail
  refine (without_any l _ src _ hF3 hT.small hp).mono ?_
  rintro e w4 ⟨v4,rfl,hown4,hb4⟩
  have hB4:=hb.trans (hb4.mono hb.size)
  have hF4:=files_below hF3 hb4 (Nat.le_refl _)
  have hfr:∀ k,v4.ownBlock = some k→w1.heap.size ≤ k:=fun k hk => Nat.le_trans hb.size (row_fresh hown4 k hk)
  have hM4:FilesAt w4 v4 (withoutL l src):=ownsRow_le hown4 (Nat.zero_le _)
  obtain ⟨ao4,cap4,rfl⟩:=row_form hown4
  clear hown4 hb4 hb
  cases he:(((withoutL l src).length:Int) == (l.length:Int))
  ·have h3:¬ (withoutL l src).length = l.length:=by intro e;rw [e] at he;simp at he
   have H3:Hid _:=h3
   clear h3
   go_wp2_with fail
   refine (isDir_any l _ dst _ hF4 hT.small hq).mono ?_
   rintro e w5 ⟨rfl,hb5⟩
   have hF5:=files_below hF4 hb5 (Nat.le_refl _)
   go_wp2_with fail
   refine (crossed_any l _ dst _ hF5 hT.small hq').mono ?_
   rintro e w6 ⟨rfl,rfl⟩
   have hB5:=hB4.trans (hb5.mono hB4.size)
   go_wp2_with fail
   refine (get_any l _ dst _ hF5).mono ?_
   rintro e w7 ⟨rfl,rfl⟩
   have hM5:=files_below hM4 hb5 (Nat.le_refl _)
   clear hb5 hF4 hM4 hF3
   by_cases h4:0 ≤ getI l dst∨isDirL l dst = true∨crossedL l dst = true∨(src == dst) = true∨(belowL dst src).isEmpty = false
   ·have R:Hid _:=moveR_5 Hfl.out hpa hpb H3.out h4
    by_cases g1:0 ≤ getI l dst
    ·go_wp2_with fail
     go_ret2
     exact refOut_no H.out hB5 R.out rfl
    cases g2:isDirL l dst
    ·cases g3:crossedL l dst
     ·cases g4:(src == dst)
      ·have g5:(belowL dst src).isEmpty = false:=by simpa [g1,g2,g3,g4] using h4
       clear h4
       go_wp2_with (go_at_call 133;refine (below_any dst src _ hq' hp).mono ?_;rintro e w8 ⟨rfl,rfl⟩)
       go_ret2
       exact refOut_no H.out hB5 R.out rfl
      ·clear h4
       go_wp2_with fail
       go_ret2
       exact refOut_no H.out hB5 R.out rfl
     ·clear h4
      go_wp2_with fail
      go_ret2
      exact refOut_no H.out hB5 R.out rfl
    ·clear h4
     go_wp2_with fail
     go_ret2
     exact refOut_no H.out hB5 R.out rfl
   ·have R:Hid _:=moveR_go Hfl.out hpa hpb H3.out h4
    have g1:¬ 0 ≤ getI l dst:=fun h => h4 (.inl h)
    have g2:isDirL l dst = false:=by cases h:isDirL l dst;rfl;exact absurd (.inr (.inl h)) h4
    have g3:crossedL l dst = false:=by cases h:crossedL l dst;rfl;exact absurd (.inr (.inr (.inl h))) h4
    have g4:(src == dst) = false:=by cases h:(src == dst);rfl;exact absurd (.inr (.inr (.inr (.inl h)))) h4
    have g5:(belowL dst src).isEmpty = true:=by cases h:(belowL dst src).isEmpty;exact absurd (.inr (.inr (.inr (.inr h)))) h4;rfl
    clear h4
    go_wp2_with (go_at_call 133;refine (below_any dst src _ hq' hp).mono ?_;rintro e w8 ⟨rfl,rfl⟩)
    obtain ⟨ao',cap',hv',hm,hc,hcell⟩:=files_view hF
    simp only [Value.slice.injEq] at hv'
    obtain ⟨rfl,_,rfl⟩:=hv'
    have hApp:=app_list
    clear g1 g2 g3 g4 g5 hF5
    go_loopw [14,17] (fun v i wr => ∃ (k:Nat) (m:List Fl),k ≤ l.length∧i = .int .i64 k∧MoveAt l src dst k m∧FilesAt wr v m∧(∀ j,v.ownBlock = some j→w1.heap.size ≤ j)∧Below w1.heap.size w1 wr) (fun _ i _ => l.length - (intOf i).toNat)
    case atStart => exact ⟨0,_,Nat.zero_le _,rfl,MoveAt.start hT HS.out,hM5,hfr,hB5⟩
    case round =>
     clear hM5 hB5 hfr
     obtain ⟨k,m,hk,rfl,hMA,hFm,hfr,hB⟩:=hrel
     have hsm:=hMA.small hT hd44
     by_cases hlt:k < l.length
     ·obtain ⟨g,rfl,hg,hpc,hdc⟩:=hcell k hlt
      have hpc':=(hB.cell (p:=⟨g,k * 2,none⟩) hg).trans hpc
      have hdc':=(hB.cell (p:=⟨g,k * 2 + 1,none⟩) hg).trans hdc
      have h44:=HS.out l[k] (List.getElem_mem hlt)
      have h30:=(hT.2 l[k] (List.getElem_mem hlt)).2
      have hbl:=belowL_len l[k].1 src
      have hml:l[k].1.length ≤ maxLen:=by unfold maxLen;omega
      cases he1:(l[k].1 == src)
      ·cases hbe:(belowL l[k].1 src).isEmpty
       ·by_cases h5:5 < (splitL 47 (dst ++ 47 :: belowL l[k].1 src)).length
        ·have N:Hid _:=hMA.deep hlt he1 hbe h5
         have R2:Hid (moveR r n src dst = (r,0,3)):=by rw [Hid,R.out,N.out]
         clear hMA N
         clear hcell
         go_wp2_with fail
         refine (below_any l[k].1 src _ hml hp).mono ?_
         rintro e w8 ⟨rfl,rfl⟩
         go_wp2_with fail
         refine (put_any m _ (dst ++ 47 :: belowL l[k].1 src,l[k].2) _ hFm hsm (by simp;omega)).mono ?_
         rintro e w9 ⟨v9,rfl,hown9,hb9⟩
         have hB9:=hB.trans (hb9.mono hB.size)
         have hfr9:∀ j,v9.ownBlock = some j→w1.heap.size ≤ j:=fun j hj => Nat.le_trans hB.size (row_fresh hown9 j hj)
         have hF9:FilesAt w9 v9 (putL m (dst ++ 47 :: belowL l[k].1 src,l[k].2)):=ownsRow_le hown9 (Nat.zero_le _)
         clear hown9 hb9 hpc' hdc' hB hfr hFm
         go_wp2_with fail
         refine (split_any (dst ++ 47 :: belowL l[k].1 src) 47 _ (by simp;omega)).mono ?_
         rintro e wa ⟨va2,rfl,howna,hba⟩
         have hBa:=hB9.trans (hba.mono hB9.size)
         have hFa:=files_below hF9 hba (Nat.le_refl _)
         obtain ⟨aoa,capa,rfl⟩:=row_form howna
         clear howna hba hB9 hF9
         generalize (splitL 47 (dst ++ 47 :: belowL l[k].1 src)).length = L at *
         go_wp2_with fail
         go_ret2
         exact refOut_no H.out hBa R2.out rfl
        ·have N:=hMA.under hT HS.out hlt he1 hbe h5
         clear hMA
         clear hcell
         go_wp2_with fail
         refine (below_any l[k].1 src _ hml hp).mono ?_
         rintro e w8 ⟨rfl,rfl⟩
         go_wp2_with fail
         refine (put_any m _ (dst ++ 47 :: belowL l[k].1 src,l[k].2) _ hFm hsm (by simp;omega)).mono ?_
         rintro e w9 ⟨v9,rfl,hown9,hb9⟩
         have hB9:=hB.trans (hb9.mono hB.size)
         have hfr9:∀ j,v9.ownBlock = some j→w1.heap.size ≤ j:=fun j hj => Nat.le_trans hB.size (row_fresh hown9 j hj)
         have hF9:FilesAt w9 v9 (putL m (dst ++ 47 :: belowL l[k].1 src,l[k].2)):=ownsRow_le hown9 (Nat.zero_le _)
         clear hown9 hb9 hpc' hdc' hB hfr hFm
         go_wp2_with fail
         refine (split_any (dst ++ 47 :: belowL l[k].1 src) 47 _ (by simp;omega)).mono ?_
         rintro e wa ⟨va2,rfl,howna,hba⟩
         have hBa:=hB9.trans (hba.mono hB9.size)
         have hFa:=files_below hF9 hba (Nat.le_refl _)
         obtain ⟨aoa,capa,rfl⟩:=row_form howna
         clear howna hba hB9 hF9
         generalize (splitL 47 (dst ++ 47 :: belowL l[k].1 src)).length = L at *
         go_wp2_with fail
         go_roundw
         case rel => exact ⟨k + 1,_,by omega,by go_num,N,hFa,hfr9,hBa⟩
         case measure => simp [intOf];omega
       ·have N:=hMA.pass hlt he1 hbe
        clear hMA hcell
        go_wp2_with (go_at_call 133;refine (below_any l[k].1 src _ hml hp).mono ?_;rintro e w8 ⟨rfl,rfl⟩)
        go_roundw
        case rel => exact ⟨k + 1,m,by omega,by go_num,N,hFm,hfr,hB⟩
        case measure => simp [intOf];omega
      ·have N:=hMA.file hT hlt he1
       clear hMA hcell
       go_wp2_with fail
       refine (below_any l[k].1 src _ hml hp).mono ?_
       rintro e w8 ⟨rfl,rfl⟩
       go_wp2_with fail
       refine (put_any m _ (dst,l[k].2) _ hFm hsm (by simp only;omega)).mono ?_
       rintro e w9 ⟨v9,rfl,hown9,hb9⟩
       have hB9:=hB.trans (hb9.mono hB.size)
       have hfr9:∀ j,v9.ownBlock = some j→w1.heap.size ≤ j:=fun j hj => Nat.le_trans hB.size (row_fresh hown9 j hj)
       have hF9:FilesAt w9 v9 (putL m (dst,l[k].2)):=ownsRow_le hown9 (Nat.zero_le _)
       clear hown9 hb9 hpc' hdc' hB hfr hFm
       go_wp2_with fail
       go_roundw
       case rel => exact ⟨k + 1,_,by omega,by go_num,N,hF9,hfr9,hB9⟩
       case measure => simp [intOf];omega
     ·have hke:k = l.length:=by omega
      subst hke
      have hmeq:Hid (moveL l src dst = some m):=by have:=hMA.eq;rw [List.take_length] at this;exact this
      have hTm:=hMA.tiny hT hd44
      have R2:Hid (moveR r n src dst = keepR r m):=by rw [Hid,R.out,hmeq.out]
      have hH:=H.out.later hB (Nat.le_refl _)
      clear hMA hcell hlt hk hmeq
      go_wp2_with fail
      refine (keep_any b r va vr sn _ m _ hH hFm hTm hmade).mono ?_
      intro e w7 hk
      have hO:=refOut_keep hB hfr hk R2.out
      clear hk
      obtain ⟨va',sn',rfl,hO⟩:=hO
      go_wp2_with fail
      go_ret2
      exact ⟨va',sn',rfl,hO⟩
  ·have R:Hid (moveR r n src dst = (r,0,6)):=by
    rw [Hid,moveR,Hfl.out];simp only;rw [if_neg (by simp [hpa,hpb]),if_pos];simp at he;omega
   go_wp2_with fail
   go_ret2
   exact refOut_no H.out hB4 R.out rfl
 ·have R:Hid (moveR r n src dst = (r,0,2)):=by rw [Hid,moveR,hfl]
  clear hfl
  go_wp2
  go_ret2
  exact refOut_no H.out (Below.refl _ _) R.out rfl

open Go.RowKit
def isPlaceL (s:Str):Bool:=isPathL s || (s == [47])
set_option maxHeartbeats 1000000 in
theorem isPlace_any (s:Str) (w:World) (hs:s.length ≤ maxLen) :
  Calls Tryz.prog 136 #[SV s] w fun e w' => e = .returned (.bool (isPlaceL s))∧Below w.heap.size w w':=by
 go_enter Tryz.func136,Tryz.ntmps136
 go_wp2_with fail
 refine (isPath_any s _ hs).mono ?_
 rintro e w1 ⟨rfl,hb1⟩
 cases h:isPathL s
 ·have R:Hid (isPlaceL s = (s == [47])):=by rw [Hid,isPlaceL,h];rfl
  go_wp2
  go_ret
  exact ⟨by rw [R.out];rfl,hb1⟩
 ·have R:Hid (isPlaceL s = true):=by rw [Hid,isPlaceL,h];rfl
  go_wp2
  go_ret
  exact ⟨by rw [R.out];rfl,hb1⟩
def dataAt (l:List Fl) (x:Int):Str:=match l[x.toNat]? with
 | some f => f.2
 | none => []
def sameF (l m:List Fl) (p:Str):Bool × Nat :=
 if (getI l p < 0∧isDirL l p = false)∨(getI m p < 0∧isDirL m p = false) then (false,6)
 else if 0 ≤ getI l p∧0 ≤ getI m p then (dataAt l (getI l p) == dataAt m (getI m p),0)
 else if isDirL l p = true∧isDirL m p = true then (spellL (inL l p) == spellL (inL m p),0)
 else (false,0)
def sameR (r:RSt) (a b:Int) (p:Str):Bool × Nat :=
 match findL r.all a,findL r.all b with
 | some l,some m => if isPlaceL p = false then (false,3) else sameF l m p
 | _,_ => (false,2)
theorem getI_lt {l:List Fl} {p:Str} (h:0 ≤ getI l p):∃ k:Nat,getI l p = (k:Int)∧k < l.length:=by
 unfold getI at h ⊢
 split
 ·rename_i k hk
  unfold getL at hk
  rw [List.findIdx?_eq_some_iff_getElem] at hk
  exact ⟨k,rfl,hk.1⟩
 ·rename_i hk;rw [hk] at h;simp at h
def SameOut (w:World) (o:Bool × Nat) (e:Ending) (w' : World):Prop:=e = .returned (.tuple #[.bool o.1,.int .i64 o.2])∧Below w.heap.size w w'
set_option maxHeartbeats 8000000 in
set_option maxRecDepth 20000 in
theorem refSame_any (b:Nat) (r:RSt) (va vr:Value) (sn:List (Nat × Value)) (i j:Int) (p:Str) (w:World) (h:RefAt w b r va vr sn) (hp:p.length < maxLen) :
  Calls Tryz.prog 102 #[.pointer (some ⟨b,0,none⟩),.int .i64 i,.int .i64 j,SV p] w fun e w' => SameOut w (sameR r i j p) e w':=by
 have H:Hid _:=h
 clear h
 have hp' : p.length ≤ maxLen:=by omega
 go_enter Tryz.func102,Tryz.ntmps102
 go_wp2_with fail
 refine (find_any b r va vr sn i _ H.out).mono ?_
 rintro e w1 ⟨rfl,hf⟩
 rcases hf with ⟨k,h1,h2,hfl,rfl⟩ | ⟨hfl,rfl⟩
 ·have hF:=H.out.fil k h1 h2
  have hT:=H.out.tiny r.all[k] (List.getElem_mem h2)
  generalize r.all[k].2 = l at *
  generalize sn[k].2 = v at *
  obtain ⟨ao,cap,rfl⟩:=row_form hF
  have Hfl:Hid _:=hfl
  clear h1 h2 hfl
  go_wp2_with fail
  refine (find_any b r va vr sn j _ H.out).mono ?_
  rintro e w2 ⟨rfl,hf⟩
  rcases hf with ⟨k2,h1,h2,hfm,rfl⟩ | ⟨hfm,rfl⟩
  ·have hG:=H.out.fil k2 h1 h2
   have hU:=H.out.tiny r.all[k2] (List.getElem_mem h2)
   generalize r.all[k2].2 = m at *
   generalize sn[k2].2 = v2 at *
   obtain ⟨ao2,cap2,rfl⟩:=row_form hG
   have RR:Hid (sameR r i j p = if isPlaceL p = false then (false,3) else sameF l m p):=by rw [Hid,sameR,Hfl.out,hfm]
   clear h1 h2 hfm Hfl
   go_wp2_with fail
   refine (isPlace_any p _ hp').mono ?_
   rintro e w3 ⟨rfl,hb3⟩
   cases hpl:isPlaceL p
   ·have R:Hid (sameR r i j p = (false,3)):=by rw [Hid,RR.out,if_pos hpl]
    go_wp2_with fail
    go_ret2
    exact ⟨by rw [R.out];rfl,hb3⟩
   have hF3:=files_below hF hb3 (Nat.le_refl _)
   have hG3:=files_below hG hb3 (Nat.le_refl _)
   go_wp2_with fail
   refine (get_any l _ p _ hF3).mono ?_
   rintro e w4 ⟨rfl,rfl⟩
   go_wp2_with fail
   refine (get_any m _ p _ hG3).mono ?_
   rintro e w5 ⟨rfl,rfl⟩
   go_wp2_with fail
   refine (isDir_any l _ p _ hF3 hT.small hp).mono ?_
   rintro e w6 ⟨rfl,hb6⟩
   have hG6:=files_below hG3 hb6 (Nat.le_refl _)
   have hF6:=files_below hF3 hb6 (Nat.le_refl _)
   go_wp2_with fail
   refine (isDir_any m _ p _ hG6 hU.small hp).mono ?_
   rintro e w7 ⟨rfl,hb7⟩
   have hG7:=files_below hG6 hb7 (Nat.le_refl _)
   have hF7:=files_below hF6 hb7 (Nat.le_refl _)
   have hB:Below w2.heap.size w2 w7:=(hb3.trans (hb6.mono hb3.size)).trans (hb7.mono (Nat.le_trans hb3.size hb6.size))
   have RS:Hid (sameR r i j p = sameF l m p):=by rw [Hid,RR.out,if_neg (by simp [hpl])]
   clear hb3 hb6 hb7 hF3 hG3 hF6 hG6 hF hG RR
   by_cases hx:getI l p < 0
   ·by_cases hy:getI m p < 0
    ·cases hd:isDirL l p <;> cases he:isDirL m p
     ·have RF:Hid (sameF l m p = (false,6)):=by rw [Hid,sameF,if_pos (.inl ⟨hx,hd⟩)]
      go_wp2_with fail
      go_ret2
      exact ⟨by rw [RS.out,RF.out];rfl,hB⟩
     ·have RF:Hid (sameF l m p = (false,6)):=by rw [Hid,sameF,if_pos (.inl ⟨hx,hd⟩)]
      go_wp2_with fail
      go_ret2
      exact ⟨by rw [RS.out,RF.out];rfl,hB⟩
     ·have RF:Hid (sameF l m p = (false,6)):=by rw [Hid,sameF,if_pos (.inr ⟨hy,he⟩)]
      go_wp2_with fail
      go_ret2
      exact ⟨by rw [RS.out,RF.out];rfl,hB⟩
     ·have RF:Hid (sameF l m p = (spellL (inL l p) == spellL (inL m p),0)):=by rw [Hid,sameF,if_neg (by simp [hd,he]),if_neg (by omega),if_pos ⟨hd,he⟩]
      have hpm:p.length < maxLen:=hp
      have hti:=in_tiny hT p
      have hui:=in_tiny hU p
      go_wp2_with fail
      refine (in_any l _ p _ hF7 hT.small hp).mono ?_
      rintro e w8 ⟨v8,rfl,hown8,hb8⟩
      have hF8:FilesAt w8 v8 (inL l p):=ownsRow_le hown8 (Nat.zero_le _)
      have hG8:=files_below hG7 hb8 (Nat.le_refl _)
      have hB8:=hB.trans (hb8.mono hB.size)
      clear hown8 hb8
      go_wp2_with fail
      refine (spell_any _ v8 _ hF8 hti.small (fun f hf => by have:=hti.2 f hf;omega)).mono ?_
      rintro e w9 ⟨rfl,hb9⟩
      have hG9:=files_below hG8 hb9 (Nat.le_refl _)
      have hB9:=hB8.trans (hb9.mono hB8.size)
      clear hb9 hF8 hG8 hB8
      go_wp2_with fail
      refine (in_any m _ p _ hG9 hU.small hp).mono ?_
      rintro e wa ⟨v9,rfl,hown9,hba⟩
      have hGa:FilesAt wa v9 (inL m p):=ownsRow_le hown9 (Nat.zero_le _)
      have hBa:=hB9.trans (hba.mono hB9.size)
      clear hown9 hba
      go_wp2_with fail
      refine (spell_any _ v9 _ hGa hui.small (fun f hf => by have:=hui.2 f hf;omega)).mono ?_
      rintro e wb ⟨rfl,hbb⟩
      have hBb:=hBa.trans (hbb.mono hBa.size)
      clear hbb hGa
      go_wp2_with fail
      go_ret2
      exact ⟨by rw [RS.out,RF.out];rfl,hBb⟩
    ·cases hd:isDirL l p <;> cases he:isDirL m p
     ·have RF:Hid (sameF l m p = (false,6)):=by rw [Hid,sameF,if_pos (.inl ⟨hx,hd⟩)]
      go_wp2_with fail
      go_ret2
      exact ⟨by rw [RS.out,RF.out];rfl,hB⟩
     ·have RF:Hid (sameF l m p = (false,6)):=by rw [Hid,sameF,if_pos (.inl ⟨hx,hd⟩)]
      go_wp2_with fail
      go_ret2
      exact ⟨by rw [RS.out,RF.out];rfl,hB⟩
     ·have RF:Hid (sameF l m p = (false,0)):=by rw [Hid,sameF,if_neg (by simp [hd,hy]),if_neg (by omega),if_neg (by simp [he])]
      go_wp2_with fail
      go_ret2
      exact ⟨by rw [RS.out,RF.out];rfl,hB⟩
     ·have RF:Hid (sameF l m p = (spellL (inL l p) == spellL (inL m p),0)):=by rw [Hid,sameF,if_neg (by simp [hd,he]),if_neg (by omega),if_pos ⟨hd,he⟩]
      have hpm:p.length < maxLen:=hp
      have hti:=in_tiny hT p
      have hui:=in_tiny hU p
      go_wp2_with fail
      refine (in_any l _ p _ hF7 hT.small hp).mono ?_
      rintro e w8 ⟨v8,rfl,hown8,hb8⟩
      have hF8:FilesAt w8 v8 (inL l p):=ownsRow_le hown8 (Nat.zero_le _)
      have hG8:=files_below hG7 hb8 (Nat.le_refl _)
      have hB8:=hB.trans (hb8.mono hB.size)
      clear hown8 hb8
      go_wp2_with fail
      refine (spell_any _ v8 _ hF8 hti.small (fun f hf => by have:=hti.2 f hf;omega)).mono ?_
      rintro e w9 ⟨rfl,hb9⟩
      have hG9:=files_below hG8 hb9 (Nat.le_refl _)
      have hB9:=hB8.trans (hb9.mono hB8.size)
      clear hb9 hF8 hG8 hB8
      go_wp2_with fail
      refine (in_any m _ p _ hG9 hU.small hp).mono ?_
      rintro e wa ⟨v9,rfl,hown9,hba⟩
      have hGa:FilesAt wa v9 (inL m p):=ownsRow_le hown9 (Nat.zero_le _)
      have hBa:=hB9.trans (hba.mono hB9.size)
      clear hown9 hba
      go_wp2_with fail
      refine (spell_any _ v9 _ hGa hui.small (fun f hf => by have:=hui.2 f hf;omega)).mono ?_
      rintro e wb ⟨rfl,hbb⟩
      have hBb:=hBa.trans (hbb.mono hBa.size)
      clear hbb hGa
      go_wp2_with fail
      go_ret2
      exact ⟨by rw [RS.out,RF.out];rfl,hBb⟩
   ·by_cases hy:getI m p < 0
    ·cases hd:isDirL l p <;> cases he:isDirL m p
     ·have RF:Hid (sameF l m p = (false,6)):=by rw [Hid,sameF,if_pos (.inr ⟨hy,he⟩)]
      go_wp2_with fail
      go_ret2
      exact ⟨by rw [RS.out,RF.out];rfl,hB⟩
     ·have RF:Hid (sameF l m p = (false,0)):=by rw [Hid,sameF,if_neg (by simp [he,hx]),if_neg (by omega),if_neg (by simp [hd])]
      go_wp2_with fail
      go_ret2
      exact ⟨by rw [RS.out,RF.out];rfl,hB⟩
     ·have RF:Hid (sameF l m p = (false,6)):=by rw [Hid,sameF,if_pos (.inr ⟨hy,he⟩)]
      go_wp2_with fail
      go_ret2
      exact ⟨by rw [RS.out,RF.out];rfl,hB⟩
     ·have RF:Hid (sameF l m p = (spellL (inL l p) == spellL (inL m p),0)):=by rw [Hid,sameF,if_neg (by simp [hd,he]),if_neg (by omega),if_pos ⟨hd,he⟩]
      have hpm:p.length < maxLen:=hp
      have hti:=in_tiny hT p
      have hui:=in_tiny hU p
      go_wp2_with fail
      refine (in_any l _ p _ hF7 hT.small hp).mono ?_
      rintro e w8 ⟨v8,rfl,hown8,hb8⟩
      have hF8:FilesAt w8 v8 (inL l p):=ownsRow_le hown8 (Nat.zero_le _)
      have hG8:=files_below hG7 hb8 (Nat.le_refl _)
      have hB8:=hB.trans (hb8.mono hB.size)
      clear hown8 hb8
      go_wp2_with fail
      refine (spell_any _ v8 _ hF8 hti.small (fun f hf => by have:=hti.2 f hf;omega)).mono ?_
      rintro e w9 ⟨rfl,hb9⟩
      have hG9:=files_below hG8 hb9 (Nat.le_refl _)
      have hB9:=hB8.trans (hb9.mono hB8.size)
      clear hb9 hF8 hG8 hB8
      go_wp2_with fail
      refine (in_any m _ p _ hG9 hU.small hp).mono ?_
      rintro e wa ⟨v9,rfl,hown9,hba⟩
      have hGa:FilesAt wa v9 (inL m p):=ownsRow_le hown9 (Nat.zero_le _)
      have hBa:=hB9.trans (hba.mono hB9.size)
      clear hown9 hba
      go_wp2_with fail
      refine (spell_any _ v9 _ hGa hui.small (fun f hf => by have:=hui.2 f hf;omega)).mono ?_
      rintro e wb ⟨rfl,hbb⟩
      have hBb:=hBa.trans (hbb.mono hBa.size)
      clear hbb hGa
      go_wp2_with fail
      go_ret2
      exact ⟨by rw [RS.out,RF.out];rfl,hBb⟩
    ·obtain ⟨k1,hk1,hl1⟩:=getI_lt (show 0 ≤ getI l p by omega)
     obtain ⟨k2,hk2,hl2⟩:=getI_lt (show 0 ≤ getI m p by omega)
     have RF:Hid (sameF l m p = (l[k1].2 == m[k2].2,0)):=by
      rw [Hid,sameF,if_neg (by omega),if_pos (by omega),hk1,hk2,dataAt,dataAt,Int.toNat_natCast,Int.toNat_natCast,List.getElem?_eq_getElem hl1,List.getElem?_eq_getElem hl2]
     obtain ⟨a1,c1,e1,_,hc1,hv1⟩:=files_view hF7
     obtain ⟨a2,c2,e2,_,hc2,hv2⟩:=files_view hG7
     simp only [Value.slice.injEq] at e1 e2
     obtain ⟨rfl,_,rfl⟩:=e1
     obtain ⟨rfl,_,rfl⟩:=e2
     obtain ⟨g1,rfl,hg1,_,hd1⟩:=hv1 k1 hl1
     obtain ⟨g2,rfl,hg2,_,hd2⟩:=hv2 k2 hl2
     clear hv1 hv2 hF7 hG7
     have hx' : ¬ ((k1:Int) < 0):=by omega
     have hy' : ¬ ((k2:Int) < 0):=by omega
     clear hx hy
     have i1:(k1:Int) < (l.length:Int):=by omega
     have i2:(k2:Int) < (m.length:Int):=by omega
     have j1:(0:Int) ≤ k1:=by omega
     have j2:(0:Int) ≤ k2:=by omega
     go_wp2_with fail
     go_quiet (fail)
     go_wp2_with fail
     go_ret2
     exact ⟨by rw [RS.out,RF.out];rfl,below_drewN hB _⟩
  ·have R:Hid (sameR r i j p = (false,2)):=by rw [Hid,sameR,Hfl.out,hfm]
   clear hfm Hfl
   go_wp2_with fail
   go_ret2
   exact ⟨by rw [R.out];rfl,Below.refl _ _⟩
 ·have R:Hid (sameR r i j p = (false,2)):=by rw [Hid,sameR,hfl]
  clear hfl
  go_wp2_with fail
  refine (find_any b r va vr sn j _ H.out).mono ?_
  rintro e w2 ⟨rfl,hf⟩
  rcases hf with ⟨k2,h1,h2,hfm,rfl⟩ | ⟨hfm,rfl⟩
  ·have hG:=H.out.fil k2 h1 h2
   generalize sn[k2].2 = v2 at *
   obtain ⟨ao2,cap2,rfl⟩:=row_form hG
   clear hfm
   go_wp2_with fail
   go_ret2
   exact ⟨by rw [R.out];rfl,Below.refl _ _⟩
  ·clear hfm
   go_wp2_with fail
   go_ret2
   exact ⟨by rw [R.out];rfl,Below.refl _ _⟩
end Go.Proofs.YtdcbgfhkfmohiaaGreatDoor
