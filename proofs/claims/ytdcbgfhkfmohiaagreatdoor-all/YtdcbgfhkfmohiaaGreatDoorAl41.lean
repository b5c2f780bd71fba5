/- isLaid, at texts; fits. -/
import Derived.Test.YtdcbgfhkfmohiaaGreatDoorAl33
import Derived.Test.YtdcbgfhkfmohiaaGreatDoorAl35
import Derived.Lib.QuietBelow
import Derived.BigQuiet
namespace Go.Proofs.YtdcbgfhkfmohiaaGreatDoor
open Go.RowKit Go.Sort
def NamesIn (w:World) (g o:Nat) (xs:List Str):Prop:=g < w.heap.size∧∀ k (h:k < xs.length),w.cell? ⟨g,o + k,none⟩ = some (SV xs[k])
theorem NamesIn.drop {w:World} {g o:Nat} {xs:List Str} (h:NamesIn w g o xs) (k:Nat):NamesIn w g (o + k) (xs.drop k):=by
 refine ⟨h.1,?_⟩
 intro j hj
 have hj' : j + k < xs.length:=by simp at hj;omega
 have:=h.2 (j + k) hj'
 rw [List.getElem_drop,show o + k + j = o + (j + k) by omega,this]
 congr 2
 simp [Nat.add_comm]
theorem NamesIn.head {w:World} {g o:Nat} {x:Str} {xs:List Str} (h:NamesIn w g o (x :: xs)):w.cell? ⟨g,o,none⟩ = some (SV x):=h.2 0 (by simp)
theorem NamesIn.below {w w' : World} {g o:Nat} {xs:List Str} (h:NamesIn w g o xs) (hb:Below w.heap.size w w'):NamesIn w' g o xs :=
 ⟨Nat.lt_of_lt_of_le h.1 hb.size,fun k hk => (hb.cell (p:=⟨g,o + k,none⟩) h.1).trans (h.2 k hk)⟩
theorem NamesIn.cut {w:World} {g o:Nat} {xs:List Str} (h:NamesIn w g o xs) (k:Nat) (c:Prop) [Decidable c] (hc:c→xs.length ≤ k):∃ o',(if c then some (⟨g,o,none⟩ : Addr) else some ⟨g,o + k,none⟩) = some ⟨g,o',none⟩∧NamesIn w g o' (xs.drop k):=by
 by_cases h0:c
 ·exact ⟨o,by rw [if_pos h0],by rw [List.drop_eq_nil_of_le (hc h0)];exact ⟨h.1,fun j hj => by simp at hj⟩⟩
 ·exact ⟨o + k,by rw [if_neg h0],h.drop k⟩
theorem laid_nilS (xs:List Str):laidL runS spelledL [] xs = decide (xs.length = 0):=by cases xs <;> simp [laidL]
theorem laid_consS {p x:Str} {ps xs:List Str} (h:runS p = false):laidL runS spelledL (p :: ps) (x :: xs) = (spelledL p x && laidL runS spelledL ps xs):=by simp [laidL,h]
theorem laid_endS {p:Str} {ps:List Str} (h:runS p = false):laidL runS spelledL (p :: ps) [] = false:=by simp [laidL,h]
theorem laid_hitS {p:Str} {ps xs:List Str} {k:Nat} (h:runS p = true) (hk:k ≤ xs.length) (hl:laidL runS spelledL ps (xs.drop k) = true):laidL runS spelledL (p :: ps) xs = true:=by
 simp only [laidL,h,if_true]
 exact List.any_eq_true.2 ⟨k,by simp;omega,hl⟩
theorem laid_missS {p:Str} {ps xs:List Str} (h:runS p = true) (hl:∀ k,k ≤ xs.length→laidL runS spelledL ps (xs.drop k) = false):laidL runS spelledL (p :: ps) xs = false:=by
 simp only [laidL,h,if_true]
 exact List.any_eq_false.2 fun k hk => by simp at hk;rw [hl k (by omega)];simp
def LaidSIn (w:World) (xs ps:List Str) (gi oi ci gp op cp:Nat):Prop:=∀ W,Below w.heap.size w W→Calls Tryz.prog 149 #[.slice (some ⟨gi,oi,none⟩) xs.length ci,.slice (some ⟨gp,op,none⟩) ps.length cp,SV [42,42],.func (.func 150) #[] #[]] W fun e w' => e = .returned (.bool (laidL runS spelledL ps xs))∧Below W.heap.size W w'
set_option maxHeartbeats 8000000 in
set_option maxRecDepth 50000 in
theorem laidS_end (p:Str) (ps:List Str) (gp op cp gi oi ci:Nat) (w:World) (c0:w.cell? ⟨gp,op,none⟩ = some (SV p)) (_hpi:((ps.length:Int) + 1) ≤ ((cp:Int) + 1)) (h5:ps.length ≤ 1000) (hs:runS p = false) :
  Calls Tryz.prog 149 #[.slice (some ⟨gi,oi,none⟩) 0 ci,.slice (some ⟨gp,op,none⟩) (ps.length + 1) (cp + 1),SV [42,42],.func (.func 150) #[] #[]] w fun e w' => e = .returned (.bool (laidL runS spelledL (p :: ps) []))∧Below w.heap.size w w':=by
 have hs' : (p == [42,42]) = false:=hs
 have R:Hid _:=laid_endS (ps:=ps) hs
 go_enter Tryz.func149,Tryz.ntmps149
 go_wp2_with fail
 go_quiet (fail)
 go_wp2
 go_ret
 exact ⟨by rw [R.out];rfl,below_drewN (Below.refl _ _) _⟩
set_option maxHeartbeats 8000000 in
set_option maxRecDepth 50000 in
theorem laidS_one (p x:Str) (ps xs:List Str) (gp op cp' op1 gi oi ci' oi1:Nat) (w:World) (c0:w.cell? ⟨gp,op,none⟩ = some (SV p)) (cx:w.cell? ⟨gi,oi,none⟩ = some (SV x))
  (h1:ps.length ≤ cp') (h3:xs.length ≤ ci') (_h4:ci' + 1 ≤ 9223372036854775807) (_h2:cp' + 1 ≤ 9223372036854775807) (h5:ps.length ≤ 1000) (h6:xs.length ≤ 1000) (h7p:p.length ≤ 1000) (h8x:x.length ≤ 1000)
  (ep1:(if cp' = 0 then some (⟨gp,op,none⟩ : Addr) else some ⟨gp,op + 1,none⟩) = some ⟨gp,op1,none⟩) (ei1:(if ci' = 0 then some (⟨gi,oi,none⟩ : Addr) else some ⟨gi,oi + 1,none⟩) = some ⟨gi,oi1,none⟩)
  (hs:runS p = false) (hI:LaidSIn w xs ps gi oi1 ci' gp op1 cp') :
  Calls Tryz.prog 149 #[.slice (some ⟨gi,oi,none⟩) (xs.length + 1) (ci' + 1),.slice (some ⟨gp,op,none⟩) (ps.length + 1) (cp' + 1),SV [42,42],.func (.func 150) #[] #[]] w fun e w' => e = .returned (.bool (laidL runS spelledL (p :: ps) (x :: xs)))∧Below w.heap.size w w':=by
 have hE:∀ args W,(callFunc 150 args).run Tryz.prog W = .ok (.enter 150 args) W:=enters_of Tryz.func150 (by kernel_rfl) rfl
 have hs' : (p == [42,42]) = false:=hs
 have hpi:((ps.length:Int) + 1) ≤ ((cp' : Int) + 1):=by omega
 have hp1:(1:Int) ≤ ((ps.length:Int) + 1):=by omega
 have hp2:(ps.length:Int) ≤ (cp' : Int):=by omega
 have hxi:(0:Int) < ((xs.length:Int) + 1):=by omega
 have hxc:((xs.length:Int) + 1) ≤ ((ci' : Int) + 1):=by omega
 have hx1:(1:Int) ≤ ((xs.length:Int) + 1):=by omega
 have hx2:(xs.length:Int) ≤ (ci' : Int):=by omega
 have R:Hid _:=laid_consS (ps:=ps) (xs:=xs) (x:=x) hs
 have c0r:=fun d os => cell_regrown c0 d os
 have cxr:=fun d os => cell_regrown cx d os
 have CS:Hid (∀ d os,Calls Tryz.prog 150 #[SV p,SV x] (grow (redrawn w d) os) fun e w'' => e = .returned (.bool (spelledL p x))∧∃ q:Regrown,w'' = grow (redrawn w q.d) q.os):=fun d os => Calls.regrown_of (spells_any p x _ h7p h8x)
 have CI:Hid (∀ d os,Calls Tryz.prog 149 #[.slice (some ⟨gi,oi1,none⟩) xs.length ci',.slice (some ⟨gp,op1,none⟩) ps.length cp',SV [42,42],.func (.func 150) #[] #[]] (grow (redrawn w d) os) fun e w'' => e = .returned (.bool (laidL runS spelledL ps xs))∧∃ q:Regrown,w'' = grow (redrawn w q.d) q.os):=fun d os =>
  Calls.regrown_of (hI _ (below_regrown w d os))
 clear hI
 cases ht:spelledL p x
 ·rw [ht] at CS R
  clear CI
  go_enter Tryz.func149,Tryz.ntmps149
  go_wp2_with fail
  refine wp_region_quiet_below (by kernel_rfl) (by kernel_rfl) ?_
  repeat (quiet_step (first | (go_at_call 150;exact CS.out _ _)))
  refine wpQuiet_nil ?_
  rintro w' ⟨q,rfl⟩
  go_wp2
  go_ret
  exact ⟨by rw [R.out];rfl,below_regrown _ _ _⟩
 ·rw [ht] at CS R
  have hE2:∀ args W,(callFunc 149 args).run Tryz.prog W = .ok (.enter 149 args) W:=enters_of Tryz.func149 (by kernel_rfl) rfl
  generalize laidL runS spelledL ps xs = b at *
  go_enter Tryz.func149,Tryz.ntmps149
  go_wp2_with fail
  refine wp_region_quiet_below (by kernel_rfl) (by kernel_rfl) ?_
  repeat (quiet_step (first | (go_at_call 150;exact CS.out _ _) | (go_at_call 149;exact CI.out _ _)))
  refine wpQuiet_nil ?_
  rintro w' ⟨q,rfl⟩
  go_wp2
  go_ret
  exact ⟨by rw [R.out];simp,below_regrown _ _ _⟩

open Go.RowKit Go.Sort
set_option maxHeartbeats 8000000 in
set_option maxRecDepth 50000 in
theorem laidS_run (p:Str) (ps xs:List Str) (gp op cp' op1 gi oi ci:Nat) (w:World) (c0:w.cell? ⟨gp,op,none⟩ = some (SV p)) (hx:NamesIn w gi oi xs)
  (h1:ps.length ≤ cp') (h3:xs.length ≤ ci) (_h4:ci ≤ 9223372036854775807) (_h2:cp' + 1 ≤ 9223372036854775807) (h5:ps.length ≤ 1000) (h6:xs.length ≤ 1000)
  (ep1:(if cp' = 0 then some (⟨gp,op,none⟩ : Addr) else some ⟨gp,op + 1,none⟩) = some ⟨gp,op1,none⟩)
  (hs:runS p = true) (hI:∀ k o',k ≤ xs.length→NamesIn w gi o' (xs.drop k)→LaidSIn w (xs.drop k) ps gi o' (ci - k) gp op1 cp') :
  Calls Tryz.prog 149 #[.slice (some ⟨gi,oi,none⟩) xs.length ci,.slice (some ⟨gp,op,none⟩) (ps.length + 1) (cp' + 1),SV [42,42],.func (.func 150) #[] #[]] w fun e w' => e = .returned (.bool (laidL runS spelledL (p :: ps) xs))∧Below w.heap.size w w':=by
 have hs' : (p == [42,42]) = true:=hs
 have hpi:((ps.length:Int) + 1) ≤ ((cp' : Int) + 1):=by omega
 have hne0:((ps.length:Int) + 1 == 0) = false:=by rw [beq_eq_false_iff_ne];omega
 have hp1:(1:Int) ≤ ((ps.length:Int) + 1):=by omega
 have hp2:(ps.length:Int) ≤ (cp' : Int):=by omega
 have HIT:Hid (∀ k,k ≤ xs.length→laidL runS spelledL ps (xs.drop k) = true→laidL runS spelledL (p :: ps) xs = true):=fun k hk h => laid_hitS hs hk h
 have MISS:Hid ((∀ k,k ≤ xs.length→laidL runS spelledL ps (xs.drop k) = false)→laidL runS spelledL (p :: ps) xs = false):=fun h => laid_missS hs h
 have CUT:Hid (∀ k,k ≤ xs.length→∃ o',(if ci = k then some (⟨gi,oi,none⟩ : Addr) else some ⟨gi,oi + k,none⟩) = some ⟨gi,o',none⟩∧NamesIn w gi o' (xs.drop k)):=fun k hk => NamesIn.cut hx k (ci = k) (fun h => by omega)
 have CI:Hid (∀ k (W:World) o',Below w.heap.size w W→k ≤ xs.length→NamesIn w gi o' (xs.drop k)→Calls Tryz.prog 149 #[.slice (some ⟨gi,o',none⟩) (xs.length - k) (ci - k),.slice (some ⟨gp,op1,none⟩) ps.length cp',SV [42,42],.func (.func 150) #[] #[]] W fun e w' => e = .returned (.bool (laidL runS spelledL ps (xs.drop k)))∧Below W.heap.size W w'):=fun k W o' hW hk hB => by
  have:=hI k o' hk hB W hW
  rw [List.length_drop] at this
  exact this
 have hE2:∀ args W,(callFunc 149 args).run Tryz.prog W = .ok (.enter 149 args) W:=enters_of Tryz.func149 (by kernel_rfl) rfl
 clear hx hI
 go_enter Tryz.func149,Tryz.ntmps149
 go_wp2
 go_loopw [46] (fun i wr => ∃ k:Nat,k ≤ xs.length + 1∧i = .int .i64 k∧Below w.heap.size w wr∧∀ j,j < k→j ≤ xs.length→laidL runS spelledL ps (xs.drop j) = false) (fun i _ => xs.length + 1 - (intOf i).toNat)
 case atStart => exact ⟨0,Nat.zero_le _,rfl,Below.refl _ _,fun j h => by omega⟩
 case round =>
  obtain ⟨k,hk,rfl,hb,hall⟩:=hrel
  have HB:Hid _:=hb
  clear c0 hb
  by_cases hlt:k ≤ xs.length
  ·have hki:(k:Int) < ((xs.length:Int) + 1):=by omega
   have hki2:(k:Int) ≤ (xs.length:Int):=by omega
   have hkc:(xs.length:Int) ≤ (ci:Int):=by omega
   obtain ⟨oi2,ei2,hx2⟩:=CUT.out k hlt
   have CK:Hid (∀ d os,Calls Tryz.prog 149 #[.slice (some ⟨gi,oi2,none⟩) (xs.length - k) (ci - k),.slice (some ⟨gp,op1,none⟩) ps.length cp',SV [42,42],.func (.func 150) #[] #[]] (grow (redrawn wr d) os) fun e w'' => e = .returned (.bool (laidL runS spelledL ps (xs.drop k)))∧∃ q:Regrown,w'' = grow (redrawn wr q.d) q.os):=fun d os =>
    Calls.regrown_of (CI.out k _ oi2 (HB.out.trans ((below_regrown wr d os).mono HB.out.size)) hlt hx2)
   have HA:Hid _:=hall
   have HH:Hid _:=HIT.out k hlt
   clear hall HIT CI hx2
   cases hb:laidL runS spelledL ps (xs.drop k)
   ·rw [hb] at CK
    go_wp2_with fail
    refine wp_region_quiet_below (by kernel_rfl) (by kernel_rfl) ?_
    repeat (quiet_step (first | (go_at_call 149;exact CK.out _ _)))
    refine wpQuiet_nil ?_
    intro w' hw'
    have hb' : Below wr.heap.size wr w':=by
     obtain ⟨q,rfl⟩:=hw'
     exact below_regrown _ _ _
    have HB' : Hid _:=hb'
    clear hw' hb'
    go_wp2
    go_roundw
    case rel => exact ⟨k + 1,by omega,by go_num,HB.out.trans (HB'.out.mono HB.out.size),fun j hj hjl => by
     by_cases e:j = k
     ·subst e;exact hb
     ·exact HA.out j (by omega) hjl⟩
    case measure => simp [intOf];omega
   ·have R:Hid _:=HH.out hb
    rw [hb] at CK
    go_wp2_with fail
    refine wp_region_quiet_below (by kernel_rfl) (by kernel_rfl) ?_
    repeat (quiet_step (first | (go_at_call 149;exact CK.out _ _)))
    refine wpQuiet_nil ?_
    intro w' hw'
    have hb' : Below wr.heap.size wr w':=by
     obtain ⟨q,rfl⟩:=hw'
     exact below_regrown _ _ _
    have HB' : Hid _:=hb'
    clear hw' hb'
    go_wp2
    go_ret
    exact ⟨by rw [R.out];rfl,HB.out.trans (HB'.out.mono HB.out.size)⟩
  ·have R:Hid _:=MISS.out (fun j hj => hall j (by omega) hj)
   have hki:¬ (k:Int) < ((xs.length:Int) + 1):=by omega
   clear hall HIT MISS CI
   go_wp2
   go_ret
   exact ⟨by rw [R.out];rfl,HB.out⟩

open Go.RowKit Go.Sort
set_option maxHeartbeats 1000000 in
theorem isLaidS_any:∀ (ps xs:List Str) (gp op cp gi oi ci:Nat) (w:World),NamesIn w gp op ps→NamesIn w gi oi xs→ps.length ≤ cp→cp ≤ 9223372036854775807→xs.length ≤ ci→ci ≤ 9223372036854775807→ps.length ≤ 1000→xs.length ≤ 1000→(∀ x ∈ ps,x.length ≤ 1000)→(∀ x ∈ xs,x.length ≤ 1000) →
  Calls Tryz.prog 149 #[.slice (some ⟨gi,oi,none⟩) xs.length ci,.slice (some ⟨gp,op,none⟩) ps.length cp,SV [42,42],.func (.func 150) #[] #[]] w fun e w' => e = .returned (.bool (laidL runS spelledL ps xs))∧Below w.heap.size w w':=by
 intro ps
 induction ps with
 | nil =>
  intro xs gp op cp gi oi ci w hp hx h1 h2 h3 h4 h5 h6 h7 h8
  have R:Hid _:=laid_nilS xs
  clear hp hx
  cases xs with
  | nil =>
   go_enter Tryz.func149,Tryz.ntmps149
   go_wp2
   go_ret
   exact ⟨by rw [R.out];rfl,Below.refl _ _⟩
  | cons x xs =>
   have hne:¬ ((xs.length:Int) + 1) = 0:=by omega
   go_enter Tryz.func149,Tryz.ntmps149
   go_wp2
   go_ret
   exact ⟨by rw [R.out];simp;omega,Below.refl _ _⟩
 | cons p ps ih =>
  intro xs gp op cp gi oi ci w hp hx h1 h2 h3 h4 h5 h6 h7 h8
  obtain ⟨cp',hcp⟩ : ∃ c,cp = c + 1:=⟨cp - 1,by simp at h1;omega⟩
  subst hcp
  simp only [List.length_cons] at h1 h5 ⊢
  obtain ⟨op1,ep1,hp1'⟩:=NamesIn.cut hp 1 (cp' = 0) (fun h => by simp only [List.length_cons];omega)
  have h7' : ∀ x ∈ ps,x.length ≤ 1000:=fun x hx => h7 x (by simp [hx])
  cases hs:runS p
  ·cases xs with
   | nil => exact laidS_end p ps gp op cp' gi oi ci w hp.head (by omega) (by omega) hs
   | cons x xs =>
    obtain ⟨ci',hci⟩ : ∃ c,ci = c + 1:=⟨ci - 1,by simp at h3;omega⟩
    subst hci
    simp only [List.length_cons] at h3 h6 ⊢
    obtain ⟨oi1,ei1,hx1'⟩:=NamesIn.cut hx 1 (ci' = 0) (fun h => by simp only [List.length_cons];omega)
    exact laidS_one p x ps xs gp op cp' op1 gi oi ci' oi1 w hp.head hx.head (by omega) (by omega) h4 h2 (by omega) (by omega) (h7 p (by simp)) (h8 x (by simp)) ep1 ei1 hs (fun W hW =>
     ih xs gp op1 cp' gi oi1 ci' W (hp1'.below hW) (hx1'.below hW) (by omega) (by omega) (by omega) (by omega) (by omega) (by omega) h7' (fun y hy => h8 y (by simp [hy])))
  ·exact laidS_run p ps xs gp op cp' op1 gi oi ci w hp.head hx (by omega) h3 h4 h2 (by omega) h6 ep1 hs (fun k o' hk hN W hW =>
    ih (xs.drop k) gp op1 cp' gi o' (ci - k) W (hp1'.below hW) (hN.below hW) (by omega) (by omega) (by simp;omega) (by omega) (by omega) (by simp;omega) h7' (fun y hy => h8 y (List.mem_of_mem_drop hy)))
set_option maxHeartbeats 2000000 in
set_option maxRecDepth 50000 in
theorem prgFits_any (path:Str) (ps:List Str) (g n c:Nat) (w:World) (hn:NamesAt w (.slice (some ⟨g,0,none⟩) n c) ps) (hg:g < w.heap.size) (h1:ps.length ≤ 1000) (h2:∀ x ∈ ps,x.length ≤ 1000) (h3:path.length ≤ 900) :
  Calls Tryz.prog 118 #[SV path,.slice (some ⟨g,0,none⟩) n c] w fun e w' => e = .returned (.bool (laidL runS spelledL ps (splitL 47 path)))∧Below w.heap.size w w':=by
 have hl:=splitL_len 47 path
 have hpc:=splitL_piece 47 path
 have hne:=splitL_ne 47 path
 obtain ⟨ao,cap,e0,hc,hm,hcell⟩:=hn
 simp only [Value.slice.injEq] at e0
 obtain ⟨rfl,rfl,rfl⟩:=e0
 have hP:NamesIn w g 0 ps:=⟨hg,fun k hk => by
  obtain ⟨g',o',e,_,h7⟩:=hcell k hk
  simp only [Option.some.injEq,Addr.mk.injEq] at e
  obtain ⟨rfl,rfl,_⟩:=e
  exact h7⟩
 clear hcell
 go_enter Tryz.func118,Tryz.ntmps118
 go_wp2_with fail
 refine (prgSplit_any path 47 w (by omega)).mono ?_
 rintro e w1 ⟨v1,rfl,hown1,hb1⟩
 rcases strs_cells hown1 with ⟨rfl,h0,h4⟩ | ⟨g1,cap1,rfl,hn1,hg1,hgb1,hcap1,hm1,hcell1⟩
 ·exact absurd h4 hne
 have C:=isLaidS_any ps (splitL 47 path) g 0 c g1 0 cap1 w1 (hP.below hb1) ⟨hg1,fun k hk => by rw [Nat.zero_add];exact hcell1 k hk⟩ hc (by unfold maxLen at hm;omega) hcap1 (by unfold maxLen at hm1;omega) h1 (by omega) h2 (fun x hx => by have:=hpc x hx;omega)
 have HB1:Hid _:=hb1
 clear hown1 hcell1 hP hb1 hpc
 generalize hbb:laidL runS spelledL ps (splitL 47 path) = b at *
 have HBB:Hid _:=hbb
 clear hbb
 go_wp2_with (go_at_call 149;refine C.mono ?_;rintro e w2 ⟨rfl,hb2⟩)
 go_ret
 exact ⟨by rw [HBB.out];rfl,HB1.out.trans (hb2.mono HB1.out.size)⟩
end Go.Proofs.YtdcbgfhkfmohiaaGreatDoor
