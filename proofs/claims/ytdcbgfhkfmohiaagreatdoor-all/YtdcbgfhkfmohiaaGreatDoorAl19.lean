/- questionOf, of two words; of first. -/
import Derived.Test.YtdcbgfhkfmohiaaGreatDoorAl18
import Derived.Lib.ConvBytes
import Derived.Lib.QuietBelow
import Derived.BigQuiet
namespace Go.Proofs.YtdcbgfhkfmohiaaGreatDoor
open Go.RowKit
theorem qnOf_two {k p:Str} (h0 : [k,p].any (· == []) = false):qnOf [k,p] = if k == kExists then some (.ex (placeO p)) else if k == kList then some (.li (placeO p)) else if k == kRead then some (.re (placeO p)) else if k == kGlob then some (.gl (patO p)) else none:=by
 unfold qnOf
 rw [if_neg (by rw [h0];simp),if_neg (by simp),if_neg (by simp)]
 rfl
set_option maxHeartbeats 4000000 in
set_option maxRecDepth 50000 in
theorem questionOf_exists (p:Str) (nv:Value) (w:World) (hn:NamesAt w nv [kExists,p]) (h0 : [kExists,p].any (· == []) = false) (hp:p.length ≤ 1000) :
  Calls Tryz.prog 78 #[nv] w fun e w' => QRet w (qnOf [kExists,p]) e w':=by
 have C:=prgHas_any [kExists,p] nv w hn (by simp)
 rw [h0] at C
 have HQ:Hid (qnOf [kExists,p] = some (.ex (placeO p))):=by rw [Hid,qnOf_two h0];rfl
 obtain ⟨g,o,cap,rfl,hc,hm,hg,hcell⟩:=names_at hn (by simp)
 have c0:w.cell? ⟨g,o,none⟩ = some (SV [101,120,105,115,116,115]):=hcell 0 (by simp)
 have c1:w.cell? ⟨g,o + 1,none⟩ = some (SV p):=hcell 1 (by simp)
 simp only [List.length_cons,List.length_nil,Nat.zero_add,Nat.reduceAdd] at hc
 have hpc:(2:Int) ≤ (cap:Int):=by omega
 have CT:=fun nq => targetOf_any p (w.drewN nq) (by unfold maxLen;omega)
 clear hn hcell h0
 unfold maxLen at hm
 simp only [List.length_cons,List.length_nil,Nat.zero_add,Nat.reduceAdd] at C ⊢
 go_enter Tryz.func78,Tryz.ntmps78
 go_wp2_with (go_at_call 111;refine C.mono ?_;rintro e w1 ⟨rfl,hw1⟩;cases hw1)
 go_quiet (fail)
 go_wp2_with fail
 refine (CT nq).mono ?_
 rintro e w2 ⟨hb2,ao2,n2,c2,rfl,hv2⟩
 have R:Hid (QRet w (qnOf [kExists,p]) (.returned (.iface 166 (.agg #[.slice ao2 n2 c2]))) w2):=by rw [Hid,HQ.out];exact ⟨(below_drewN (Below.refl _ _) _).trans hb2,_,rfl,_,_,_,rfl,hv2⟩
 clear hb2 hv2 HQ CT C
 go_wp2
 go_ret
 exact R.out
set_option maxHeartbeats 4000000 in
set_option maxRecDepth 50000 in
theorem questionOf_list (p:Str) (nv:Value) (w:World) (hn:NamesAt w nv [kList,p]) (h0 : [kList,p].any (· == []) = false) (hp:p.length ≤ 1000) :
  Calls Tryz.prog 78 #[nv] w fun e w' => QRet w (qnOf [kList,p]) e w':=by
 have C:=prgHas_any [kList,p] nv w hn (by simp)
 rw [h0] at C
 have HQ:Hid (qnOf [kList,p] = some (.li (placeO p))):=by rw [Hid,qnOf_two h0];rfl
 obtain ⟨g,o,cap,rfl,hc,hm,hg,hcell⟩:=names_at hn (by simp)
 have c0:w.cell? ⟨g,o,none⟩ = some (SV [108,105,115,116]):=hcell 0 (by simp)
 have c1:w.cell? ⟨g,o + 1,none⟩ = some (SV p):=hcell 1 (by simp)
 simp only [List.length_cons,List.length_nil,Nat.zero_add,Nat.reduceAdd] at hc
 have hpc:(2:Int) ≤ (cap:Int):=by omega
 have CT:=fun nq => targetOf_any p (w.drewN nq) (by unfold maxLen;omega)
 clear hn hcell h0
 unfold maxLen at hm
 simp only [List.length_cons,List.length_nil,Nat.zero_add,Nat.reduceAdd] at C ⊢
 go_enter Tryz.func78,Tryz.ntmps78
 go_wp2_with (go_at_call 111;refine C.mono ?_;rintro e w1 ⟨rfl,hw1⟩;cases hw1)
 go_quiet (fail)
 go_wp2_with fail
 refine (CT nq).mono ?_
 rintro e w2 ⟨hb2,ao2,n2,c2,rfl,hv2⟩
 have R:Hid (QRet w (qnOf [kList,p]) (.returned (.iface 168 (.agg #[.slice ao2 n2 c2]))) w2):=by rw [Hid,HQ.out];exact ⟨(below_drewN (Below.refl _ _) _).trans hb2,_,rfl,_,_,_,rfl,hv2⟩
 clear hb2 hv2 HQ CT C
 go_wp2
 go_ret
 exact R.out
set_option maxHeartbeats 4000000 in
set_option maxRecDepth 50000 in
theorem questionOf_read (p:Str) (nv:Value) (w:World) (hn:NamesAt w nv [kRead,p]) (h0 : [kRead,p].any (· == []) = false) (hp:p.length ≤ 1000) :
  Calls Tryz.prog 78 #[nv] w fun e w' => QRet w (qnOf [kRead,p]) e w':=by
 have C:=prgHas_any [kRead,p] nv w hn (by simp)
 rw [h0] at C
 have HQ:Hid (qnOf [kRead,p] = some (.re (placeO p))):=by rw [Hid,qnOf_two h0];rfl
 obtain ⟨g,o,cap,rfl,hc,hm,hg,hcell⟩:=names_at hn (by simp)
 have c0:w.cell? ⟨g,o,none⟩ = some (SV [114,101,97,100]):=hcell 0 (by simp)
 have c1:w.cell? ⟨g,o + 1,none⟩ = some (SV p):=hcell 1 (by simp)
 simp only [List.length_cons,List.length_nil,Nat.zero_add,Nat.reduceAdd] at hc
 have hpc:(2:Int) ≤ (cap:Int):=by omega
 have CT:=fun nq => targetOf_any p (w.drewN nq) (by unfold maxLen;omega)
 clear hn hcell h0
 unfold maxLen at hm
 simp only [List.length_cons,List.length_nil,Nat.zero_add,Nat.reduceAdd] at C ⊢
 go_enter Tryz.func78,Tryz.ntmps78
 go_wp2_with (go_at_call 111;refine C.mono ?_;rintro e w1 ⟨rfl,hw1⟩;cases hw1)
 go_quiet (fail)
 go_wp2_with fail
 refine (CT nq).mono ?_
 rintro e w2 ⟨hb2,ao2,n2,c2,rfl,hv2⟩
 have R:Hid (QRet w (qnOf [kRead,p]) (.returned (.iface 169 (.agg #[.slice ao2 n2 c2]))) w2):=by rw [Hid,HQ.out];exact ⟨(below_drewN (Below.refl _ _) _).trans hb2,_,rfl,_,_,_,rfl,hv2⟩
 clear hb2 hv2 HQ CT C
 go_wp2
 go_ret
 exact R.out
set_option maxHeartbeats 4000000 in
set_option maxRecDepth 50000 in
theorem questionOf_glob (p:Str) (nv:Value) (w:World) (hn:NamesAt w nv [kGlob,p]) (h0 : [kGlob,p].any (· == []) = false) (hp:p.length ≤ 1000) (hmx:MaxOk w) :
  Calls Tryz.prog 78 #[nv] w fun e w' => QRet w (qnOf [kGlob,p]) e w':=by
 have C:=prgHas_any [kGlob,p] nv w hn (by simp)
 rw [h0] at C
 have HQ:Hid (qnOf [kGlob,p] = some (.gl (patO p))):=by rw [Hid,qnOf_two h0];rfl
 obtain ⟨g,o,cap,rfl,hc,hm,hg,hcell⟩:=names_at hn (by simp)
 have c0:w.cell? ⟨g,o,none⟩ = some (SV [103,108,111,98]):=hcell 0 (by simp)
 have c1:w.cell? ⟨g,o + 1,none⟩ = some (SV p):=hcell 1 (by simp)
 simp only [List.length_cons,List.length_nil,Nat.zero_add,Nat.reduceAdd] at hc
 have hpc:(2:Int) ≤ (cap:Int):=by omega
 have CT:=fun nq => partsOf_any p (w.drewN nq) (hmx.later (below_drewN (Below.refl _ _) _)) (by unfold maxLen;omega)
 clear hn hcell h0
 unfold maxLen at hm
 simp only [List.length_cons,List.length_nil,Nat.zero_add,Nat.reduceAdd] at C ⊢
 go_enter Tryz.func78,Tryz.ntmps78
 go_wp2_with (go_at_call 111;refine C.mono ?_;rintro e w1 ⟨rfl,hw1⟩;cases hw1)
 go_quiet (fail)
 go_wp2_with fail
 refine (CT nq).mono ?_
 rintro e w2 ⟨hb2,v2,rfl,hv2⟩
 obtain ⟨ao2,n2,c2,rfl⟩:=hv2.form
 have R:Hid (QRet w (qnOf [kGlob,p]) (.returned (.iface 171 (.agg #[.slice ao2 n2 c2]))) w2):=by rw [Hid,HQ.out];exact ⟨(below_drewN (Below.refl _ _) _).trans hb2,_,rfl,_,_,_,rfl,hv2⟩
 clear hb2 hv2 HQ CT C
 go_wp2
 go_ret
 exact R.out
set_option maxHeartbeats 4000000 in
set_option maxRecDepth 50000 in
theorem questionOf_no2 (k p:Str) (nv:Value) (w:World) (hn:NamesAt w nv [k,p]) (h0 : [k,p].any (· == []) = false) (k1:(k == kExists) = false) (k2:(k == kList) = false) (k3:(k == kRead) = false) (k4:(k == kGlob) = false) :
  Calls Tryz.prog 78 #[nv] w fun e w' => QRet w (qnOf [k,p]) e w':=by
 have C:=prgHas_any [k,p] nv w hn (by simp)
 rw [h0] at C
 have R:Hid (∀ W,Below w.heap.size w W→QRet w (qnOf [k,p]) (.returned .nilIface) W):=fun W hW => by
  rw [qnOf_two h0,k1,k2,k3,k4];exact ⟨hW,rfl⟩
 obtain ⟨g,o,cap,rfl,hc,hm,hg,hcell⟩:=names_at hn (by simp)
 have c0:w.cell? ⟨g,o,none⟩ = some (SV k):=hcell 0 (by simp)
 have c1:w.cell? ⟨g,o + 1,none⟩ = some (SV p):=hcell 1 (by simp)
 simp only [List.length_cons,List.length_nil,Nat.zero_add,Nat.reduceAdd] at hc
 have hpc:(2:Int) ≤ (cap:Int):=by omega
 have n1:(k == [101,120,105,115,116,115]) = false:=k1
 have n2:(k == [108,105,115,116]) = false:=k2
 have n3:(k == [114,101,97,100]) = false:=k3
 have n4:(k == [103,108,111,98]) = false:=k4
 clear hn hcell h0 k1 k2 k3 k4
 unfold maxLen at hm
 simp only [List.length_cons,List.length_nil,Nat.zero_add,Nat.reduceAdd] at C ⊢
 by_cases kf:k = [102,105,114,115,116]
 ·rw [kf] at c0
  clear n1 n2 n3 n4
  go_enter Tryz.func78,Tryz.ntmps78
  go_wp2_with (go_at_call 111;refine C.mono ?_;rintro e w1 ⟨rfl,hw1⟩;cases hw1)
  go_quiet (fail)
  go_wp2
  all_goals
   go_ret
   exact R.out _ (below_drewN (Below.refl _ _) _)
 ·have n5:(k == [102,105,114,115,116]) = false:=by simpa using kf
  clear kf
  go_enter Tryz.func78,Tryz.ntmps78
  go_wp2_with (go_at_call 111;refine C.mono ?_;rintro e w1 ⟨rfl,hw1⟩;cases hw1)
  go_quiet (fail)
  go_wp2
  all_goals
   go_ret
   exact R.out _ (below_drewN (Below.refl _ _) _)

open Go.RowKit
def TargetsRetS (w:World) (ds:List (Option (List Str))) (e:Ending) (w' : World):Prop:=Below w.heap.size w w'∧∃ ao n c,e = .returned (.slice ao n c)∧TargetsAt w.heap.size w' (.slice ao n c) ds
theorem TargetsRet.slice {w w' : World} {ds:List (Option (List Str))} {e:Ending} (h:TargetsRet w ds e w'):TargetsRetS w ds e w':=by
 obtain ⟨hb,v,rfl,hv⟩:=h
 obtain ⟨us,h1,h2⟩:=hv
 obtain ⟨ao,cap,rfl⟩:=row_form h1
 exact ⟨hb,_,_,_,rfl,us,h1,h2⟩
theorem qnOf_first {xs:List Str} (h0:xs.any (· == []) = false) (h1:xs.headD [] = kFirst) (h2:2 < xs.length):qnOf xs = some (.fi (xs.getD 1 []) ((xs.drop 2).map placeO)):=by
 unfold qnOf
 rw [if_neg (by rw [h0];simp),if_pos (by rw [h1];simpa using h2)]
set_option maxHeartbeats 4000000 in
set_option maxRecDepth 50000 in
theorem questionOf_first (xs:List Str) (nv:Value) (w:World) (hn:NamesAt w nv xs) (hl:xs.length ≤ 1000) (h0:xs.any (· == []) = false) (h1:xs.headD [] = kFirst) (h2:2 < xs.length) (hx:∀ x ∈ xs,x.length ≤ 1000) :
  Calls Tryz.prog 78 #[nv] w fun e w' => QRet w (qnOf xs) e w':=by
 have C:=prgHas_any xs nv w hn hl
 rw [h0] at C
 have hne:xs ≠ []:=fun e => by rw [e] at h2;simp at h2
 have HQ:Hid _:=qnOf_first h0 h1 h2
 obtain ⟨g,o,cap,rfl,hc,hm,hg,hcell⟩:=names_at hn hne
 have c0:=hcell 0 (by omega)
 have hx0:xs[0]'(by omega) = [102,105,114,115,116]:=by
  rw [show ([102,105,114,115,116]:Str) = kFirst from rfl,← h1]
  cases xs with
  | nil => simp at h2
  | cons x r => rfl
 rw [Nat.add_zero,hx0] at c0
 have c1:=hcell 1 (by omega)
 have hx1:xs.getD 1 [] = xs[1]'(by omega):=by simp [show 1 < xs.length by omega]
 rw [hx1] at HQ
 generalize xs[1]'(by omega) = x at *
 obtain ⟨m,hlm⟩ : ∃ m,xs.length = m + 2:=⟨xs.length - 2,by omega⟩
 obtain ⟨c,hcm⟩ : ∃ c,cap = c + 2:=⟨cap - 2,by omega⟩
 subst hcm
 have hm0:0 < m:=by omega
 have hdl:(xs.drop 2).length = m:=by simp;omega
 have CT:Hid (∀ W,Like W w→Calls Tryz.prog 112 #[.slice (some ⟨g,o + 1 + 1,none⟩) m c] W fun e w' => TargetsRetS W ((xs.drop 2).map placeO) e w'):=fun W hW => by
  have hN:NamesAt W (.slice (some ⟨g,o + 1 + 1,none⟩) m c) (xs.drop 2):=by
   refine ⟨_,_,by rw [hdl],by omega,by unfold maxLen at hm ⊢;omega,fun k hk => ⟨g,o + 1 + 1,rfl,by rw [hW.heap];exact hg,?_⟩⟩
   have:=hcell (k + 2) (by omega)
   rw [List.getElem_drop]
   rw [cell_blk (w:=w) (by rw [hW.heap]),show o + 1 + 1 + k = o + (k + 2) by omega,this]
   congr 2
   simp [Nat.add_comm]
  exact (targetsOf_any (xs.drop 2) _ W hN (fun y hy => hx y (List.mem_of_mem_drop hy)) (by omega)).mono fun _ _ h => h.slice
 have hpc:((m + 2:Nat):Int) ≤ ((c + 2:Nat):Int):=by omega
 have hmc:(m:Int) ≤ (c:Int):=by omega
 have hmi:(0:Int) < (m:Int):=by omega
 rw [hlm] at C ⊢
 clear hn hcell h0 h1 hx0 hx1 hx hdl
 unfold maxLen at hm
 generalize (xs.drop 2).map placeO = ds at *
 go_enter Tryz.func78,Tryz.ntmps78
 go_wp2_with (go_at_call 111;refine C.mono ?_;rintro e w1 ⟨rfl,hw1⟩;cases hw1)
 go_quiet (fail)
 go_wp2_with fail
 go_cut [2] (fun v wc => QRet w (qnOf xs) (.returned v) wc)
 case first =>
  go_region_with (go_at_call 112;refine (CT.out _ ?_).mono ?_;exact ⟨rfl,rfl,rfl,rfl⟩;rintro e w2 ⟨hb2,ao2,n2,c2,rfl,hv2⟩;have c1b:w2.cell? ⟨g,o + 1,none⟩ = some (SV x):=(hb2.cell (p:=⟨g,o + 1,none⟩) hg).trans c1)
  all_goals
   go_wp2_with fail
   go_meet
   case rel =>
    rw [HQ.out]
    exact ⟨(below_drewN (Below.refl _ _) _).trans hb2,_,rfl,_,_,_,rfl,by exact hv2⟩
 case rest =>
  have R:Hid _:=hcut
  obtain ⟨t,cs,ht⟩ : ∃ t cs,u2 = .iface t (.agg cs):=by
   rw [HQ.out] at hcut
   obtain ⟨_,v,e,hq⟩:=hcut
   obtain ⟨t,cs,h⟩:=hq.iface
   exact ⟨t,cs,(Ending.returned.inj e).trans h⟩
  subst ht
  clear hcut
  go_wp2
  go_ret
  exact R.out
theorem questionOf_any (xs:List Str) (nv:Value) (w:World) (hn:NamesAt w nv xs) (hne:xs ≠ []) (hl:xs.length ≤ 1000) (hx:∀ x ∈ xs,x.length ≤ 1000) (hmx:MaxOk w) :
  Calls Tryz.prog 78 #[nv] w fun e w' => QRet w (qnOf xs) e w':=by
 cases h0:xs.any (· == [])
 ·by_cases h1:xs.headD [] = kFirst∧2 < xs.length
  ·exact questionOf_first xs nv w hn hl h0 h1.1 h1.2 hx
  ·by_cases h2:xs.length = 2
   ·match xs,h2 with
    | [k,p],_ =>
     have hp:=hx p (by simp)
     by_cases k1:k = kExists
     ·subst k1;exact questionOf_exists p nv w hn h0 hp
     ·by_cases k2:k = kList
      ·subst k2;exact questionOf_list p nv w hn h0 hp
      ·by_cases k3:k = kRead
       ·subst k3;exact questionOf_read p nv w hn h0 hp
       ·by_cases k4:k = kGlob
        ·subst k4;exact questionOf_glob p nv w hn h0 hp hmx
        ·exact questionOf_no2 k p nv w hn h0 (by simpa using k1) (by simpa using k2) (by simpa using k3) (by simpa using k4)
   ·exact questionOf_other xs nv w hn hne hl h0 h1 h2
 ·exact questionOf_empty xs nv w hn hl h0

open Go.RowKit
theorem Tryz.faultEx (u : Value) (w : World) : (method 401 166 (.agg #[u]) "canopy/canopy.fault").run Tryz.prog w = .ok (216, .agg #[u]) w := by kernel_rfl
theorem Tryz.faultLi (u : Value) (w : World) : (method 401 168 (.agg #[u]) "canopy/canopy.fault").run Tryz.prog w = .ok (216, .agg #[u]) w := by kernel_rfl
theorem Tryz.faultRe (u : Value) (w : World) : (method 401 169 (.agg #[u]) "canopy/canopy.fault").run Tryz.prog w = .ok (216, .agg #[u]) w := by kernel_rfl
theorem Tryz.faultGl (u : Value) (w : World) : (method 401 171 (.agg #[u]) "canopy/canopy.fault").run Tryz.prog w = .ok (217, .agg #[u]) w := by kernel_rfl
theorem Tryz.faultFi (x u : Value) (w : World) : (method 401 174 (.agg #[x, u]) "canopy/canopy.fault").run Tryz.prog w = .ok (218, .agg #[x, u]) w := by kernel_rfl
def FaultRet (w:World) (n:Nat) (e:Ending) (w' : World):Prop:=e = .returned (.int .i64 (n:Int))∧Below w.heap.size w w'
set_option maxHeartbeats 1000000 in
set_option maxRecDepth 50000 in
theorem targetFault_any (base:Nat) (o:Option (List Str)) (ao:Option Addr) (n c:Nat) (w:World) (h:NamesO base w (.slice ao n c) o) :
  Calls Tryz.prog 216 #[.agg #[.slice ao n c]] w fun e w' => FaultRet w (faultO 3 o) e w':=by
 have hb1:Hid (Below w.heap.size w (w.alloc (.cells #[.slice ao n c] 164))):=(Below.refl _ _).alloc (Nat.le_refl _) _
 cases o with
 | none =>
  obtain ⟨rfl,rfl,rfl⟩ : ao = none∧n = 0∧c = 0:=by simpa [NamesO] using h
  have s:=slice_none
  clear h
  go_enter Tryz.func216,Tryz.ntmps216
  go_wp2
  go_ret
  exact ⟨rfl,hb1.out⟩
 | some xs =>
  obtain ⟨g,n',c',e,_⟩:=h
  simp only [Value.slice.injEq] at e
  obtain ⟨rfl,rfl,rfl⟩:=e
  have s:=slice_some
  go_enter Tryz.func216,Tryz.ntmps216
  go_wp2
  go_ret
  exact ⟨rfl,hb1.out⟩
set_option maxHeartbeats 1000000 in
set_option maxRecDepth 50000 in
theorem globFault_any (base:Nat) (o:Option (List Str)) (ao:Option Addr) (n c:Nat) (w:World) (h:NamesO base w (.slice ao n c) o) :
  Calls Tryz.prog 217 #[.agg #[.slice ao n c]] w fun e w' => FaultRet w (faultO 9 o) e w':=by
 have hb1:Hid (Below w.heap.size w (w.alloc (.cells #[.slice ao n c] 171))):=(Below.refl _ _).alloc (Nat.le_refl _) _
 cases o with
 | none =>
  obtain ⟨rfl,rfl,rfl⟩ : ao = none∧n = 0∧c = 0:=by simpa [NamesO] using h
  have s:=slice_none
  clear h
  go_enter Tryz.func217,Tryz.ntmps217
  go_wp2
  go_ret
  exact ⟨rfl,hb1.out⟩
 | some xs =>
  obtain ⟨g,n',c',e,_⟩:=h
  simp only [Value.slice.injEq] at e
  obtain ⟨rfl,rfl,rfl⟩:=e
  have s:=slice_some
  go_enter Tryz.func217,Tryz.ntmps217
  go_wp2
  go_ret
  exact ⟨rfl,hb1.out⟩
theorem targets_cells {base:Nat} {w:World} {ao:Option Addr} {n c:Nat} {ds:List (Option (List Str))} (h:TargetsAt base w (.slice ao n c) ds) :
  n = ds.length∧ds.length ≤ c∧c ≤ maxLen∧∀ k (hk:k < ds.length),∃ g ao' n' c',ao = some ⟨g,0,none⟩∧g < w.heap.size∧w.cell? ⟨g,k,none⟩ = some (.slice ao' n' c')∧NamesO base w (.slice ao' n' c') ds[k]:=by
 obtain ⟨us,h1,h2⟩:=h
 have hl:us.length = ds.length:=by have:=h1.1;omega
 rcases row_cells h1 with ⟨e,h3⟩ | ⟨g,cap,e,h4,_,h5,h6,h7⟩
 ·simp only [Value.slice.injEq] at e
  obtain ⟨rfl,rfl,rfl⟩:=e
  exact ⟨h3.symm,by omega,by unfold maxLen;omega,fun k hk => by omega⟩
 ·simp only [Value.slice.injEq] at e
  obtain ⟨rfl,rfl,rfl⟩:=e
  refine ⟨rfl,h5,h6,fun k hk => ?_⟩
  have hu:us[k]? = some (us[k]'(by omega)):=List.getElem?_eq_getElem (by omega)
  have h8:=(h2 k _ _ hu (List.getElem?_eq_getElem hk)).1
  obtain ⟨ao',n',c',e⟩:=h8.form
  exact ⟨g,ao',n',c',rfl,h4,(h7 k _ hu).trans (by rw [e]),by rw [← e];exact h8⟩
theorem fault_no {x:Str} {ds:List (Option (List Str))} (h:isNameL x false = false):faultQ (.fi x ds) = 3:=by simp [faultQ,h]
theorem fault_bad {x:Str} {ds:List (Option (List Str))} {k:Nat} (h:isNameL x false = true) (hk:k < ds.length) (hn:ds[k] = none):faultQ (.fi x ds) = 3:=by
 have:ds.all (·.isSome) = false:=List.all_eq_false.2 ⟨_,List.getElem_mem hk,by rw [hn];simp⟩
 simp only [faultQ,h,this];rfl
theorem fault_fine {x:Str} {ds:List (Option (List Str))} (h:isNameL x false = true) (hk:∀ k (h:k < ds.length),ds[k] ≠ none):faultQ (.fi x ds) = 0:=by
 have:ds.all (·.isSome) = true:=List.all_eq_true.2 fun o ho => by
  obtain ⟨j,hj,rfl⟩:=List.getElem_of_mem ho
  cases e:ds[j] with
  | none => exact absurd e (hk j hj)
  | some y => rfl
 simp only [faultQ,h,this];rfl
set_option maxHeartbeats 4000000 in
set_option maxRecDepth 50000 in
theorem firstFault_any (base:Nat) (x:Str) (ds:List (Option (List Str))) (ao:Option Addr) (n c:Nat) (w:World) (hx:x.length ≤ maxLen) (h:TargetsAt base w (.slice ao n c) ds) :
  Calls Tryz.prog 218 #[.agg #[SV x,.slice ao n c]] w fun e w' => FaultRet w (faultQ (.fi x ds)) e w':=by
 obtain ⟨w1,hw1⟩ : ∃ w1:World,w1 = w.alloc (.cells #[SV x,.slice ao n c] 174):=⟨_,rfl⟩
 have hb1:Below w.heap.size w w1:=by rw [hw1];exact (Below.refl _ _).alloc (Nat.le_refl _) _
 have hn1:w1.heap[w.heap.size]? = some (.cells #[SV x,.slice ao n c] 174 (0,0)):=by rw [hw1];exact heap_alloc_new _ _
 have C:=prgIsName_any x w1 hx
 have q0:w1.cell? ⟨w.heap.size,0,none⟩ = some (SV x):=(blk_cell hn1 0).trans rfl
 have q1:w1.cell? ⟨w.heap.size,1,none⟩ = some (.slice ao n c):=(blk_cell hn1 1).trans rfl
 obtain ⟨rfl,hc,hm,hcell⟩:=targets_cells (h.below hb1)
 have HC:Hid _:=hcell
 have HB1:Hid _:=hb1
 have HW1:Hid _:=hw1
 clear hcell h hb1 hw1 hn1
 unfold maxLen at hm
 cases hn:isNameL x false
 ·have R:Hid (FaultRet w (faultQ (.fi x ds)) (.returned (.int .i64 3)) w1):=by rw [Hid,fault_no hn];exact ⟨rfl,HB1.out⟩
  rw [hn] at C
  go_enter Tryz.func218,Tryz.ntmps218
  go_wp2_with fail
  rw [← HW1.out]
  refine C.mono ?_
  rintro e w2 ⟨rfl,hw2⟩
  cases hw2
  go_wp2
  go_ret
  exact R.out
 ·have FB:Hid (∀ k (hk:k < ds.length),ds[k] = none→faultQ (.fi x ds) = 3):=fun k hk h => fault_bad hn hk h
  have FF:Hid ((∀ k (hk:k < ds.length),ds[k] ≠ none)→faultQ (.fi x ds) = 0):=fun h => fault_fine hn h
  rw [hn] at C
  go_enter Tryz.func218,Tryz.ntmps218
  go_wp2_with fail
  rw [← HW1.out]
  refine C.mono ?_
  rintro e w2 ⟨rfl,hw2⟩
  cases hw2
  clear HW1 C
  go_wp2
  go_loopw [13] (fun i wr => ∃ k:Nat,k ≤ ds.length∧i = .int .i64 k∧Below w1.heap.size w1 wr∧∀ j (hj:j < ds.length),j < k→ds[j] ≠ none) (fun i _ => ds.length - (intOf i).toNat)
  case atStart => exact ⟨0,Nat.zero_le _,rfl,Below.refl _ _,fun j _ h => by omega⟩
  case round =>
   obtain ⟨k,hk,rfl,hb,hall⟩:=hrel
   clear q0 q1
   by_cases hlt:k < ds.length
   ·obtain ⟨g,ao',n',c',rfl,hg,ck,hN⟩:=HC.out k hlt
    have ckr:wr.cell? ⟨g,k,none⟩ = some (.slice ao' n' c'):=(hb.cell (p:=⟨g,k,none⟩) hg).trans ck
    have hki:(k:Int) < (ds.length:Int):=by omega
    have HA:Hid _:=hall
    have HB:Hid _:=hb
    have CT:Hid (∀ W,Below w1.heap.size w1 W→Calls Tryz.prog 216 #[.agg #[.slice ao' n' c']] W fun e w' => FaultRet W (faultO 3 ds[k]) e w'):=fun W hW => targetFault_any base ds[k] ao' n' c' W (hN.below hW)
    clear ck hN hall hb
    go_wp2_with fail
    have hba:Below wr.heap.size wr (wr.alloc (.cells #[.slice ao' n' c'] 164)):=(Below.refl _ _).alloc (Nat.le_refl _) _
    have hba1:Below w1.heap.size w1 (wr.alloc (.cells #[.slice ao' n' c'] 164)):=HB.out.trans (hba.mono HB.out.size)
    refine (CT.out _ hba1).mono ?_
    rintro e w3 ⟨rfl,hb3⟩
    have HB3:Hid (Below w1.heap.size w1 w3):=hba1.trans (hb3.mono hba1.size)
    clear hb3 hba hba1 CT ckr
    cases hd:ds[k] with
    | none =>
     have R:Hid (FaultRet w (faultQ (.fi x ds)) (.returned (.int .i64 3)) w3):=by rw [Hid,FB.out k hlt hd];exact ⟨rfl,HB1.out.trans (HB3.out.mono HB1.out.size)⟩
     rw [show faultO 3 (none:Option (List Str)) = 3 from rfl]
     clear HA FB FF
     go_wp2
     go_ret
     exact R.out
    | some y =>
     rw [show faultO 3 (some y) = 0 from rfl]
     have R:Hid (∀ j (hj:j < ds.length),j < k + 1→ds[j] ≠ none):=fun j hj hjk => by
      by_cases e:j = k
      ·subst e;rw [hd];simp
      ·exact HA.out j hj (by omega)
     clear HA FB FF
     go_wp2
     go_roundw
     case rel => exact ⟨k + 1,by omega,by go_num,HB3.out,R.out⟩
     case measure => simp [intOf];omega
   ·have hki:¬ (k:Int) < (ds.length:Int):=by omega
    have R:Hid (FaultRet w (faultQ (.fi x ds)) (.returned (.int .i64 0)) wr):=by rw [Hid,FF.out (fun j hj => hall j hj (by omega))];exact ⟨rfl,HB1.out.trans (hb.mono HB1.out.size)⟩
    clear hall hb FF FB
    go_wp2
    go_ret
    exact R.out

open Go.RowKit
theorem qface_some (k:Nat) (x:Value) (w:World):(binOp .eql 114 (.iface k x) .nilIface).run Tryz.prog w = .ok (.bool false) w:=by
 have h:(Op.equalIn 10000 114 (.iface k x) .nilIface).run Tryz.prog w = .ok false w:=by
  rw [show (10000:Nat) = 9999 + 1 from rfl,Op.equalIn];simp only [Sem.run_bind,run_underlying Tryz.underlying114,Result.andThen_ok];rfl
 simp only [binOp]
 simp [Op.equal,Op.maxDepth,h]
theorem qface_none (w:World):(binOp .eql 114 .nilIface .nilIface).run Tryz.prog w = .ok (.bool true) w:=by
 have h:(Op.equalIn 10000 114 .nilIface .nilIface).run Tryz.prog w = .ok true w:=by
  rw [show (10000:Nat) = 9999 + 1 from rfl,Op.equalIn];simp only [Sem.run_bind,run_underlying Tryz.underlying114,Result.andThen_ok];rfl
 simp only [binOp]
 simp [Op.equal,Op.maxDepth,h]
theorem fault_three {x:Str} {ds:List (Option (List Str))} (h:faultQ (.fi x ds) ≠ 0):faultQ (.fi x ds) = 3:=by
 rw [faultQ] at h ⊢
 cases h1:isNameL x false
 ·rfl
 ·rw [h1] at h
  cases h2:ds.all (·.isSome)
  ·rfl
  ·rw [h2] at h;exact absurd rfl h
def ParseOut (w:World) (t:Str) (e:Ending) (w' : World):Prop :=
 Below w.heap.size w w'∧((checkL t ≠ 0∧e = .returned (.tuple #[.nilIface,.int .i64 (checkL t:Nat)])) ∨
  (checkL t = 0∧∃ v q,e = .returned (.tuple #[v,.int .i64 0])∧qnOf (splitL 32 t) = some q∧faultQ q = 0∧QAt w.heap.size w' v q))
theorem ParseOut.bad {w w' : World} {t:Str} {n:Nat} (hb:Below w.heap.size w w') (h:checkL t = n) (hn:n ≠ 0):ParseOut w t (.returned (.tuple #[.nilIface,.int .i64 n])) w':=⟨hb,.inl ⟨by omega,by rw [h]⟩⟩
theorem check_parse {t:Str} (h:t.length ≤ 60):checkL t = parseW (splitL 32 t):=by
 rw [parse_check _ (splitL_ne 32 t),checkL,if_neg (by omega)]
theorem check_none {t:Str} (h:t.length ≤ 60) (hq:qnOf (splitL 32 t) = none):checkL t = 10:=by rw [check_parse h,parseW,hq]
theorem check_some {t:Str} {q:Qn} (h:t.length ≤ 60) (hq:qnOf (splitL 32 t) = some q):checkL t = faultQ q:=by rw [check_parse h,parseW,hq]
theorem TargetsAt.mono {base base' : Nat} {w:World} {v:Value} {ds:List (Option (List Str))} (h:TargetsAt base w v ds) (hb:base' ≤ base):TargetsAt base' w v ds:=by
 obtain ⟨us,h1,h2⟩:=h
 exact ⟨us,ownsRow_le h1 hb,fun k u d hu hd => ⟨(h2 k u d hu hd).1.mono hb,(h2 k u d hu hd).2⟩⟩
theorem QAt.mono {base base' : Nat} {w:World} {v:Value} {q:Qn} (h:QAt base w v q) (hb:base' ≤ base):QAt base' w v q:=by
 cases q with
 | fi x ds => obtain ⟨ao,n,c,h1,h2⟩:=h;exact ⟨ao,n,c,h1,h2.mono hb⟩
 | _ => obtain ⟨ao,n,c,h1,h2⟩:=h;exact ⟨ao,n,c,h1,h2.mono hb⟩
theorem parse_end {w w2 w3:World} {t:Str} {q:Qn} {v:Value} (h60:t.length ≤ 60) (hq:qnOf (splitL 32 t) = some q) (hb2:Below w.heap.size w w2) (hv:QAt w.heap.size w2 v q) (hb3:Below w2.heap.size w2 w3) :
  (faultQ q = 0→ParseOut w t (.returned (.tuple #[v,.int .i64 0])) w3)∧(∀ n:Nat,faultQ q = n→n ≠ 0→ParseOut w t (.returned (.tuple #[.nilIface,.int .i64 n])) w3):=by
 have hb:=hb2.trans (hb3.mono hb2.size)
 refine ⟨fun h => ⟨hb,.inr ⟨by rw [check_some h60 hq,h],v,q,rfl,hq,h,hv.below hb3⟩⟩,fun n h hn => ParseOut.bad hb (by rw [check_some h60 hq,h]) hn⟩
set_option maxHeartbeats 4000000 in
set_option maxRecDepth 50000 in
theorem parse_any (t:Str) (w:World) (hmx:MaxOk w) :
  Calls Tryz.prog 52 #[SV t] w fun e w' => ParseOut w t e w':=by
 by_cases h60:60 < t.length
 ·have R:Hid (ParseOut w t (.returned (.tuple #[.nilIface,.int .i64 (4:Nat)])) w):=ParseOut.bad (Below.refl _ _) (by unfold checkL;rw [if_pos h60]) (by decide)
  have h60i:(60:Int) < (t.length:Int):=by omega
  go_enter Tryz.func52,Tryz.ntmps52
  go_wp2
  go_ret2
  exact R.out
 have h60i:¬ (60:Int) < (t.length:Int):=by omega
 have h60l:t.length ≤ 60:=by omega
 go_enter Tryz.func52,Tryz.ntmps52
 go_wp2_with fail
 refine (prgSplit_any t 32 w (by omega)).mono ?_
 rintro e w1 ⟨v1,rfl,hown1,hb1⟩
 obtain ⟨hx,hn⟩:=words_ok h60l
 have CQ:=questionOf_any (splitL 32 t) v1 w1 (names_of_row hown1) (splitL_ne 32 t) hn (fun x h => by have:=hx x h;omega) (hmx.later hb1)
 obtain ⟨ao1,cap1,rfl⟩:=row_form hown1
 have HB1:Hid _:=hb1
 clear hown1 hx hn hb1
 go_wp2_with fail
 refine CQ.mono ?_
 rintro e w2 ⟨hb2,hq⟩
 have HB2:Hid (Below w.heap.size w w2):=HB1.out.trans (hb2.mono HB1.out.size)
 clear CQ
 cases hqn:qnOf (splitL 32 t) with
 | none =>
  rw [hqn] at hq
  obtain rfl:=hq
  have R:Hid (ParseOut w t (.returned (.tuple #[.nilIface,.int .i64 (10:Nat)])) w2):=ParseOut.bad HB2.out (check_none h60l hqn) (by decide)
  have hs:=qface_none
  clear hb2 hqn HB1 HB2
  go_wp2
  go_ret2
  exact R.out
 | some q =>
  rw [hqn] at hq
  obtain ⟨v,rfl,hv1⟩:=hq
  have hv:QAt w.heap.size w2 v q:=hv1.mono HB1.out.size
  have PE:Hid (∀ w3,Below w2.heap.size w2 w3→(faultQ q = 0→ParseOut w t (.returned (.tuple #[v,.int .i64 0])) w3)∧(∀ n:Nat,faultQ q = n→n ≠ 0→ParseOut w t (.returned (.tuple #[.nilIface,.int .i64 n])) w3)):=fun w3 hb3 => parse_end h60l hqn HB2.out hv hb3
  have hq60:Hid (∀ x ds,q = .fi x ds→x.length ≤ 60):=fun x ds e => by
   subst e
   unfold qnOf at hqn
   split at hqn
   ·simp at hqn
   ·split at hqn
    ·simp only [Option.some.injEq,Qn.fi.injEq] at hqn
     rw [← hqn.1]
     cases hg:(splitL 32 t)[1]? with
     | none => simp [hg]
     | some y =>
      have:=splitL_piece 32 t y (List.mem_of_getElem? hg)
      simp [hg];omega
    ·split at hqn
     ·simp at hqn
     ·split at hqn
      ·simp at hqn
      ·split at hqn
       ·simp at hqn
       ·split at hqn
        ·simp at hqn
        ·split at hqn
         ·simp at hqn
         ·simp at hqn
  clear hv1 hqn hb2 HB1
  cases q with
  | ex o =>
   obtain ⟨ao,n,c,rfl,hN⟩:=hv
   have CF:=targetFault_any _ o ao n c w2 hN
   have hm:=Tryz.faultEx
   have hs:=qface_some
   clear hN HB2
   cases o with
   | none =>
    rw [show faultO 3 (none:Option (List Str)) = 3 from rfl] at CF
    go_wp2_with fail
    refine CF.mono ?_
    rintro e w3 ⟨rfl,hb3⟩
    have R:Hid _:=(PE.out w3 hb3).2 3 rfl (by decide)
    clear hb3 CF PE hm
    go_wp2
    go_ret2
    exact R.out
   | some xs =>
    rw [show faultO 3 (some xs) = 0 from rfl] at CF
    go_wp2_with fail
    refine CF.mono ?_
    rintro e w3 ⟨rfl,hb3⟩
    have R:Hid _:=(PE.out w3 hb3).1 rfl
    clear hb3 CF PE hm
    go_wp2
    go_ret2
    exact R.out
  | li o =>
   obtain ⟨ao,n,c,rfl,hN⟩:=hv
   have CF:=targetFault_any _ o ao n c w2 hN
   have hm:=Tryz.faultLi
   have hs:=qface_some
   clear hN HB2
   cases o with
   | none =>
    rw [show faultO 3 (none:Option (List Str)) = 3 from rfl] at CF
    go_wp2_with fail
    refine CF.mono ?_
    rintro e w3 ⟨rfl,hb3⟩
    have R:Hid _:=(PE.out w3 hb3).2 3 rfl (by decide)
    clear hb3 CF PE hm
    go_wp2
    go_ret2
    exact R.out
   | some xs =>
    rw [show faultO 3 (some xs) = 0 from rfl] at CF
    go_wp2_with fail
    refine CF.mono ?_
    rintro e w3 ⟨rfl,hb3⟩
    have R:Hid _:=(PE.out w3 hb3).1 rfl
    clear hb3 CF PE hm
    go_wp2
    go_ret2
    exact R.out
  | re o =>
   obtain ⟨ao,n,c,rfl,hN⟩:=hv
   have CF:=targetFault_any _ o ao n c w2 hN
   have hm:=Tryz.faultRe
   have hs:=qface_some
   clear hN HB2
   cases o with
   | none =>
    rw [show faultO 3 (none:Option (List Str)) = 3 from rfl] at CF
    go_wp2_with fail
    refine CF.mono ?_
    rintro e w3 ⟨rfl,hb3⟩
    have R:Hid _:=(PE.out w3 hb3).2 3 rfl (by decide)
    clear hb3 CF PE hm
    go_wp2
    go_ret2
    exact R.out
   | some xs =>
    rw [show faultO 3 (some xs) = 0 from rfl] at CF
    go_wp2_with fail
    refine CF.mono ?_
    rintro e w3 ⟨rfl,hb3⟩
    have R:Hid _:=(PE.out w3 hb3).1 rfl
    clear hb3 CF PE hm
    go_wp2
    go_ret2
    exact R.out
  | gl o =>
   obtain ⟨ao,n,c,rfl,hN⟩:=hv
   have CF:=globFault_any _ o ao n c w2 hN
   have hm:=Tryz.faultGl
   have hs:=qface_some
   clear hN HB2
   cases o with
   | none =>
    rw [show faultO 9 (none:Option (List Str)) = 9 from rfl] at CF
    go_wp2_with fail
    refine CF.mono ?_
    rintro e w3 ⟨rfl,hb3⟩
    have R:Hid _:=(PE.out w3 hb3).2 9 rfl (by decide)
    clear hb3 CF PE hm
    go_wp2
    go_ret2
    exact R.out
   | some xs =>
    rw [show faultO 9 (some xs) = 0 from rfl] at CF
    go_wp2_with fail
    refine CF.mono ?_
    rintro e w3 ⟨rfl,hb3⟩
    have R:Hid _:=(PE.out w3 hb3).1 rfl
    clear hb3 CF PE hm
    go_wp2
    go_ret2
    exact R.out
  | fi x ds =>
   obtain ⟨ao,n,c,rfl,hN⟩:=hv
   have CF:=firstFault_any _ x ds ao n c w2 (by have:=hq60.out x ds rfl;unfold maxLen;omega) hN
   have hm:=Tryz.faultFi
   have hs:=qface_some
   clear hN HB2
   by_cases hf:faultQ (.fi x ds) = 0
   ·rw [hf] at CF
    go_wp2_with fail
    refine CF.mono ?_
    rintro e w3 ⟨rfl,hb3⟩
    have R:Hid _:=(PE.out w3 hb3).1 hf
    clear hb3 CF PE hm
    go_wp2
    go_ret2
    exact R.out
   ·have hf3:faultQ (.fi x ds) = 3:=fault_three hf
    rw [hf3] at CF
    go_wp2_with fail
    refine CF.mono ?_
    rintro e w3 ⟨rfl,hb3⟩
    have R:Hid _:=(PE.out w3 hb3).2 3 hf3 (by decide)
    clear hb3 CF PE hm
    go_wp2
    go_ret2
    exact R.out

open Go.RowKit
set_option maxHeartbeats 1000000 in
theorem spellsByte_any (p c:UInt8) (w:World) :
  Calls Tryz.prog 178 #[.int .u8 p.toNat,.int .u8 c.toNat] w fun e w' => e = .returned (.bool (takesB p c))∧w' = w:=by
 have hp:p.toNat < 256:=p.toNat_lt
 have hc:c.toNat < 256:=c.toNat_lt
 have HB:Hid (takesB p c = (decide (p.toNat = 63) || decide (p.toNat = c.toNat))):=by
  unfold takesB
  rw [Hid,Bool.eq_iff_iff]
  simp only [Bool.or_eq_true,beq_iff_eq,decide_eq_true_eq,← UInt8.toNat_inj]
  rfl
 generalize p.toNat = a at *
 generalize c.toNat = b at *
 go_enter Tryz.func178,Tryz.ntmps178
 go_wp2
 all_goals
  go_ret
  refine ⟨ret_bool ?_,rfl⟩
  rw [HB.out,Bool.eq_iff_iff]
  simp
  omega
def BytesIn (w:World) (g o:Nat) (xs:List UInt8):Prop:=∀ k (h:k < xs.length),w.cell? ⟨g,o + k,none⟩ = some (.int .u8 (xs[k].toNat:Nat))
theorem BytesIn.drop {w:World} {g o:Nat} {xs:List UInt8} (h:BytesIn w g o xs) (k:Nat):BytesIn w g (o + k) (xs.drop k):=by
 intro j hj
 have hj' : j + k < xs.length:=by simp at hj;omega
 have:=h (j + k) hj'
 rw [List.getElem_drop,show o + k + j = o + (j + k) by omega,this]
 congr 4
 simp [Nat.add_comm]
theorem BytesIn.tail {w:World} {g o:Nat} {x:UInt8} {xs:List UInt8} (h:BytesIn w g o (x :: xs)):BytesIn w g (o + 1) xs:=h.drop 1
theorem BytesIn.cut {w:World} {g o:Nat} {xs:List UInt8} (h:BytesIn w g o xs) (k:Nat) (c:Prop) [Decidable c] (hc:c→xs.length ≤ k):∃ o',(if c then some (⟨g,o,none⟩ : Addr) else some ⟨g,o + k,none⟩) = some ⟨g,o',none⟩∧BytesIn w g o' (xs.drop k):=by
 by_cases h0:c
 ·exact ⟨o,by rw [if_pos h0],by rw [List.drop_eq_nil_of_le (hc h0)];exact fun j hj => by simp at hj⟩
 ·exact ⟨o + k,by rw [if_neg h0],h.drop k⟩
theorem BytesIn.head {w:World} {g o:Nat} {x:UInt8} {xs:List UInt8} (h:BytesIn w g o (x :: xs)):w.cell? ⟨g,o,none⟩ = some (.int .u8 (x.toNat:Nat)):=h 0 (by simp)
theorem BytesIn.drewN {w:World} {g o:Nat} {xs:List UInt8} (h:BytesIn w g o xs) (n:Nat):BytesIn (w.drewN n) g o xs:=h
theorem drewN_more (w:World) (n m:Nat):(w.drewN n).drewN m = w.drewN (n + m):=by simp
theorem laid_nilB (xs:List UInt8):laidL starB takesB [] xs = decide (xs.length = 0):=by cases xs <;> simp [laidL]
theorem laid_consB {p x:UInt8} {ps xs:List UInt8} (h:starB p = false):laidL starB takesB (p :: ps) (x :: xs) = (takesB p x && laidL starB takesB ps xs):=by simp [laidL,h]
theorem laid_endB {p:UInt8} {ps:List UInt8} (h:starB p = false):laidL starB takesB (p :: ps) [] = false:=by simp [laidL,h]
theorem laid_hitB {p:UInt8} {ps xs:List UInt8} {k:Nat} (h:starB p = true) (hk:k ≤ xs.length) (hl:laidL starB takesB ps (xs.drop k) = true):laidL starB takesB (p :: ps) xs = true:=by
 simp only [laidL,h,if_true]
 exact List.any_eq_true.2 ⟨k,by simp;omega,hl⟩
theorem laid_missB {p:UInt8} {ps xs:List UInt8} (h:starB p = true) (hl:∀ k,k ≤ xs.length→laidL starB takesB ps (xs.drop k) = false):laidL starB takesB (p :: ps) xs = false:=by
 simp only [laidL,h,if_true]
 exact List.any_eq_false.2 fun k hk => by simp at hk;rw [hl k (by omega)];simp
theorem star_int {p:UInt8}:starB p = ((p.toNat:Int) == 42):=by
 unfold starB
 rw [Bool.eq_iff_iff]
 simp only [beq_iff_eq,← UInt8.toNat_inj]
 constructor
 ·intro h;rw [h];rfl
 ·intro h;have:p.toNat = 42:=by omega
  exact this
set_option maxHeartbeats 8000000 in
set_option maxRecDepth 50000 in
theorem isLaidB_any:∀ (ps xs:List UInt8) (gp op cp gi oi ci:Nat) (w:World),BytesIn w gp op ps→BytesIn w gi oi xs→ps.length ≤ cp→cp ≤ 9223372036854775807→xs.length ≤ ci→ci ≤ 9223372036854775807→ps.length ≤ 1000→xs.length ≤ 1000 →
  Calls Tryz.prog 177 #[.slice (some ⟨gi,oi,none⟩) xs.length ci,.slice (some ⟨gp,op,none⟩) ps.length cp,.int .u8 42,.func (.func 178) #[] #[]] w fun e w' => e = .returned (.bool (laidL starB takesB ps xs))∧∃ m,w' = w.drewN m:=by
 intro ps
 induction ps with
 | nil =>
  intro xs gp op cp gi oi ci w hp hx h1 h2 h3 h4 h5 h6
  have R:Hid _:=laid_nilB xs
  clear hp hx
  cases xs with
  | nil =>
   go_enter Tryz.func177,Tryz.ntmps177
   go_wp2
   go_ret
   exact ⟨by rw [R.out];rfl,0,rfl⟩
  | cons x xs =>
   have hne:¬ ((xs.length:Int) + 1) = 0:=by omega
   go_enter Tryz.func177,Tryz.ntmps177
   go_wp2
   go_ret
   exact ⟨by rw [R.out];simp;omega,0,rfl⟩
 | cons p ps ih =>
  intro xs gp op cp gi oi ci w hp hx h1 h2 h3 h4 h5 h6
  obtain ⟨cp',hcp⟩ : ∃ c,cp = c + 1:=⟨cp - 1,by simp at h1;omega⟩
  subst hcp
  simp only [List.length_cons] at h1 h5 ⊢
  have c0:=hp.head
  have hpi:((ps.length:Int) + 1) ≤ ((cp' : Int) + 1):=by omega
  cases hs:starB p
  ·have hs' : ((p.toNat:Int) == 42) = false:=by rw [← star_int];exact hs
   cases xs with
   | nil =>
    have R:Hid _:=laid_endB (ps:=ps) hs
    clear ih hp hx
    go_enter Tryz.func177,Tryz.ntmps177
    go_wp2_with fail
    go_quiet (fail)
    go_wp2
    go_ret
    exact ⟨by rw [R.out];rfl,_,rfl⟩
   | cons x xs =>
    obtain ⟨ci',hci⟩ : ∃ c,ci = c + 1:=⟨ci - 1,by simp at h3;omega⟩
    subst hci
    simp only [List.length_cons] at h3 h6 ⊢
    have cx:=hx.head
    have hxi:(0:Int) < ((xs.length:Int) + 1):=by omega
    have hxc:((xs.length:Int) + 1) ≤ ((ci' : Int) + 1):=by omega
    have hx1:(1:Int) ≤ ((xs.length:Int) + 1):=by omega
    have hp1:(1:Int) ≤ ((ps.length:Int) + 1):=by omega
    have hx2:(xs.length:Int) ≤ (ci' : Int):=by omega
    have hp2:(ps.length:Int) ≤ (cp' : Int):=by omega
    have R:Hid _:=laid_consB (ps:=ps) (xs:=xs) (x:=x) hs
    have CS:=fun W => spellsByte_any p x W
    obtain ⟨oi1,ei1,hx1'⟩:=BytesIn.cut hx 1 (ci' = 0) (fun h => by simp only [List.length_cons];omega)
    obtain ⟨op1,ep1,hp1'⟩:=BytesIn.cut hp 1 (cp' = 0) (fun h => by simp only [List.length_cons];omega)
    have CI:Hid (∀ n,Calls Tryz.prog 177 #[.slice (some ⟨gi,oi1,none⟩) xs.length ci',.slice (some ⟨gp,op1,none⟩) ps.length cp',.int .u8 42,.func (.func 178) #[] #[]] (w.drewN n) fun e w' => e = .returned (.bool (laidL starB takesB ps xs))∧∃ m,w' = (w.drewN n).drewN m):=fun n => ih xs gp op1 cp' gi oi1 ci' (w.drewN n) (hp1'.drewN n) (hx1'.drewN n) (by omega) (by omega) (by omega) (by omega) (by omega) (by omega)
    clear ih hp hx hx1' hp1'
    cases ht:takesB p x
    ·rw [ht] at CS R
     go_enter Tryz.func177,Tryz.ntmps177
     go_wp2_with fail
     go_quiet (first | (go_at_call 178;exact Calls.quiet_of_same (CS _)))
     go_wp2
     go_ret
     exact ⟨by rw [R.out];rfl,_,rfl⟩
    ·rw [ht] at CS R
     have hE:∀ args W,(callFunc 177 args).run Tryz.prog W = .ok (.enter 177 args) W:=enters_of Tryz.func177 (by kernel_rfl) rfl
     generalize laidL starB takesB ps xs = b at *
     go_enter Tryz.func177,Tryz.ntmps177
     go_wp2_with fail
     go_quiet (first | (go_at_call 178;exact Calls.quiet_of_same (CS _)) | (go_at_call 177;exact Calls.quiet_of (CI.out _)))
     go_wp2
     go_ret
     exact ⟨by rw [R.out];simp,_,rfl⟩
  ·have hs' : ((p.toNat:Int) == 42) = true:=by rw [← star_int];exact hs
   have HIT:Hid (∀ k,k ≤ xs.length→laidL starB takesB ps (xs.drop k) = true→laidL starB takesB (p :: ps) xs = true):=fun k hk h => laid_hitB hs hk h
   have MISS:Hid ((∀ k,k ≤ xs.length→laidL starB takesB ps (xs.drop k) = false)→laidL starB takesB (p :: ps) xs = false):=fun h => laid_missB hs h
   obtain ⟨op1,ep1,hp1'⟩:=BytesIn.cut hp 1 (cp' = 0) (fun h => by simp only [List.length_cons];omega)
   have hp1:(1:Int) ≤ ((ps.length:Int) + 1):=by omega
   have hp2:(ps.length:Int) ≤ (cp' : Int):=by omega
   have CUT:Hid (∀ k,k ≤ xs.length→∃ o',(if ci = k then some (⟨gi,oi,none⟩ : Addr) else some ⟨gi,oi + k,none⟩) = some ⟨gi,o',none⟩∧BytesIn w gi o' (xs.drop k)):=fun k hk => BytesIn.cut hx k (ci = k) (fun h => by omega)
   have CI:Hid (∀ k (W:World) o',(∃ n,W = w.drewN n)→k ≤ xs.length→BytesIn w gi o' (xs.drop k)→Calls Tryz.prog 177 #[.slice (some ⟨gi,o',none⟩) (xs.length - k) (ci - k),.slice (some ⟨gp,op1,none⟩) ps.length cp',.int .u8 42,.func (.func 178) #[] #[]] W fun e w' => e = .returned (.bool (laidL starB takesB ps (xs.drop k)))∧∃ m,w' = W.drewN m):=fun k W o' hW hk hB => by
    obtain ⟨n,rfl⟩:=hW
    have:=ih (xs.drop k) gp op1 cp' gi o' (ci - k) (w.drewN n) (hp1'.drewN n) (hB.drewN n) (by omega) (by omega) (by simp;omega) (by omega) (by omega) (by simp;omega)
    rw [List.length_drop] at this
    exact this
   clear ih hp hx hp1'
   go_enter Tryz.func177,Tryz.ntmps177
   go_wp2
   go_loopw [46] (fun i wr => ∃ k n:Nat,k ≤ xs.length + 1∧i = .int .i64 k∧wr = w.drewN n∧∀ j,j < k→j ≤ xs.length→laidL starB takesB ps (xs.drop j) = false) (fun i _ => xs.length + 1 - (intOf i).toNat)
   case atStart => exact ⟨0,0,Nat.zero_le _,rfl,rfl,fun j h => by omega⟩
   case round =>
    obtain ⟨k,n,hk,rfl,hwr,hall⟩:=hrel
    have HWR:Hid _:=hwr
    clear c0 hwr
    by_cases hlt:k ≤ xs.length
    ·have hki:(k:Int) < ((xs.length:Int) + 1):=by omega
     have hki2:(k:Int) ≤ (xs.length:Int):=by omega
     have hkc:(xs.length:Int) ≤ (ci:Int):=by omega
     obtain ⟨oi2,ei2,hx2⟩:=CUT.out k hlt
     have CK:Hid _:=fun m => CI.out k (wr.drewN m) oi2 ⟨n + m,by rw [HWR.out];exact drewN_more w n m⟩ hlt hx2
     clear hx2
     have HA:Hid _:=hall
     have HH:Hid _:=HIT.out k hlt
     clear hall HIT CI
     cases hb:laidL starB takesB ps (xs.drop k)
     ·rw [hb] at CK
      go_wp2_with fail
      go_quiet (first | (go_at_call 177;exact Calls.quiet_of (CK.out _)))
      go_wp2
      go_roundw
      case rel => exact ⟨k + 1,n + nq,by omega,by go_num,by rw [HWR.out];exact drewN_more w n nq,fun j hj hjl => by
       by_cases e:j = k
       ·subst e;exact hb
       ·exact HA.out j (by omega) hjl⟩
      case measure => simp [intOf];omega
     ·have R:Hid _:=HH.out hb
      rw [hb] at CK
      go_wp2_with fail
      go_quiet (first | (go_at_call 177;exact Calls.quiet_of (CK.out _)))
      go_wp2
      go_ret
      exact ⟨by rw [R.out];rfl,n + nq,by rw [HWR.out];exact drewN_more w n nq⟩
    ·have R:Hid _:=MISS.out (fun j hj => hall j (by omega) hj)
     have hki:¬ (k:Int) < ((xs.length:Int) + 1):=by omega
     clear hall HIT MISS CI
     go_wp2
     go_ret
     exact ⟨by rw [R.out];rfl,n,HWR.out⟩

open Go.RowKit
theorem bytes_below (w:World) (e:TypeId) (s:ByteArray):Below w.heap.size w (Lib.bytesWorld w e s):=by
 refine ⟨?_,?_,?_,?_,fun k hk => Lib.bytesWorld_at_old w e s k hk⟩
 ·simp [Lib.bytesWorld,World.freeze,World.alloc,World.drew,-World.alloc_eq,-World.drew_eq]
 ·simp [Lib.bytesWorld,World.freeze,World.alloc,World.drew,-World.alloc_eq,-World.drew_eq]
 ·simp [Lib.bytesWorld,World.freeze,World.alloc,World.drew,-World.alloc_eq,-World.drew_eq]
 ·rw [Lib.bytesWorld_size];omega
theorem bytes_in (w:World) (e:TypeId) (s:Str):BytesIn (Lib.bytesWorld w e ⟨s.toArray⟩) w.heap.size 0 s:=by
 intro k hk
 rw [Nat.zero_add,Lib.bytesWorld_cell w e ⟨s.toArray⟩ k (by simpa [ByteArray.size] using hk)]
 simp [List.getD,hk]
theorem BytesIn.below {w w' : World} {g o:Nat} {xs:List UInt8} (h:BytesIn w g o xs) (hg:g < w.heap.size) (hb:Below w.heap.size w w'):BytesIn w' g o xs :=
 fun k hk => (hb.cell (p:=⟨g,o + k,none⟩) hg).trans (h k hk)
set_option maxHeartbeats 2000000 in
set_option maxRecDepth 50000 in
theorem spells_any (part name:Str) (w:World) (hp:part.length ≤ 1000) (hn:name.length ≤ 1000) :
  Calls Tryz.prog 150 #[SV part,SV name] w fun e w' => e = .returned (.bool (spelledL part name))∧Below w.heap.size w w':=by
 have h1:=Lib.run_convert_string_bytes (P:=Tryz.prog) w 9 92 5 ⟨name.toArray⟩ (u:=.string) Tryz.underlying9 Tryz.underlying92 Tryz.underlying5
 have b1:=bytes_below w 5 ⟨name.toArray⟩
 have i1:=bytes_in w 5 name
 have z1:=Lib.bytesWorld_size w 5 ⟨name.toArray⟩
 have g1:=grownCap_ge w name.length 0 5
 have m1:=grownCap_le_maxLen w name.length 0 5 (by unfold maxLen;omega)
 rw [show (ByteArray.mk name.toArray).size = name.length by simp [ByteArray.size]] at h1
 generalize grownCap w name.length 0 5 = k1 at *
 generalize Lib.bytesWorld w 5 ⟨name.toArray⟩ = w1 at *
 have h2:=Lib.run_convert_string_bytes (P:=Tryz.prog) w1 9 92 5 ⟨part.toArray⟩ (u:=.string) Tryz.underlying9 Tryz.underlying92 Tryz.underlying5
 have b2:=bytes_below w1 5 ⟨part.toArray⟩
 have i2:=bytes_in w1 5 part
 have g2:=grownCap_ge w1 part.length 0 5
 have m2:=grownCap_le_maxLen w1 part.length 0 5 (by unfold maxLen;omega)
 rw [show (ByteArray.mk part.toArray).size = part.length by simp [ByteArray.size]] at h2
 generalize grownCap w1 part.length 0 5 = k2 at *
 generalize Lib.bytesWorld w1 5 ⟨part.toArray⟩ = w2 at *
 unfold maxLen at m1 m2
 have C:=isLaidB_any part name w1.heap.size 0 k2 w.heap.size 0 k1 w2 i2 (i1.below (by omega) b2) g2 m2 g1 m1 hp hn
 rw [z1] at C
 have HB:Hid (Below w.heap.size w w2):=b1.trans (b2.mono b1.size)
 have HS:Hid (spelledL part name = laidL starB takesB part name):=rfl
 generalize laidL starB takesB part name = b at *
 clear i1 i2 b1 b2 g1 g2
 go_enter Tryz.func150,Tryz.ntmps150
 go_wp2_with (go_at_call 177;refine C.mono ?_;rintro e w3 ⟨rfl,n,rfl⟩)
 go_ret
 exact ⟨by rw [HS.out];rfl,below_drewN HB.out _⟩
end Go.Proofs.YtdcbgfhkfmohiaaGreatDoor

namespace Go.Proofs.YtdcbgfhkfmohiaaGreatDoor
open Go.RowKit Go.Sort
def NamesIn (w:World) (g o:Nat) (xs:List Str):Prop:=g < w.heap.size∧∀ k (h:k < xs.length),w.cell? ⟨g,o + k,none⟩ = some (SV xs[k])
theorem NamesIn.drop {w:World} {g o:Nat} {xs:List Str} (h:NamesIn w g o xs) (k:Nat):NamesIn w g (o + k) (xs.drop k):=by
 refine ⟨h.1,?_⟩
 intro j hj
 have hj' : j + k < xs.length:=by simp at hj;omega
 have:=h.2 (j + k) hj'
 rw [List.getElem_drop,show o + k + j = o + (j + k) by omega,this]
 congr 2
 simp [Nat.add_comm]
theorem NamesIn.head {w:World} {g o:Nat} {x:Str} {xs:List Str} (h:NamesIn w g o (x :: xs)):w.cell? ⟨g,o,none⟩ = some (SV x):=h.2 0 (by simp)
theorem NamesIn.below {w w' : World} {g o:Nat} {xs:List Str} (h:NamesIn w g o xs) (hb:Below w.heap.size w w'):NamesIn w' g o xs :=
 ⟨Nat.lt_of_lt_of_le h.1 hb.size,fun k hk => (hb.cell (p:=⟨g,o + k,none⟩) h.1).trans (h.2 k hk)⟩
theorem NamesIn.cut {w:World} {g o:Nat} {xs:List Str} (h:NamesIn w g o xs) (k:Nat) (c:Prop) [Decidable c] (hc:c→xs.length ≤ k):∃ o',(if c then some (⟨g,o,none⟩ : Addr) else some ⟨g,o + k,none⟩) = some ⟨g,o',none⟩∧NamesIn w g o' (xs.drop k):=by
 by_cases h0:c
 ·exact ⟨o,by rw [if_pos h0],by rw [List.drop_eq_nil_of_le (hc h0)];exact ⟨h.1,fun j hj => by simp at hj⟩⟩
 ·exact ⟨o + k,by rw [if_neg h0],h.drop k⟩
theorem laid_nilS (xs:List Str):laidL runS spelledL [] xs = decide (xs.length = 0):=by cases xs <;> simp [laidL]
theorem laid_consS {p x:Str} {ps xs:List Str} (h:runS p = false):laidL runS spelledL (p :: ps) (x :: xs) = (spelledL p x && laidL runS spelledL ps xs):=by simp [laidL,h]
theorem laid_endS {p:Str} {ps:List Str} (h:runS p = false):laidL runS spelledL (p :: ps) [] = false:=by simp [laidL,h]
theorem laid_hitS {p:Str} {ps xs:List Str} {k:Nat} (h:runS p = true) (hk:k ≤ xs.length) (hl:laidL runS spelledL ps (xs.drop k) = true):laidL runS spelledL (p :: ps) xs = true:=by
 simp only [laidL,h,if_true]
 exact List.any_eq_true.2 ⟨k,by simp;omega,hl⟩
theorem laid_missS {p:Str} {ps xs:List Str} (h:runS p = true) (hl:∀ k,k ≤ xs.length→laidL runS spelledL ps (xs.drop k) = false):laidL runS spelledL (p :: ps) xs = false:=by
 simp only [laidL,h,if_true]
 exact List.any_eq_false.2 fun k hk => by simp at hk;rw [hl k (by omega)];simp
def LaidSIn (w:World) (xs ps:List Str) (gi oi ci gp op cp:Nat):Prop:=∀ W,Below w.heap.size w W→Calls Tryz.prog 149 #[.slice (some ⟨gi,oi,none⟩) xs.length ci,.slice (some ⟨gp,op,none⟩) ps.length cp,SV [42,42],.func (.func 150) #[] #[]] W fun e w' => e = .returned (.bool (laidL runS spelledL ps xs))∧Below W.heap.size W w'
set_option maxHeartbeats 8000000 in
set_option maxRecDepth 50000 in
theorem laidS_end (p:Str) (ps:List Str) (gp op cp gi oi ci:Nat) (w:World) (c0:w.cell? ⟨gp,op,none⟩ = some (SV p)) (_hpi:((ps.length:Int) + 1) ≤ ((cp:Int) + 1)) (h5:ps.length ≤ 1000) (hs:runS p = false) :
  Calls Tryz.prog 149 #[.slice (some ⟨gi,oi,none⟩) 0 ci,.slice (some ⟨gp,op,none⟩) (ps.length + 1) (cp + 1),SV [42,42],.func (.func 150) #[] #[]] w fun e w' => e = .returned (.bool (laidL runS spelledL (p :: ps) []))∧Below w.heap.size w w':=by
 have hs' : (p == [42,42]) = false:=hs
 have R:Hid _:=laid_endS (ps:=ps) hs
 go_enter Tryz.func149,Tryz.ntmps149
 go_wp2_with fail
 go_quiet (fail)
 go_wp2
 go_ret
 exact ⟨by rw [R.out];rfl,below_drewN (Below.refl _ _) _⟩
set_option maxHeartbeats 8000000 in
set_option maxRecDepth 50000 in
theorem laidS_one (p x:Str) (ps xs:List Str) (gp op cp' op1 gi oi ci' oi1:Nat) (w:World) (c0:w.cell? ⟨gp,op,none⟩ = some (SV p)) (cx:w.cell? ⟨gi,oi,none⟩ = some (SV x))
  (h1:ps.length ≤ cp') (h3:xs.length ≤ ci') (_h4:ci' + 1 ≤ 9223372036854775807) (_h2:cp' + 1 ≤ 9223372036854775807) (h5:ps.length ≤ 1000) (h6:xs.length ≤ 1000) (h7p:p.length ≤ 1000) (h8x:x.length ≤ 1000)
  (ep1:(if cp' = 0 then some (⟨gp,op,none⟩ : Addr) else some ⟨gp,op + 1,none⟩) = some ⟨gp,op1,none⟩) (ei1:(if ci' = 0 then some (⟨gi,oi,none⟩ : Addr) else some ⟨gi,oi + 1,none⟩) = some ⟨gi,oi1,none⟩)
  (hs:runS p = false) (hI:LaidSIn w xs ps gi oi1 ci' gp op1 cp') :
  Calls Tryz.prog 149 #[.slice (some ⟨gi,oi,none⟩) (xs.length + 1) (ci' + 1),.slice (some ⟨gp,op,none⟩) (ps.length + 1) (cp' + 1),SV [42,42],.func (.func 150) #[] #[]] w fun e w' => e = .returned (.bool (laidL runS spelledL (p :: ps) (x :: xs)))∧Below w.heap.size w w':=by
 have hE:∀ args W,(callFunc 150 args).run Tryz.prog W = .ok (.enter 150 args) W:=enters_of Tryz.func150 (by kernel_rfl) rfl
 have hs' : (p == [42,42]) = false:=hs
 have hpi:((ps.length:Int) + 1) ≤ ((cp' : Int) + 1):=by omega
 have hp1:(1:Int) ≤ ((ps.length:Int) + 1):=by omega
 have hp2:(ps.length:Int) ≤ (cp' : Int):=by omega
 have hxi:(0:Int) < ((xs.length:Int) + 1):=by omega
 have hxc:((xs.length:Int) + 1) ≤ ((ci' : Int) + 1):=by omega
 have hx1:(1:Int) ≤ ((xs.length:Int) + 1):=by omega
 have hx2:(xs.length:Int) ≤ (ci' : Int):=by omega
 have R:Hid _:=laid_consS (ps:=ps) (xs:=xs) (x:=x) hs
 have c0r:=fun d os => cell_regrown c0 d os
 have cxr:=fun d os => cell_regrown cx d os
 have CS:Hid (∀ d os,Calls Tryz.prog 150 #[SV p,SV x] (grow (redrawn w d) os) fun e w'' => e = .returned (.bool (spelledL p x))∧∃ q:Regrown,w'' = grow (redrawn w q.d) q.os):=fun d os => Calls.regrown_of (spells_any p x _ h7p h8x)
 have CI:Hid (∀ d os,Calls Tryz.prog 149 #[.slice (some ⟨gi,oi1,none⟩) xs.length ci',.slice (some ⟨gp,op1,none⟩) ps.length cp',SV [42,42],.func (.func 150) #[] #[]] (grow (redrawn w d) os) fun e w'' => e = .returned (.bool (laidL runS spelledL ps xs))∧∃ q:Regrown,w'' = grow (redrawn w q.d) q.os):=fun d os =>
  Calls.regrown_of (hI _ (below_regrown w d os))
 clear hI
 cases ht:spelledL p x
 ·rw [ht] at CS R
  clear CI
  go_enter Tryz.func149,Tryz.ntmps149
  go_wp2_with fail
  refine wp_region_quiet_below (by kernel_rfl) (by kernel_rfl) ?_
  repeat (quiet_step (first | (go_at_call 150;exact CS.out _ _)))
  refine wpQuiet_nil ?_
  rintro w' ⟨q,rfl⟩
  go_wp2
  go_ret
  exact ⟨by rw [R.out];rfl,below_regrown _ _ _⟩
 ·rw [ht] at CS R
  have hE2:∀ args W,(callFunc 149 args).run Tryz.prog W = .ok (.enter 149 args) W:=enters_of Tryz.func149 (by kernel_rfl) rfl
  generalize laidL runS spelledL ps xs = b at *
  go_enter Tryz.func149,Tryz.ntmps149
  go_wp2_with fail
  refine wp_region_quiet_below (by kernel_rfl) (by kernel_rfl) ?_
  repeat (quiet_step (first | (go_at_call 150;exact CS.out _ _) | (go_at_call 149;exact CI.out _ _)))
  refine wpQuiet_nil ?_
  rintro w' ⟨q,rfl⟩
  go_wp2
  go_ret
  exact ⟨by rw [R.out];simp,below_regrown _ _ _⟩

open Go.RowKit Go.Sort
set_option maxHeartbeats 8000000 in
set_option maxRecDepth 50000 in
theorem laidS_run (p:Str) (ps xs:List Str) (gp op cp' op1 gi oi ci:Nat) (w:World) (c0:w.cell? ⟨gp,op,none⟩ = some (SV p)) (hx:NamesIn w gi oi xs)
  (h1:ps.length ≤ cp') (h3:xs.length ≤ ci) (_h4:ci ≤ 9223372036854775807) (_h2:cp' + 1 ≤ 9223372036854775807) (h5:ps.length ≤ 1000) (h6:xs.length ≤ 1000)
  (ep1:(if cp' = 0 then some (⟨gp,op,none⟩ : Addr) else some ⟨gp,op + 1,none⟩) = some ⟨gp,op1,none⟩)
  (hs:runS p = true) (hI:∀ k o',k ≤ xs.length→NamesIn w gi o' (xs.drop k)→LaidSIn w (xs.drop k) ps gi o' (ci - k) gp op1 cp') :
  Calls Tryz.prog 149 #[.slice (some ⟨gi,oi,none⟩) xs.length ci,.slice (some ⟨gp,op,none⟩) (ps.length + 1) (cp' + 1),SV [42,42],.func (.func 150) #[] #[]] w fun e w' => e = .returned (.bool (laidL runS spelledL (p :: ps) xs))∧Below w.heap.size w w':=by
 have hs' : (p == [42,42]) = true:=hs
 have hpi:((ps.length:Int) + 1) ≤ ((cp' : Int) + 1):=by omega
 have hne0:((ps.length:Int) + 1 == 0) = false:=by rw [beq_eq_false_iff_ne];omega
 have hp1:(1:Int) ≤ ((ps.length:Int) + 1):=by omega
 have hp2:(ps.length:Int) ≤ (cp' : Int):=by omega
 have HIT:Hid (∀ k,k ≤ xs.length→laidL runS spelledL ps (xs.drop k) = true→laidL runS spelledL (p :: ps) xs = true):=fun k hk h => laid_hitS hs hk h
 have MISS:Hid ((∀ k,k ≤ xs.length→laidL runS spelledL ps (xs.drop k) = false)→laidL runS spelledL (p :: ps) xs = false):=fun h => laid_missS hs h
 have CUT:Hid (∀ k,k ≤ xs.length→∃ o',(if ci = k then some (⟨gi,oi,none⟩ : Addr) else some ⟨gi,oi + k,none⟩) = some ⟨gi,o',none⟩∧NamesIn w gi o' (xs.drop k)):=fun k hk => NamesIn.cut hx k (ci = k) (fun h => by omega)
 have CI:Hid (∀ k (W:World) o',Below w.heap.size w W→k ≤ xs.length→NamesIn w gi o' (xs.drop k)→Calls Tryz.prog 149 #[.slice (some ⟨gi,o',none⟩) (xs.length - k) (ci - k),.slice (some ⟨gp,op1,none⟩) ps.length cp',SV [42,42],.func (.func 150) #[] #[]] W fun e w' => e = .returned (.bool (laidL runS spelledL ps (xs.drop k)))∧Below W.heap.size W w'):=fun k W o' hW hk hB => by
  have:=hI k o' hk hB W hW
  rw [List.length_drop] at this
  exact this
 have hE2:∀ args W,(callFunc 149 args).run Tryz.prog W = .ok (.enter 149 args) W:=enters_of Tryz.func149 (by kernel_rfl) rfl
 clear hx hI
 go_enter Tryz.func149,Tryz.ntmps149
 go_wp2
 go_loopw [46] (fun i wr => ∃ k:Nat,k ≤ xs.length + 1∧i = .int .i64 k∧Below w.heap.size w wr∧∀ j,j < k→j ≤ xs.length→laidL runS spelledL ps (xs.drop j) = false) (fun i _ => xs.length + 1 - (intOf i).toNat)
 case atStart => exact ⟨0,Nat.zero_le _,rfl,Below.refl _ _,fun j h => by omega⟩
 case round =>
  obtain ⟨k,hk,rfl,hb,hall⟩:=hrel
  have HB:Hid _:=hb
  clear c0 hb
  by_cases hlt:k ≤ xs.length
  ·have hki:(k:Int) < ((xs.length:Int) + 1):=by omega
   have hki2:(k:Int) ≤ (xs.length:Int):=by omega
   have hkc:(xs.length:Int) ≤ (ci:Int):=by omega
   obtain ⟨oi2,ei2,hx2⟩:=CUT.out k hlt
   have CK:Hid (∀ d os,Calls Tryz.prog 149 #[.slice (some ⟨gi,oi2,none⟩) (xs.length - k) (ci - k),.slice (some ⟨gp,op1,none⟩) ps.length cp',SV [42,42],.func (.func 150) #[] #[]] (grow (redrawn wr d) os) fun e w'' => e = .returned (.bool (laidL runS spelledL ps (xs.drop k)))∧∃ q:Regrown,w'' = grow (redrawn wr q.d) q.os):=fun d os =>
    Calls.regrown_of (CI.out k _ oi2 (HB.out.trans ((below_regrown wr d os).mono HB.out.size)) hlt hx2)
   have HA:Hid _:=hall
   have HH:Hid _:=HIT.out k hlt
   clear hall HIT CI hx2
   cases hb:laidL runS spelledL ps (xs.drop k)
   ·rw [hb] at CK
    go_wp2_with fail
    refine wp_region_quiet_below (by kernel_rfl) (by kernel_rfl) ?_
    repeat (quiet_step (first | (go_at_call 149;exact CK.out _ _)))
    refine wpQuiet_nil ?_
    intro w' hw'
    have hb' : Below wr.heap.size wr w':=by
     obtain ⟨q,rfl⟩:=hw'
     exact below_regrown _ _ _
    have HB' : Hid _:=hb'
    clear hw' hb'
    go_wp2
    go_roundw
    case rel => exact ⟨k + 1,by omega,by go_num,HB.out.trans (HB'.out.mono HB.out.size),fun j hj hjl => by
     by_cases e:j = k
     ·subst e;exact hb
     ·exact HA.out j (by omega) hjl⟩
    case measure => simp [intOf];omega
   ·have R:Hid _:=HH.out hb
    rw [hb] at CK
    go_wp2_with fail
    refine wp_region_quiet_below (by kernel_rfl) (by kernel_rfl) ?_
    repeat (quiet_step (first | (go_at_call 149;exact CK.out _ _)))
    refine wpQuiet_nil ?_
    intro w' hw'
    have hb' : Below wr.heap.size wr w':=by
     obtain ⟨q,rfl⟩:=hw'
     exact below_regrown _ _ _
    have HB' : Hid _:=hb'
    clear hw' hb'
    go_wp2
    go_ret
    exact ⟨by rw [R.out];rfl,HB.out.trans (HB'.out.mono HB.out.size)⟩
  ·have R:Hid _:=MISS.out (fun j hj => hall j (by omega) hj)
   have hki:¬ (k:Int) < ((xs.length:Int) + 1):=by omega
   clear hall HIT MISS CI
   go_wp2
   go_ret
   exact ⟨by rw [R.out];rfl,HB.out⟩

open Go.RowKit Go.Sort
set_option maxHeartbeats 1000000 in
theorem isLaidS_any:∀ (ps xs:List Str) (gp op cp gi oi ci:Nat) (w:World),NamesIn w gp op ps→NamesIn w gi oi xs→ps.length ≤ cp→cp ≤ 9223372036854775807→xs.length ≤ ci→ci ≤ 9223372036854775807→ps.length ≤ 1000→xs.length ≤ 1000→(∀ x ∈ ps,x.length ≤ 1000)→(∀ x ∈ xs,x.length ≤ 1000) →
  Calls Tryz.prog 149 #[.slice (some ⟨gi,oi,none⟩) xs.length ci,.slice (some ⟨gp,op,none⟩) ps.length cp,SV [42,42],.func (.func 150) #[] #[]] w fun e w' => e = .returned (.bool (laidL runS spelledL ps xs))∧Below w.heap.size w w':=by
 intro ps
 induction ps with
 | nil =>
  intro xs gp op cp gi oi ci w hp hx h1 h2 h3 h4 h5 h6 h7 h8
  have R:Hid _:=laid_nilS xs
  clear hp hx
  cases xs with
  | nil =>
   go_enter Tryz.func149,Tryz.ntmps149
   go_wp2
   go_ret
   exact ⟨by rw [R.out];rfl,Below.refl _ _⟩
  | cons x xs =>
   have hne:¬ ((xs.length:Int) + 1) = 0:=by omega
   go_enter Tryz.func149,Tryz.ntmps149
   go_wp2
   go_ret
   exact ⟨by rw [R.out];simp;omega,Below.refl _ _⟩
 | cons p ps ih =>
  intro xs gp op cp gi oi ci w hp hx h1 h2 h3 h4 h5 h6 h7 h8
  obtain ⟨cp',hcp⟩ : ∃ c,cp = c + 1:=⟨cp - 1,by simp at h1;omega⟩
  subst hcp
  simp only [List.length_cons] at h1 h5 ⊢
  obtain ⟨op1,ep1,hp1'⟩:=NamesIn.cut hp 1 (cp' = 0) (fun h => by simp only [List.length_cons];omega)
  have h7' : ∀ x ∈ ps,x.length ≤ 1000:=fun x hx => h7 x (by simp [hx])
  cases hs:runS p
  ·cases xs with
   | nil => exact laidS_end p ps gp op cp' gi oi ci w hp.head (by omega) (by omega) hs
   | cons x xs =>
    obtain ⟨ci',hci⟩ : ∃ c,ci = c + 1:=⟨ci - 1,by simp at h3;omega⟩
    subst hci
    simp only [List.length_cons] at h3 h6 ⊢
    obtain ⟨oi1,ei1,hx1'⟩:=NamesIn.cut hx 1 (ci' = 0) (fun h => by simp only [List.length_cons];omega)
    exact laidS_one p x ps xs gp op cp' op1 gi oi ci' oi1 w hp.head hx.head (by omega) (by omega) h4 h2 (by omega) (by omega) (h7 p (by simp)) (h8 x (by simp)) ep1 ei1 hs (fun W hW =>
     ih xs gp op1 cp' gi oi1 ci' W (hp1'.below hW) (hx1'.below hW) (by omega) (by omega) (by omega) (by omega) (by omega) (by omega) h7' (fun y hy => h8 y (by simp [hy])))
  ·exact laidS_run p ps xs gp op cp' op1 gi oi ci w hp.head hx (by omega) h3 h4 h2 (by omega) h6 ep1 hs (fun k o' hk hN W hW =>
    ih (xs.drop k) gp op1 cp' gi o' (ci - k) W (hp1'.below hW) (hN.below hW) (by omega) (by omega) (by simp;omega) (by omega) (by omega) (by simp;omega) h7' (fun y hy => h8 y (List.mem_of_mem_drop hy)))
set_option maxHeartbeats 2000000 in
set_option maxRecDepth 50000 in
theorem prgFits_any (path:Str) (ps:List Str) (g n c:Nat) (w:World) (hn:NamesAt w (.slice (some ⟨g,0,none⟩) n c) ps) (hg:g < w.heap.size) (h1:ps.length ≤ 1000) (h2:∀ x ∈ ps,x.length ≤ 1000) (h3:path.length ≤ 900) :
  Calls Tryz.prog 118 #[SV path,.slice (some ⟨g,0,none⟩) n c] w fun e w' => e = .returned (.bool (laidL runS spelledL ps (splitL 47 path)))∧Below w.heap.size w w':=by
 have hl:=splitL_len 47 path
 have hpc:=splitL_piece 47 path
 have hne:=splitL_ne 47 path
 obtain ⟨ao,cap,e0,hc,hm,hcell⟩:=hn
 simp only [Value.slice.injEq] at e0
 obtain ⟨rfl,rfl,rfl⟩:=e0
 have hP:NamesIn w g 0 ps:=⟨hg,fun k hk => by
  obtain ⟨g',o',e,_,h7⟩:=hcell k hk
  simp only [Option.some.injEq,Addr.mk.injEq] at e
  obtain ⟨rfl,rfl,_⟩:=e
  exact h7⟩
 clear hcell
 go_enter Tryz.func118,Tryz.ntmps118
 go_wp2_with fail
 refine (prgSplit_any path 47 w (by omega)).mono ?_
 rintro e w1 ⟨v1,rfl,hown1,hb1⟩
 rcases strs_cells hown1 with ⟨rfl,h0,h4⟩ | ⟨g1,cap1,rfl,hn1,hg1,hgb1,hcap1,hm1,hcell1⟩
 ·exact absurd h4 hne
 have C:=isLaidS_any ps (splitL 47 path) g 0 c g1 0 cap1 w1 (hP.below hb1) ⟨hg1,fun k hk => by rw [Nat.zero_add];exact hcell1 k hk⟩ hc (by unfold maxLen at hm;omega) hcap1 (by unfold maxLen at hm1;omega) h1 (by omega) h2 (fun x hx => by have:=hpc x hx;omega)
 have HB1:Hid _:=hb1
 clear hown1 hcell1 hP hb1 hpc
 generalize hbb:laidL runS spelledL ps (splitL 47 path) = b at *
 have HBB:Hid _:=hbb
 clear hbb
 go_wp2_with (go_at_call 149;refine C.mono ?_;rintro e w2 ⟨rfl,hb2⟩)
 go_ret
 exact ⟨by rw [HBB.out];rfl,HB1.out.trans (hb2.mono HB1.out.size)⟩
end Go.Proofs.YtdcbgfhkfmohiaaGreatDoor
