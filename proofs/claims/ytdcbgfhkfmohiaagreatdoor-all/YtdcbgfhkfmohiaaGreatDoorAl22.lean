/- Rule: the program's call. -/
import Derived.Test.YtdcbgfhkfmohiaaGreatDoorAl21
import Derived.Sort.KeysCollected
import Derived.Shelf.SlIter.Nil
import Derived.Shelf.SortM.Plain
import Derived.Shelf.SortM.SortNone
import Derived.Ground.GgzProg
import Derived.Ground.SlgmProg
import Derived.Test.YtdcbgfhkfmohiaaGreatDoorProg
namespace Go.Proofs.YtdcbgfhkfmohiaaGreatDoor
open Go.RowKit
attribute [local go_sem] Oper.semAt_some
def qnsL (xs:List Str):List Qn:=xs.map fun x => (qnOf (splitL 32 x)).getD (.ex none)
theorem qns_eq {xs:List Str} {qs:List Qn} (h:QnsOf xs qs):qs = qnsL xs:=by
 have:=congrArg (List.map fun o:Option Qn => o.getD (.ex none)) h.1
 rw [List.map_map,List.map_map] at this
 unfold qnsL
 rw [show (fun x:Str => (qnOf (splitL 32 x)).getD (.ex none)) = ((fun o:Option Qn => o.getD (.ex none)) ∘ fun x => qnOf (splitL 32 x)) from rfl,← this]
 rw [show ((fun o:Option Qn => o.getD (.ex none)) ∘ some) = id from rfl,List.map_id]
def ruleE (V:List RView) (n:Str) (xs:List Str):Nat :=
 if isNameL n false then (if 6 < xs.length∨(V.any (·.name == n) = false∧8 ≤ V.length) then 7 else checkAll xs) else 3
def ruleV (V:List RView) (n:Str) (xs:List Str):List RView :=
 if ruleE V n xs = 0 then (if xs = [] then V.filter (fun x => !(x.name == n)) else setV V n (qnsL xs)) else V
def RuleOut (w:World) (rr:Nat) (Rs:List RuleP) (n:Str) (xs:List Str) (e:Ending) (w' : World):Prop :=
 e = .returned (.int .i64 (ruleE (Rs.map (·.view)) n xs))∧RulesOut w.heap.size w rr Rs (ruleV (Rs.map (·.view)) n xs) w'
theorem RulesAt.same {w w' : World} {rr:Nat} {Rs:List RuleP} (h:RulesAt w rr Rs) (hb:Below w.heap.size w w'):RulesOut w.heap.size w rr Rs (Rs.map (·.view)) w' :=
 ⟨Rs,h.below hb,rfl,Turn.of_below hb,fun _ hk => .inl hk⟩
theorem rule_bad {w w' : World} {rr:Nat} {Rs:List RuleP} {n:Str} {xs:List Str} {k:Nat} (h:RulesAt w rr Rs) (hb:Below w.heap.size w w') (he:ruleE (Rs.map (·.view)) n xs = k) (hk:k ≠ 0):RuleOut w rr Rs n xs (.returned (.int .i64 k)) w':=by
 refine ⟨by rw [he],?_⟩
 rw [ruleV,if_neg (by omega)]
 exact h.same hb
theorem RulesOut.after {w w1 w2:World} {rr:Nat} {Rs:List RuleP} {V:List RView} (hb:Below w.heap.size w w1) (h:RulesOut w.heap.size w1 rr Rs V w2):RulesOut w.heap.size w rr Rs V w2:=by
 obtain ⟨Rs',h1,h2,h3,h4⟩:=h
 exact ⟨Rs',h1,h2,(Turn.of_below hb).trans h3,h4⟩
theorem ow_filter {rr:Nat} {Rs:List RuleP} {p:RuleP→Bool} {k:Nat} (h:Ow rr (Rs.filter p) k):Ow rr Rs k:=by
 rcases h with h | ⟨R,hR,h⟩
 ·exact .inl h
 ·exact .inr ⟨R,(List.mem_filter.1 hR).1,h⟩
theorem erase_name {Rs:List RuleP} (hnd:(Rs.map (·.name)).Nodup) {n:Str} {j:Nat} {R:RuleP} (hj:Rs[j]? = some R) (hn:R.name = n):Rs.eraseIdx j = Rs.filter (fun x => !(x.name == n)):=by
 induction Rs generalizing j with
 | nil => simp at hj
 | cons a l ih =>
  simp only [List.map_cons,List.nodup_cons,List.mem_map,not_exists,not_and] at hnd
  cases j with
  | zero =>
   simp at hj;subst hj
   rw [List.eraseIdx_zero,List.tail_cons,List.filter_cons,if_neg (by simp [hn])]
   symm;rw [List.filter_eq_self]
   intro x hx
   have:=hnd.1 x hx
   simp;intro e;exact this (by rw [e,hn])
  | succ j =>
   simp only [List.getElem?_cons_succ] at hj
   rw [List.eraseIdx_cons_succ,List.filter_cons,if_pos,ih hnd.2 hj]
   have:=hnd.1 R (List.mem_of_getElem? hj)
   simp;intro e;exact this (by rw [hn,e])
theorem rules_less {w w2:World} {rr:Nat} {Rs:List RuleP} {n:Str} {es:Array MapEntry} {c:Nat} (h:RulesAt w rr Rs) (h2:Set1 w w2 rr (.map es c)) (hh:Holds es (fun x:Str × Nat => SV x.1) (fun x => ptrV x.2) ((Rs.filter (fun x => !(x.name == n))).map fun R => (R.name,R.b))) (hst:MapKept.Stamped es c) (N:Nat) :
  RulesOut N w rr Rs ((Rs.map (·.view)).filter (fun x => !(x.name == n))) w2:=by
 refine ⟨Rs.filter (fun x => !(x.name == n)),⟨⟨es,c,h2.here,hh,hst⟩,?_,?_,?_,?_,?_,?_,?_⟩,?_,?_,?_⟩
 ·intro R hR
  have hR:=(List.mem_filter.1 hR).1
  exact (h.each R hR).keep (Nat.le_of_eq h2.size.symm) (h2.other _ (h.apB R hR).1) (h2.other _ (h.apB R hR).2) (fun k h4 h5 => h2.other k (fun e => h.out R hR k (.inl e) ⟨h4,h5⟩))
 ·exact (List.Sublist.map _ List.filter_sublist).nodup h.nd
 ·exact fun R hR => h.apB R (List.mem_filter.1 hR).1
 ·exact fun R hR R' hR' => h.apS R (List.mem_filter.1 hR).1 R' (List.mem_filter.1 hR').1
 ·exact fun R hR k hk => h.out R (List.mem_filter.1 hR).1 k (ow_filter hk)
 ·exact Nat.le_trans (List.length_filter_le _ _) h.few
 ·exact fun R hR => h.short R (List.mem_filter.1 hR).1
 ·rw [List.filter_map];rfl
 ·exact ⟨h2.os,h2.tape,h2.output,Nat.le_of_eq h2.size.symm,fun k _ hk => h2.other k (fun e => hk (.inl e)),fun k hk => .inl (ow_filter hk)⟩
 ·rintro k (hk | ⟨R,hR,h4,h5⟩)
  ·exact .inl (.inl (ow_filter hk))
  ·exact .inl (.inr ⟨R,(List.mem_filter.1 hR).1,h4,h5⟩)
theorem run_delete_out {α:Type} {w:World} {t kt et:TypeId} {key:Value} {es:Array MapEntry} {V:α→Value} {L:List α} {x0:α} {r clock:Nat} (hu:Tryz.prog.underlying t = some (.map kt et)) (hb:w.heap[r]? = some (.map es clock)) (hf:Finds w kt key es V L x0) (hout:x0 ∉ L) (ty:TypeId) :
  ∃ w',(Builtin.delete_ #[t,kt] ty #[.map (some r),key]).run Tryz.prog w = .ok (.tuple #[]) w'∧Set1 w w' r (.map es clock):=by
 rcases hf.2 with ⟨_,h2⟩ | ⟨j,h1,_⟩
 ·exact ⟨_,by simp [Builtin.delete_,run_underlying hu,MapKept.run_getObj_map hb,hf.1,h2,MapKept.run_setObj_map _ hb,Result.andThen],set1_of hb⟩
 ·exact absurd (List.mem_of_getElem? h1) hout
theorem rules_drop {w:World} {rr:Nat} {Rs:List RuleP} (h:RulesAt w rr Rs) (n:Str) (N:Nat) :
  ∃ w2,(Builtin.delete_ #[85,9] 0 #[.map (some rr),SV n]).run Tryz.prog w = .ok (.tuple #[]) w2∧RulesOut N w rr Rs ((Rs.map (·.view)).filter (fun x => !(x.name == n))) w2:=by
 obtain ⟨es,c,hm,hh,hst⟩:=h.map
 by_cases hin:∃ R ∈ Rs,R.name = n
 ·obtain ⟨R,hR,rfl⟩:=hin
  obtain ⟨w2,j,hj,h1,h2⟩:=run_delete_in (V:=fun x:Str × Nat => ptrV x.2) (x0:=(R.name,R.b)) Tryz.underlying85 hm (finds_str (w:=w) (g:=fun x:Str × Nat => x.1) (x0:=(R.name,R.b)) hh (fun x hx e => by
   simp only [List.mem_map] at hx
   obtain ⟨R',hR',rfl⟩:=hx
   rw [name_inj h.nd hR hR' e])) (List.mem_map.2 ⟨R,hR,rfl⟩) 0
  refine ⟨w2,h1,rules_less h h2 ?_ (MapKept.stamped_erase hst j) N⟩
  rw [List.getElem?_map,Option.map_eq_some_iff] at hj
  obtain ⟨R',hR',e⟩:=hj
  have:=Holds.erase hh j
  rw [← map_erase,erase_name h.nd hR' (by simpa using congrArg Prod.fst e)] at this
  exact this
 ·have hn:∀ R ∈ Rs,R.name ≠ n:=fun R hR e => hin ⟨R,hR,e⟩
  obtain ⟨h5,h6⟩:=rules_finds_no (W:=w) h hh hn
  obtain ⟨w2,h7,h8⟩:=run_delete_out Tryz.underlying85 hm h5 h6 0
  have e:Rs.filter (fun x => !(x.name == n)) = Rs:=by
   rw [List.filter_eq_self]
   intro R hR
   have:=hn R hR
   simp [this]
  exact ⟨w2,h7,rules_less h h8 (by rw [e];exact hh) hst N⟩
end Go.Proofs.YtdcbgfhkfmohiaaGreatDoor

namespace Go.Proofs.YtdcbgfhkfmohiaaGreatDoor
open Go.RowKit
attribute [local go_sem] Oper.semAt_some
theorem name_len {n:Str} (h:isNameL n false = true):n.length ≤ 8:=by
 unfold isNameL at h
 simp at h
 omega
theorem any_view {Rs:List RuleP} {n:Str}:(Rs.map (·.view)).any (·.name == n) = Rs.any (·.name == n):=by
 rw [List.any_map];rfl
theorem len_rules {w:World} {rr:Nat} {Rs:List RuleP} (h:RulesAt w rr Rs):(Builtin.len_ #[85] 3 #[.map (some rr)]).run Tryz.prog w = .ok (.int .i64 Rs.length) w:=by
 obtain ⟨es,c,hm,hh,_⟩:=h.map
 rw [run_lenMap Tryz.underlying85 hm,hh.len,List.length_map]
 rfl
set_option maxHeartbeats 8000000 in
set_option maxRecDepth 50000 in
theorem storeRule_any (sb rr:Nat) (Rs:List RuleP) (nm:Str) (xs:List Str) (nv:Value) (w:World) (hs:w.cell? ⟨sb,5,none⟩ = some (.map (some rr))) (h:RulesAt w rr Rs) (hn:NamesAt w nv xs) (hmx:MaxOk w) (hl:nm.length ≤ maxLen) :
  Calls Tryz.prog 37 #[ptrV sb,SV nm,nv] w fun e w' => RuleOut w rr Rs nm xs e w':=by
 have CN:=prgIsName_any nm w hl
 have HR:Hid _:=h
 have HNA:Hid _:=hn
 have HMX:Hid _:=hmx
 obtain ⟨ao,cap,rfl,hcap,hmaxl,_⟩:=id hn
 clear h hn hmx
 cases hname:isNameL nm false
 ·rw [hname] at CN
  have RB:Hid (RuleOut w rr Rs nm xs (.returned (.int .i64 (3:Nat))) w):=rule_bad HR.out (Below.refl _ _) (by rw [ruleE,if_neg (by rw [hname];simp)]) (by omega)
  clear HR HNA HMX
  go_enter Tryz.func37,Tryz.ntmps37
  go_wp2_with (go_at_call 58;refine CN.mono ?_;rintro e w ⟨rfl,rfl⟩)
  go_ret
  exact RB.out
 rw [hname] at CN
 by_cases h6:6 < xs.length
 ·have h6i:(6:Int) < (xs.length:Int):=by omega
  have RB:Hid (RuleOut w rr Rs nm xs (.returned (.int .i64 (7:Nat))) w):=rule_bad HR.out (Below.refl _ _) (by rw [ruleE,if_pos hname,if_pos (.inl h6)]) (by omega)
  clear HR HNA HMX hname
  go_enter Tryz.func37,Tryz.ntmps37
  go_wp2_with (go_at_call 58;refine CN.mono ?_;rintro e w ⟨rfl,rfl⟩)
  go_ret
  exact RB.out
 have h6i:¬ (6:Int) < (xs.length:Int):=by omega
 have CP:Hid (Calls Tryz.prog 59 #[.slice ao xs.length cap] w fun e w' => ParseAllOut w xs e w'):=parseAll_any xs _ w HNA.out (by omega) HMX.out
 by_cases hin:∃ R ∈ Rs,R.name = nm
 ·obtain ⟨R,hR,rfl⟩:=hin
  have LE:=rules_find HR.out hR
  have HE:Hid (ruleE (Rs.map (·.view)) R.name xs = checkAll xs):=by
   rw [Hid,ruleE,if_pos hname,if_neg]
   rintro (h | ⟨h,_⟩)
   ·exact h6 h
   ·rw [any_view,List.any_eq_false] at h
    exact h R hR (by simp)
  clear hname HNA HMX
  go_enter Tryz.func37,Tryz.ntmps37
  go_wp2_with (go_at_call 58;refine CN.mono ?_;rintro e w ⟨rfl,rfl⟩)
  go_wp2_with fail
  refine Calls.mono (show Calls _ _ _ _ _ from CP.out) ?_
  rintro e w1 ⟨hb1,hp⟩
  have HB1:Hid _:=hb1
  have HR1:Hid (RulesAt w1 rr Rs):=HR.out.below hb1
  have s51:w1.cell? ⟨sb,5,none⟩ = some (.map (some rr)):=(hb1.cell (p:=⟨sb,5,none⟩) (World.block_lt_of_cell? w _ hs)).trans hs
  rcases hp with ⟨hc,rfl⟩ | ⟨hc,hok,v,qs,rfl,hQ,hv⟩
  ·have RB:Hid (RuleOut w rr Rs R.name xs (.returned (.int .i64 (checkAll xs:Nat))) w1):=rule_bad HR.out hb1 (HE.out) hc
   have hc' : ¬ (checkAll xs:Int) = 0:=by omega
   clear hc hb1 CP LE hs s51
   generalize (checkAll xs:Int) = ce at *
   go_wp2
   go_ret
   exact RB.out
  ·have hl:=hQ.len
   have he0:ruleE (Rs.map (·.view)) R.name xs = 0:=by rw [HE.out,hc]
   obtain ⟨ao2,n2,c2,rfl⟩:=qs_form hv
   obtain ⟨rfl,_,_,_⟩:=qs_cells hv
   by_cases hx:xs = []
   ·have hl0:qs.length = 0:=by rw [hl,hx];rfl
    obtain ⟨w2,hd,hro⟩:=rules_drop HR1.out R.name w.heap.size
    have RB:Hid (RuleOut w rr Rs R.name xs (.returned (.int .i64 0)) w2):=⟨by rw [he0];rfl,by rw [ruleV,if_pos he0,if_pos hx];exact RulesOut.after HB1.out hro⟩
    rw [hl0]
    clear hc hok hb1 CP LE hs hQ hv hro hx hl hl0 he0
    go_wp2
    go_ret
    exact RB.out
   ·have hx0:¬ (qs.length:Int) = 0:=by
     intro e
     have:xs.length = 0:=by omega
     exact hx (List.length_eq_zero_iff.1 this)
    have hq:NewQs w1 rr Rs (.slice ao2 qs.length c2) qs w.heap.size:=by
     refine ⟨hv,hb1.size,fun k hk => HR.out.lt (.inl hk),fun q hq => ?_,fun e => ?_,by omega⟩
     ·obtain ⟨j,hj,rfl⟩:=List.getElem_of_mem hq
      have h1:=congrArg (fun l => l[j]?) hQ.1
      simp only [List.getElem?_map,List.getElem?_eq_getElem hj,Option.map_some] at h1
      rw [List.getElem?_eq_getElem (by omega),Option.map_some,Option.some.injEq] at h1
      have h60:=(check_ok (hok _ (List.getElem_mem (show j < xs.length by omega)))).1
      exact short_qn (fun x hx => by have:=splitL_piece 32 _ x hx;omega) h1.symm (hQ.2 _ (List.getElem_mem hj))
     ·rw [e] at hl;exact hx (List.length_eq_zero_iff.1 hl.symm)
    have CS:Hid (Calls Tryz.prog 60 #[ptrV sb,SV R.name,.slice ao2 qs.length c2] w1 fun e w' => e = .returned (.tuple #[])∧RulesOut w.heap.size w1 rr Rs (setV (Rs.map (·.view)) R.name qs) w'):=setRule_found sb rr Rs R _ qs w.heap.size w1 s51 HR1.out hR hq
    have RB:Hid (∀ w2,RulesOut w.heap.size w1 rr Rs (setV (Rs.map (·.view)) R.name qs) w2→RuleOut w rr Rs R.name xs (.returned (.int .i64 0)) w2):=fun w2 h2 => ⟨by rw [he0];rfl,by rw [ruleV,if_pos he0,if_neg hx,← qns_eq hQ];exact RulesOut.after HB1.out h2⟩
    clear hc hok hb1 CP LE hs hQ hv hx hl he0 hq s51
    go_wp2_with fail
    refine Calls.mono (show Calls _ _ _ _ _ from CS.out) ?_
    rintro e w2 ⟨rfl,h2⟩
    have RB2:Hid _:=RB.out w2 h2
    clear h2 RB CS
    go_wp2
    go_ret
    exact RB2.out
 ·have hno:∀ R ∈ Rs,R.name ≠ nm:=fun R hR e => hin ⟨R,hR,e⟩
  have hany:(Rs.map (·.view)).any (·.name == nm) = false:=by
   rw [any_view,List.any_eq_false]
   intro R hR e
   exact hno R hR (by simpa using e)
  have LE:=rules_none HR.out hno
  have LN:=len_rules HR.out
  by_cases h8:8 ≤ Rs.length
  ·have h8i:(8:Int) ≤ (Rs.length:Int):=by omega
   have RB:Hid (RuleOut w rr Rs nm xs (.returned (.int .i64 (7:Nat))) w):=rule_bad HR.out (Below.refl _ _) (by rw [ruleE,if_pos hname,if_pos (.inr ⟨hany,by rw [List.length_map];exact h8⟩)]) (by omega)
   clear HR HNA HMX hname hno hany CP hin
   go_enter Tryz.func37,Tryz.ntmps37
   go_wp2_with (go_at_call 58;refine CN.mono ?_;rintro e w ⟨rfl,rfl⟩)
   go_ret
   exact RB.out
  have h8i:¬ (8:Int) ≤ (Rs.length:Int):=by omega
  have HE:Hid (ruleE (Rs.map (·.view)) nm xs = checkAll xs):=by
   rw [Hid,ruleE,if_pos hname,if_neg]
   rintro (h | ⟨_,h⟩)
   ·exact h6 h
   ·rw [List.length_map] at h;exact h8 h
  have HNO:Hid (∀ R ∈ Rs,R.name ≠ nm):=hno
  have HN8:Hid (nm.length ≤ 8):=name_len hname
  clear hname HNA HMX hno hany hin
  go_enter Tryz.func37,Tryz.ntmps37
  go_wp2_with (go_at_call 58;refine CN.mono ?_;rintro e w ⟨rfl,rfl⟩)
  go_wp2_with fail
  refine Calls.mono (show Calls _ _ _ _ _ from CP.out) ?_
  rintro e w1 ⟨hb1,hp⟩
  have HB1:Hid _:=hb1
  have HR1:Hid (RulesAt w1 rr Rs):=HR.out.below hb1
  have s51:w1.cell? ⟨sb,5,none⟩ = some (.map (some rr)):=(hb1.cell (p:=⟨sb,5,none⟩) (World.block_lt_of_cell? w _ hs)).trans hs
  rcases hp with ⟨hc,rfl⟩ | ⟨hc,hok,v,qs,rfl,hQ,hv⟩
  ·have RB:Hid (RuleOut w rr Rs nm xs (.returned (.int .i64 (checkAll xs:Nat))) w1):=rule_bad HR.out hb1 (HE.out) hc
   have hc' : ¬ (checkAll xs:Int) = 0:=by omega
   clear hc hb1 CP LE hs s51
   generalize (checkAll xs:Int) = ce at *
   go_wp2
   go_ret
   exact RB.out
  ·have hl:=hQ.len
   have he0:ruleE (Rs.map (·.view)) nm xs = 0:=by rw [HE.out,hc]
   obtain ⟨ao2,n2,c2,rfl⟩:=qs_form hv
   obtain ⟨rfl,_,_,_⟩:=qs_cells hv
   by_cases hx:xs = []
   ·have hl0:qs.length = 0:=by rw [hl,hx];rfl
    obtain ⟨w2,hd,hro⟩:=rules_drop HR1.out nm w.heap.size
    have RB:Hid (RuleOut w rr Rs nm xs (.returned (.int .i64 0)) w2):=⟨by rw [he0];rfl,by rw [ruleV,if_pos he0,if_pos hx];exact RulesOut.after HB1.out hro⟩
    rw [hl0]
    clear hc hok hb1 CP LE hs hQ hv hro hx hl hl0 he0
    go_wp2
    go_ret
    exact RB.out
   ·have hx0:¬ (qs.length:Int) = 0:=by
     intro e
     have:xs.length = 0:=by omega
     exact hx (List.length_eq_zero_iff.1 this)
    have hq:NewQs w1 rr Rs (.slice ao2 qs.length c2) qs w.heap.size:=by
     refine ⟨hv,hb1.size,fun k hk => HR.out.lt (.inl hk),fun q hq => ?_,fun e => ?_,by omega⟩
     ·obtain ⟨j,hj,rfl⟩:=List.getElem_of_mem hq
      have h1:=congrArg (fun l => l[j]?) hQ.1
      simp only [List.getElem?_map,List.getElem?_eq_getElem hj,Option.map_some] at h1
      rw [List.getElem?_eq_getElem (by omega),Option.map_some,Option.some.injEq] at h1
      have h60:=(check_ok (hok _ (List.getElem_mem (show j < xs.length by omega)))).1
      exact short_qn (fun x hx => by have:=splitL_piece 32 _ x hx;omega) h1.symm (hQ.2 _ (List.getElem_mem hj))
     ·rw [e] at hl;exact hx (List.length_eq_zero_iff.1 hl.symm)
    have CS:Hid (Calls Tryz.prog 60 #[ptrV sb,SV nm,.slice ao2 qs.length c2] w1 fun e w' => e = .returned (.tuple #[])∧RulesOut w.heap.size w1 rr Rs (setV (Rs.map (·.view)) nm qs) w'):=setRule_new sb rr Rs nm _ qs w.heap.size w1 s51 HR1.out HNO.out (by omega) HN8.out hq
    have RB:Hid (∀ w2,RulesOut w.heap.size w1 rr Rs (setV (Rs.map (·.view)) nm qs) w2→RuleOut w rr Rs nm xs (.returned (.int .i64 0)) w2):=fun w2 h2 => ⟨by rw [he0];rfl,by rw [ruleV,if_pos he0,if_neg hx,← qns_eq hQ];exact RulesOut.after HB1.out h2⟩
    clear hc hok hb1 CP LE hs hQ hv hx hl he0 hq s51
    go_wp2_with fail
    refine Calls.mono (show Calls _ _ _ _ _ from CS.out) ?_
    rintro e w2 ⟨rfl,h2⟩
    have RB2:Hid _:=RB.out w2 h2
    clear h2 RB CS
    go_wp2
    go_ret
    exact RB2.out
end Go.Proofs.YtdcbgfhkfmohiaaGreatDoor

namespace Go.Proofs.YtdcbgfhkfmohiaaGreatDoor
open Go.RowKit
def told (n:Str) (a:List Str) (x:RuleP):RuleP:=if x.name == n then { x with ans:=a } else x
theorem told_keeps (n:Str) (a:List Str) (x:RuleP):(told n a x).name = x.name∧(told n a x).b = x.b∧(told n a x).m = x.m∧(told n a x).qs = x.qs∧(told n a x).lo = x.lo∧(told n a x).hi = x.hi∧(told n a x).v = x.v:=by
 unfold told;split <;> simp
theorem told_ow {n:Str} {a:List Str} {rr:Nat} {Rs:List RuleP} {k:Nat}:Ow rr (Rs.map (told n a)) k ↔ Ow rr Rs k:=by
 unfold Ow
 constructor
 ·rintro (h | ⟨R,hR,h⟩)
  ·exact .inl h
  ·rw [List.mem_map] at hR
   obtain ⟨x,hx,rfl⟩:=hR
   obtain ⟨_,h2,h3,_⟩:=told_keeps n a x
   rw [h2,h3] at h
   exact .inr ⟨x,hx,h⟩
 ·rintro (h | ⟨R,hR,h⟩)
  ·exact .inl h
  ·obtain ⟨_,h2,h3,_⟩:=told_keeps n a R
   exact .inr ⟨_,List.mem_map.2 ⟨R,hR,rfl⟩,by rw [h2,h3];exact h⟩
theorem rules_told {w w' : World} {rr:Nat} {Rs:List RuleP} {R:RuleP} {a:List Str} (h:RulesAt w rr Rs) (hR:R ∈ Rs) (hA:RuleAt w' { R with ans:=a }) (ht:Turn (fun k => k = R.m) w w' (fun k => k = R.m)):RulesAt w' rr (Rs.map (told R.name a)):=by
 have hoth:∀ k,Foot rr Rs k→k ≠ R.m→w'.heap[k]? = w.heap[k]?:=fun k hk hne => ht.blk k (h.lt hk) hne
 refine ⟨?_,?_,?_,?_,?_,?_,?_,?_⟩
 ·obtain ⟨es,c,h4,h5⟩:=h.map
  refine ⟨es,c,(hoth rr (.inl (.inl rfl)) (Ne.symm (h.apB R hR).2)).trans h4,?_⟩
  have e:(Rs.map (told R.name a)).map (fun R => (R.name,R.b)) = Rs.map (fun R => (R.name,R.b)):=by
   rw [List.map_map]
   apply List.map_congr_left
   intro x _
   obtain ⟨e1,e2,_⟩:=told_keeps R.name a x
   simp only [Function.comp,e1,e2]
  rw [e];exact h5
 ·intro x hx
  rw [List.mem_map] at hx
  obtain ⟨y,hy,rfl⟩:=hx
  by_cases e:y.name = R.name
  ·have:=name_inj h.nd hy hR e
   subst this
   unfold told
   rw [if_pos (by simp)]
   exact hA
  ·unfold told
   rw [if_neg (by simpa using e)]
   have a1:=h.apS y hy R hR e
   refine (h.each y hy).keep ht.size (hoth _ (.inl (.inr ⟨y,hy,.inl rfl⟩)) a1.2.1) (hoth _ (.inl (.inr ⟨y,hy,.inr rfl⟩)) a1.2.2) (fun k h4 h5 => hoth k (.inr ⟨y,hy,h4,h5⟩) (fun e => h.out y hy k (.inr ⟨R,hR,.inr e⟩) ⟨h4,h5⟩))
 ·have e:(Rs.map (told R.name a)).map (·.name) = Rs.map (·.name):=by
   rw [List.map_map]
   apply List.map_congr_left
   intro x _
   exact (told_keeps R.name a x).1
  rw [e];exact h.nd
 ·intro x hx
  rw [List.mem_map] at hx
  obtain ⟨y,hy,rfl⟩:=hx
  obtain ⟨_,e2,e3,_⟩:=told_keeps R.name a y
  rw [e2,e3];exact h.apB y hy
 ·intro x hx x' hx' hne
  rw [List.mem_map] at hx hx'
  obtain ⟨y,hy,rfl⟩:=hx
  obtain ⟨y',hy',rfl⟩:=hx'
  obtain ⟨e1,e2,e3,_⟩:=told_keeps R.name a y
  obtain ⟨f1,f2,f3,_⟩:=told_keeps R.name a y'
  rw [e1,f1] at hne
  rw [e2,e3,f2,f3];exact h.apS y hy y' hy' hne
 ·intro x hx k hk
  rw [List.mem_map] at hx
  obtain ⟨y,hy,rfl⟩:=hx
  obtain ⟨_,_,_,_,e5,e6,_⟩:=told_keeps R.name a y
  rw [e5,e6];exact h.out y hy k (told_ow.1 hk)
 ·rw [List.length_map];exact h.few
 ·intro x hx
  rw [List.mem_map] at hx
  obtain ⟨y,hy,rfl⟩:=hx
  rw [(told_keeps R.name a y).1];exact h.short y hy
noncomputable def bump (es:Ents) (S:List Str) (x:RuleP):RuleP:=if S.contains x.name then { x with ans:=nowQ es x.qs } else x
theorem bump_keeps (es:Ents) (S:List Str) (x:RuleP):(bump es S x).name = x.name∧(bump es S x).b = x.b∧(bump es S x).m = x.m∧(bump es S x).qs = x.qs∧(bump es S x).lo = x.lo∧(bump es S x).hi = x.hi:=by
 unfold bump;split <;> simp
theorem bump_nil (es:Ents) (Rs:List RuleP):Rs.map (bump es []) = Rs:=by
 rw [show bump es [] = id from funext fun x => by simp [bump],List.map_id]
theorem bump_told {es:Ents} {S:List Str} {Rs:List RuleP} {R:RuleP} (hnd:(Rs.map (·.name)).Nodup) (hR:R ∈ Rs):(Rs.map (bump es S)).map (told R.name (nowQ es R.qs)) = Rs.map (bump es (S ++ [R.name])):=by
 rw [List.map_map]
 apply List.map_congr_left
 intro x hx
 simp only [Function.comp]
 by_cases e:x.name = R.name
 ·have:=name_inj hnd hx hR e
  subst this
  unfold told
  rw [if_pos (by simp [(bump_keeps es S x).1])]
  unfold bump
  simp only [List.contains_append,List.contains_cons,beq_self_eq_true,Bool.true_or,Bool.or_true,if_true]
  split <;> rfl
 ·unfold told
  rw [if_neg (by simpa [(bump_keeps es S x).1] using e)]
  unfold bump
  have:(S ++ [R.name]).contains x.name = S.contains x.name:=by
   rw [Bool.eq_iff_iff];simp [e]
  rw [this]
theorem bump_ow {es:Ents} {S:List Str} {rr:Nat} {Rs:List RuleP} {k:Nat}:Ow rr (Rs.map (bump es S)) k ↔ Ow rr Rs k:=by
 unfold Ow
 constructor
 ·rintro (h | ⟨R,hR,h⟩)
  ·exact .inl h
  ·rw [List.mem_map] at hR
   obtain ⟨x,hx,rfl⟩:=hR
   obtain ⟨_,h2,h3,_⟩:=bump_keeps es S x
   rw [h2,h3] at h
   exact .inr ⟨x,hx,h⟩
 ·rintro (h | ⟨R,hR,h⟩)
  ·exact .inl h
  ·obtain ⟨_,h2,h3,_⟩:=bump_keeps es S R
   exact .inr ⟨_,List.mem_map.2 ⟨R,hR,rfl⟩,by rw [h2,h3];exact h⟩
theorem bump_foot {es:Ents} {S:List Str} {rr:Nat} {Rs:List RuleP} {k:Nat}:Foot rr (Rs.map (bump es S)) k→Foot rr Rs k:=by
 rintro (h | ⟨R,hR,h⟩)
 ·exact .inl (bump_ow.1 h)
 ·rw [List.mem_map] at hR
  obtain ⟨x,hx,rfl⟩:=hR
  obtain ⟨_,_,_,_,h5,h6⟩:=bump_keeps es S x
  rw [h5,h6] at h
  exact .inr ⟨x,hx,h⟩
noncomputable def lineP (es:Ents) (V:List RView) (n:Str):Str:=if V.any (fun x => x.name == n && decide (nowQ es x.qs ≠ x.ans)) then n ++ [10] else []
theorem lineP_of {es:Ents} {Rs:List RuleP} {R:RuleP} (hnd:(Rs.map (·.name)).Nodup) (hR:R ∈ Rs):lineP es (Rs.map (·.view)) R.name = if decide (nowQ es R.qs ≠ R.ans) then R.name ++ [10] else []:=by
 unfold lineP
 have:(Rs.map (·.view)).any (fun x => x.name == R.name && decide (nowQ es x.qs ≠ x.ans)) = decide (nowQ es R.qs ≠ R.ans):=by
  rw [Bool.eq_iff_iff,List.any_eq_true]
  constructor
  ·rintro ⟨v,hv,h⟩
   rw [List.mem_map] at hv
   obtain ⟨x,hx,rfl⟩:=hv
   simp only [Bool.and_eq_true,beq_iff_eq] at h
   have:=name_inj hnd hx hR h.1
   subst this
   exact h.2
  ·intro h
   exact ⟨R.view,List.mem_map.2 ⟨R,hR,rfl⟩,by simp only [Bool.and_eq_true];exact ⟨by simp [RuleP.view],h⟩⟩
 rw [this]
end Go.Proofs.YtdcbgfhkfmohiaaGreatDoor

namespace Go.Proofs.YtdcbgfhkfmohiaaGreatDoor
open Go.RowKit Go.Maps Go.Sort Go.ChangeMaps
theorem insert_perm {H:Type} (x:Lit × DataW H) (l:List (Lit × DataW H)):(DataW.insert x l).Perm (x :: l):=by
 induction l with
 | nil => exact List.Perm.refl _
 | cons y r ih =>
  rw [DataW.insert]
  split
  ·exact List.Perm.refl _
  ·exact (List.Perm.cons y ih).trans (List.Perm.swap x y r)
theorem foldr_perm {H:Type} (l:List (Lit × DataW H)):(l.foldr DataW.insert []).Perm l:=by
 induction l with
 | nil => exact List.Perm.refl _
 | cons a r ih => exact (insert_perm a _).trans (List.Perm.cons a ih)
def anyElem (_:Value):Option (DataW Unit × List MemPlace):=some (.nil,[])
theorem read_name {n v:Value} {s:Str} {c:Nat} (hn:n = SV s) (hs:s.length ≤ 8):WideElems.rd Tryz.prog 9 anyElem { key:=n,val:=v,born:=c } = some (.string s,.nil):=by
 unfold WideElems.rd anyElem
 rw [hn,WideMaps.keyOf_string_mk Tryz.underlying9 (by simp [ByteArray.size];unfold maxLen;omega)]
 simp
theorem rules_own {w:World} {rr:Nat} {Rs:List RuleP} (h:RulesAt w rr Rs):∃ D0:DataW Unit,w.ownsMap Tryz.prog 9 anyElem rr 8 D0∧(strKeys D0).Perm (Rs.map (·.name))∧Maps.size D0 ≤ 8:=by
 obtain ⟨es,c,hm,hh,hst⟩:=h.map
 have hl:es.size = Rs.length:=by rw [hh.len,List.length_map]
 have hx:∀ x ∈ es.toList,∃ R ∈ Rs,x.key = SV R.name:=fun x hx => by
  have h6:(x.key,x.val) ∈ es.toList.map (fun e => (e.key,e.val)):=List.mem_map.2 ⟨x,hx,rfl⟩
  rw [hh,List.mem_map] at h6
  obtain ⟨y,hy,e2⟩:=h6
  rw [List.mem_map] at hy
  obtain ⟨R,hR,rfl⟩:=hy
  simp only [Prod.mk.injEq] at e2
  exact ⟨R,hR,e2.1.symm⟩
 have hkeys:es.toList.map (·.key) = Rs.map fun R => SV R.name:=by
  have:=congrArg (List.map Prod.fst) hh
  rw [List.map_map,List.map_map,List.map_map] at this
  exact this
 have hp:=foldr_perm (es.toList.map (WideElems.rg Tryz.prog 9 anyElem))
 refine ⟨_,⟨es,c,hm,⟨by unfold maxLen;have:=h.few;omega,hst,fun x hxm => ?_⟩,by have:=h.few;omega,rfl⟩,?_,?_⟩
 ·obtain ⟨R,hR,e⟩:=hx x hxm
  exact ⟨_,read_name (c:=x.born) e (h.short R hR)⟩
 ·refine (hp.map _).trans ?_
  rw [List.map_map]
  have e:es.toList.map ((fun p:Lit × DataW Unit => strOf p.1) ∘ WideElems.rg Tryz.prog 9 anyElem) = Rs.map (·.name):=by
   have hg:∀ x ∈ es.toList,((fun p:Lit × DataW Unit => strOf p.1) ∘ WideElems.rg Tryz.prog 9 anyElem) x = (match x.key with | .string s => s.data.toList | _ => []):=fun x hxm => by
    obtain ⟨R,hR,e⟩:=hx x hxm
    have:=read_name (v:=x.val) (c:=x.born) e (h.short R hR)
    simp only [Function.comp,WideElems.rg]
    rw [show x = { key:=x.key,val:=x.val,born:=x.born } from rfl,this,e]
    simp [strOf]
   rw [List.map_congr_left hg]
   have:=congrArg (List.map fun v:Value => match v with | .string s => s.data.toList | _ => []) hkeys
   rw [List.map_map,List.map_map] at this
   exact this.trans (List.map_congr_left fun R _ => by simp [Function.comp])
  rw [e]
 ·rw [size_eq,hp.length_eq,List.length_map]
  have:=h.few
  simp;omega
end Go.Proofs.YtdcbgfhkfmohiaaGreatDoor

namespace Go.Proofs.YtdcbgfhkfmohiaaGreatDoor
open Go.RowKit Go.Maps Go.Sort Go.Shelf
def Tryz.keysR_ren:Go.Shelf.Ren:=⟨fun | 7 => 56 | 10 => 87 | n => n,fun | 23 => 85 | 26 => 9 | 3 => 122 | 28 => 120 | 0 => 0 | 27 => 119 | 33 => 124 | 4 => 4 | n => n,fun | n => n⟩
theorem Tryz.keysR:Go.Proofs.SlLaysZ.n7 Tryz.prog Tryz.keysR_ren:={
 mixed:=by kernel_rfl
 f7:=⟨Tryz.f56.name,by decide,Tryz.func56.trans (congrArg some (by kernel_rfl))⟩
 f10:=⟨Tryz.f87.name,by decide,Tryz.func87.trans (congrArg some (by kernel_rfl))⟩
 t0:=Tryz.underlying0
 a0:=Tryz.isAgg0
 z0:=Tryz.sizeOf0
 v0:=Tryz.zeroValue0
 t4:=Tryz.underlying4
 a4:=Tryz.isAgg4
 z4:=Tryz.sizeOf4
 v4:=Tryz.zeroValue4
 t23:=Tryz.underlying85
 a23:=Tryz.isAgg85
 z23:=Tryz.sizeOf85
 v23:=Tryz.zeroValue85
 t26:=Tryz.underlying9
 a26:=Tryz.isAgg9
 z26:=Tryz.sizeOf9
 v26:=Tryz.zeroValue9
 t27:=Tryz.underlying119
 a27:=Tryz.isAgg119
 z27:=Tryz.sizeOf119
 v27:=Tryz.zeroValue119
 t28:=Tryz.underlying120
 a28:=Tryz.isAgg120
 z28:=Tryz.sizeOf120
 v28:=Tryz.zeroValue120
 t33:=Tryz.underlying124
 a33:=Tryz.isAgg124
 z33:=Tryz.sizeOf124
 v33:=Tryz.zeroValue124 }
def Tryz.sortedR_ren:Go.Shelf.Ren:=⟨fun | 6 => 55 | 8 => 85 | 9 => 86 | 11 => 120 | 13 => 122 | 12 => 121 | 23 => 160 | 24 => 161 | 14 => 151 | 15 => 152 | 16 => 153 | 17 => 154 | 18 => 155 | 19 => 156 | 20 => 157 | 21 => 158 | 22 => 159 | 25 => 179 | 26 => 180 | 27 => 181 | 28 => 182 | 29 => 183 | 30 => 184 | 31 => 193 | n => n,fun | 26 => 9 | 28 => 120 | 24 => 48 | 0 => 0 | 3 => 3 | 37 => 225 | 48 => 262 | 50 => 264 | 4 => 4 | 40 => 256 | 39 => 255 | 45 => 212 | 5 => 5 | 9 => 9 | 51 => 274 | 55 => 278 | 57 => 281 | 58 => 197 | 33 => 124 | n => n,fun | n => n⟩
theorem Tryz.sortedR:Go.Proofs.SlLaysZ.n6 Tryz.prog Tryz.sortedR_ren:={
 mixed:=by kernel_rfl
 f6:=⟨Tryz.f55.name,by decide,Tryz.func55.trans (congrArg some (by kernel_rfl))⟩
 f8:=⟨Tryz.f85.name,by decide,Tryz.func85.trans (congrArg some (by kernel_rfl))⟩
 f11:=⟨Tryz.f120.name,by decide,Tryz.func120.trans (congrArg some (by kernel_rfl))⟩
 t0:=Tryz.underlying0
 a0:=Tryz.isAgg0
 z0:=Tryz.sizeOf0
 v0:=Tryz.zeroValue0
 t24:=Tryz.underlying48
 a24:=Tryz.isAgg48
 z24:=Tryz.sizeOf48
 v24:=Tryz.zeroValue48
 t26:=Tryz.underlying9
 a26:=Tryz.isAgg9
 z26:=Tryz.sizeOf9
 v26:=Tryz.zeroValue9
 t28:=Tryz.underlying120
 a28:=Tryz.isAgg120
 z28:=Tryz.sizeOf120
 v28:=Tryz.zeroValue120
 i26:=by kernel_rfl }
def Tryz.sortR_ren:Go.Shelf.Ren:=⟨fun | 6 => 86 | 8 => 122 | 9 => 121 | 19 => 160 | 20 => 161 | 21 => 151 | 22 => 152 | 23 => 153 | 24 => 154 | 25 => 155 | 26 => 156 | 27 => 157 | 28 => 158 | 29 => 159 | 36 => 179 | 31 => 180 | 32 => 181 | 37 => 182 | 38 => 183 | 39 => 184 | 41 => 193 | n => n,fun | 27 => 48 | 29 => 9 | 3 => 3 | 32 => 225 | 26 => 48 | 0 => 0 | 44 => 262 | 46 => 264 | 4 => 4 | 36 => 256 | 35 => 255 | 41 => 212 | 5 => 5 | 9 => 9 | 53 => 274 | 57 => 278 | 63 => 281 | 64 => 197 | n => n,fun | n => n⟩
theorem Tryz.sortR:Go.Proofs.SlLaysM.n6 Tryz.prog Tryz.sortR_ren:={
 mixed:=by kernel_rfl
 f6:=⟨Tryz.f86.name,by decide,Tryz.func86.trans (congrArg some (by kernel_rfl))⟩
 f8:=Tryz.func122.trans (congrArg some (by kernel_rfl))
 f9:=⟨Tryz.f121.name,by decide,Tryz.func121.trans (congrArg some (by kernel_rfl))⟩
 f19:=Tryz.func160.trans (congrArg some (by kernel_rfl))
 f20:=Tryz.func161.trans (congrArg some (by kernel_rfl))
 f21:=⟨Tryz.f151.name,by decide,Tryz.func151.trans (congrArg some (by kernel_rfl))⟩
 f22:=⟨Tryz.f152.name,by decide,Tryz.func152.trans (congrArg some (by kernel_rfl))⟩
 f23:=⟨Tryz.f153.name,by decide,Tryz.func153.trans (congrArg some (by kernel_rfl))⟩
 f24:=⟨Tryz.f154.name,by decide,Tryz.func154.trans (congrArg some (by kernel_rfl))⟩
 f25:=⟨Tryz.f155.name,by decide,Tryz.func155.trans (congrArg some (by kernel_rfl))⟩
 f26:=⟨Tryz.f156.name,by decide,Tryz.func156.trans (congrArg some (by kernel_rfl))⟩
 f27:=⟨Tryz.f157.name,by decide,Tryz.func157.trans (congrArg some (by kernel_rfl))⟩
 f28:=⟨Tryz.f158.name,by decide,Tryz.func158.trans (congrArg some (by kernel_rfl))⟩
 f29:=⟨Tryz.f159.name,by decide,Tryz.func159.trans (congrArg some (by kernel_rfl))⟩
 f31:=Tryz.func180.trans (congrArg some (by kernel_rfl))
 f32:=Tryz.func181.trans (congrArg some (by kernel_rfl))
 f36:=⟨Tryz.f179.name,by decide,Tryz.func179.trans (congrArg some (by kernel_rfl))⟩
 f37:=⟨Tryz.f182.name,by decide,Tryz.func182.trans (congrArg some (by kernel_rfl))⟩
 f38:=⟨Tryz.f183.name,by decide,Tryz.func183.trans (congrArg some (by kernel_rfl))⟩
 f39:=⟨Tryz.f184.name,by decide,Tryz.func184.trans (congrArg some (by kernel_rfl))⟩
 f41:=⟨Tryz.f193.name,by decide,Tryz.func193.trans (congrArg some (by kernel_rfl))⟩
 t0:=Tryz.underlying0
 a0:=Tryz.isAgg0
 z0:=Tryz.sizeOf0
 v0:=Tryz.zeroValue0
 t3:=Tryz.underlying3
 a3:=Tryz.isAgg3
 z3:=Tryz.sizeOf3
 v3:=Tryz.zeroValue3
 t4:=Tryz.underlying4
 a4:=Tryz.isAgg4
 z4:=Tryz.sizeOf4
 v4:=Tryz.zeroValue4
 t5:=Tryz.underlying5
 a5:=Tryz.isAgg5
 z5:=Tryz.sizeOf5
 v5:=Tryz.zeroValue5
 t9:=Tryz.underlying9
 a9:=Tryz.isAgg9
 z9:=Tryz.sizeOf9
 v9:=Tryz.zeroValue9
 t26:=Tryz.underlying48
 a26:=Tryz.isAgg48
 z26:=Tryz.sizeOf48
 v26:=Tryz.zeroValue48
 t27:=Tryz.underlying48
 a27:=Tryz.isAgg48
 z27:=Tryz.sizeOf48
 v27:=Tryz.zeroValue48
 t29:=Tryz.underlying9
 a29:=Tryz.isAgg9
 z29:=Tryz.sizeOf9
 v29:=Tryz.zeroValue9
 t32:=Tryz.underlying225
 a32:=Tryz.isAgg225
 z32:=Tryz.sizeOf225
 v32:=Tryz.zeroValue225
 t35:=Tryz.underlying255
 a35:=Tryz.isAgg255
 z35:=Tryz.sizeOf255
 v35:=Tryz.zeroValue255
 t36:=Tryz.underlying256
 a36:=Tryz.isAgg256
 z36:=Tryz.sizeOf256
 v36:=Tryz.zeroValue256
 t41:=Tryz.underlying212
 a41:=Tryz.isAgg212
 z41:=Tryz.sizeOf212
 v41:=Tryz.zeroValue212
 t44:=Tryz.underlying262
 a44:=Tryz.isAgg262
 z44:=Tryz.sizeOf262
 v44:=Tryz.zeroValue262
 t46:=Tryz.underlying264
 a46:=Tryz.isAgg264
 z46:=Tryz.sizeOf264
 v46:=Tryz.zeroValue264
 t53:=Tryz.underlying274
 a53:=Tryz.isAgg274
 z53:=Tryz.sizeOf274
 v53:=Tryz.zeroValue274
 t57:=Tryz.underlying278
 a57:=Tryz.isAgg278
 z57:=Tryz.sizeOf278
 v57:=Tryz.zeroValue278
 t63:=Tryz.underlying281
 a63:=Tryz.isAgg281
 z63:=Tryz.sizeOf281
 v63:=Tryz.zeroValue281
 t64:=Tryz.underlying197
 a64:=Tryz.isAgg197
 z64:=Tryz.sizeOf197
 v64:=Tryz.zeroValue197 }
theorem Tryz.sortsR (m:Nat):AnyZ.SortsIn Tryz.prog Tryz.sortedR_ren Fence.wide m :=
 ⟨fun blk off cap ss W hH hblk hsz => callsIn_wide.2 (AnyM.slices_Sort_string Tryz.sortR blk off cap ss W hH hblk hsz),
  fun p cap W => callsIn_wide.2 (AnyM.slices_Sort_string_none Tryz.sortR p cap W)⟩
theorem prgKeys_any (mb:Option Nat) (w:World):Calls Tryz.prog 56 #[.map mb] w fun e w' => e = .returned (.func (.func 87) #[] #[.pointer (some ⟨w.heap.size,0,none⟩)])∧w' = w.alloc (.cells #[.map mb] 85) :=
 callsIn_wide.1 (AnyZ.keys_in Tryz.keysR Fence.wide 5 trivial rfl mb w)
set_option maxHeartbeats 1000000 in
theorem prgSorted_any {H:Type} (b nn:Nat) (D0:DataW H) (R:Value→Option (DataW H × List MemPlace)) (w:World) (hown:w.ownsMap Tryz.prog 9 R b nn D0) (hmax:Maps.size D0 ≤ maxLen) (hbytes:Maps.size D0 * 16 ≤ 140737488355328) :
  Calls Tryz.prog 55 #[.func (.func 87) #[] #[.pointer (some ⟨w.heap.size,0,none⟩)]] (w.alloc (.cells #[.map (some b)] 85)) fun e w' => ∃ (v:Value) (ss:List (List UInt8)),e = .returned v∧ss.Perm (strKeys D0) ∧
   w'.ownsRow (w.alloc (.cells #[.map (some b)] 85)).heap.size 9 1 v ss.length ((ss.mergeSort (fun x y => decide (x ≤ y))).map encStr)∧(v = .slice none 0 0 ↔ ss = [])∧Below (w.alloc (.cells #[.map (some b)] 85)).heap.size (w.alloc (.cells #[.map (some b)] 85)) w':=by
 have hbl:=hown.lt
 have hseq:SeqGives Fence.wide 2 Tryz.prog 87 #[.pointer (some ⟨w.heap.size,0,none⟩)] encStr (fun ss => ss.Perm (strKeys D0)) (Maps.size D0) (w.alloc (.cells #[.map (some b)] 85)) :=
  AnyZ.keys_gives (ρ:=Tryz.keysR_ren) { Tryz.keysR with } Fence.wide _ trivial rfl (by omega) w.heap.size b nn D0 _ (by simp) (by simp) (by
   obtain ⟨es,clock,hb,Ft,hs,hD⟩:=hown
   exact ⟨es,clock,(Below.heap_alloc _ _ b hbl).trans hb,Ft,hs,hD⟩)
 exact callsIn_wide.1 (AnyZ.sorted_in Tryz.sortedR Fence.wide 5 trivial trivial trivial trivial rfl (by omega) (Tryz.sortsR _) (enters_of Tryz.func86 (by kernel_rfl) rfl) 87 #[.pointer (some ⟨w.heap.size,0,none⟩)] trivial (enters_of Tryz.func87 (by kernel_rfl) rfl) _ _ hmax hbytes _ hseq)
end Go.Proofs.YtdcbgfhkfmohiaaGreatDoor

namespace Go.Proofs.YtdcbgfhkfmohiaaGreatDoor
open Go.RowKit Go.Sort Go.Shelf
attribute [local go_sem] Oper.semAt_some
noncomputable def srt (V:List RView):List Str:=(V.map (·.name)).mergeSort leB
theorem srt_perm (V:List RView):(srt V).Perm (V.map (·.name)):=List.mergeSort_perm _ _
noncomputable def planR (r:RSt) (V:List RView) (n:Int) (es:Ents):Str × Nat :=
 match findL r.all n with
 | none => ([],2)
 | some _ => if V = [] then ([],11) else ((srt V).flatMap (lineP es V),0)
noncomputable def builtV (es:Ents) (V:List RView):List RView:=V.map fun x => { x with ans:=nowQ es x.qs }
structure Planned (w w3:World) (rr:Nat) (Rs:List RuleP) (es:Ents) (N:List Str) (k:Nat) (O:Nat→Prop) (wr:World):Prop where
 bld:Bld w.heap.size ((N.take k).flatMap (lineP es (Rs.map (·.view)))) O wr
 rules:RulesAt wr rr (Rs.map (bump es (N.take k)))
 turn:Turn (fun j => Ow rr Rs j∨j = w.heap.size) w3 wr (fun j => Ow rr Rs j∨O j)
theorem planLines_len {es:Ents} {V:List RView} {l:List Str} (h:∀ x ∈ l,x.length ≤ 8):(l.flatMap (lineP es V)).length ≤ l.length * 9 :=
 flatM_len (lineP es V) 9 l (fun x hx => by
  have:=h x hx
  unfold lineP
  split
  ·simp;omega
  ·simp)
theorem turn_wide {O O' P P' : Nat→Prop} {w w' : World} (h:Turn O w w' O') (h1:∀ k,O k→P k) (h2:∀ k,P' k→P k∨w.heap.size ≤ k):Turn P w w' P' :=
 ⟨h.os,h.tape,h.output,h.size,fun k hk hn => h.blk k hk (fun ho => hn (h1 k ho)),h2⟩
theorem planned_quiet {w w3 wr w4:World} {rr:Nat} {Rs:List RuleP} {es:Ents} {N:List Str} {k:Nat} {O:Nat→Prop} (h:Planned w w3 rr Rs es N k O wr) (hR0:RulesAt w rr Rs) {R:RuleP} (hR:R ∈ Rs) (hk:k < N.length) (hn:N[k] = R.name) (hno:R.name ∉ N.take k) (hA:RuleAt w4 { R with ans:=nowQ es R.qs }) (ht:Turn (fun j => j = R.m) wr w4 (fun j => j = R.m)) :
  Bld w.heap.size ((N.take k).flatMap (lineP es (Rs.map (·.view)))) O w4∧RulesAt w4 rr (Rs.map (bump es (N.take (k + 1))))∧Turn (fun j => Ow rr Rs j∨j = w.heap.size) w3 w4 (fun j => Ow rr Rs j∨O j):=by
 have how:∀ j,Ow rr Rs j→j < w.heap.size:=fun j hj => hR0.lt (.inl hj)
 have hm:Ow rr Rs R.m:=.inr ⟨R,hR,.inr rfl⟩
 have hb:bump es (N.take k) R = R:=by
  unfold bump
  rw [if_neg]
  intro hc
  exact hno (by simpa using hc)
 have hRb:R ∈ Rs.map (bump es (N.take k)):=List.mem_map.2 ⟨R,hR,hb⟩
 refine ⟨?_,?_,?_⟩
 ·refine h.bld.keep fun j hj => ht.blk j (h.bld.lt j hj).2 (fun e => ?_)
  have:=(h.bld.lt j hj).1
  have:=how R.m hm
  omega
 ·have:=rules_told h.rules hRb hA ht
  rw [bump_told hR0.nd hR] at this
  rw [List.take_succ_eq_append_getElem hk,hn]
  exact this
 ·exact h.turn.trans (turn_wide ht (fun j e => .inl (e ▸ hm)) (fun j hj => .inl hj))
theorem planned_write {w w3 w4 w5:World} {rr:Nat} {Rs Rs' : List RuleP} {O O' : Nat→Prop} {l:Str} (hR0:RulesAt w rr Rs) (hf:∀ j,Foot rr Rs' j→Foot rr Rs j) (hb:Bld w.heap.size l O w4) (hr:RulesAt w4 rr Rs') (ht3:Turn (fun j => Ow rr Rs j∨j = w.heap.size) w3 w4 (fun j => Ow rr Rs j∨O j)) (ht:Turn O w4 w5 O') :
  RulesAt w5 rr Rs'∧Turn (fun j => Ow rr Rs j∨j = w.heap.size) w3 w5 (fun j => Ow rr Rs j∨O' j):=by
 refine ⟨hr.keep ht.size fun j hj => ht.blk j (hr.lt hj) (fun ho => ?_),ht3.trans (turn_wide ht (fun j h => .inr h) (fun j hj => ?_))⟩
 ·have:=(hb.lt j ho).1
  have:=hR0.lt (hf j hj)
  omega
 ·rcases hj with hj | hj
  ·exact .inl (.inl hj)
  ·exact (ht.own j hj).imp (fun h => .inr h) id
end Go.Proofs.YtdcbgfhkfmohiaaGreatDoor

namespace Go.Proofs.YtdcbgfhkfmohiaaGreatDoor
open Go.RowKit Go.Sort Go.Shelf
attribute [local go_sem] Oper.semAt_some
def PlanOut (w:World) (rr:Nat) (Rs:List RuleP) (o:Str × Nat) (V:List RView) (e:Ending) (w' : World):Prop :=
 e = .returned (.tuple #[SV o.1,.int .i64 o.2])∧RulesOut w.heap.size w rr Rs V w'
set_option maxHeartbeats 8000000 in
set_option maxRecDepth 50000 in
theorem plan_go (B:Bank) (es:Ents) (b1:Nat) (n:Int) (Rs:List RuleP) (w:World) (hb1:B.ad (.dir es) = b1) (hB:BankAt w B) (hes:es ∈ B.ds) (hw:WFE es) (h5:heightE es ≤ 5) (hfew:(filesE es).length ≤ 20)
  (LE:(Instr.lookup 82 (.map (some B.rs)) (.int .i64 n) false).run Tryz.prog w = .ok (ptrV b1) w) (hR:RulesAt w B.rr Rs) (hne:Rs ≠ []) (hap:∀ k,Foot B.rr Rs k→¬ B.own k) :
  Calls Tryz.prog 35 #[ptrV B.sb,.int .i64 n] w fun e w' => PlanOut w B.rr Rs ((srt (Rs.map (·.view))).flatMap (lineP es (Rs.map (·.view))),0) (builtV es (Rs.map (·.view))) e w':=by
 have s2:w.cell? ⟨B.sb,2,none⟩ = some (.map (some B.rs)):=(blk_cell hB.store 2).trans rfl
 have s5:w.cell? ⟨B.sb,5,none⟩ = some (.map (some B.rr)):=(blk_cell hB.store 5).trans rfl
 have LN:=len_rules hR
 have hl0:¬ (Rs.length:Int) = 0:=by
  intro e
  exact hne (List.length_eq_zero_iff.1 (by omega))
 have hsb:B.sb < w.heap.size:=World.block_lt_of_cell? w _ s2
 obtain ⟨w1,hw1⟩ : ∃ w1,w1 = w.alloc (.cells #[.pointer none,.slice none 0 0] 94):=⟨_,rfl⟩
 have hb1' : Below w.heap.size w w1:=by rw [hw1];exact (Below.refl _ _).alloc (Nat.le_refl _) _
 have hz1:w1.heap.size = w.heap.size + 1:=by rw [hw1];simp
 have hn1:w1.heap[w.heap.size]? = some (.cells #[.pointer none,.slice none 0 0] 94 (0,0)):=by rw [hw1];exact heap_alloc_new _ _
 have s51:w1.cell? ⟨B.sb,5,none⟩ = some (.map (some B.rr)):=(hb1'.cell (p:=⟨B.sb,5,none⟩) hsb).trans s5
 have hR1:RulesAt w1 B.rr Rs:=hR.below hb1'
 obtain ⟨D0,hown,hperm,hsize⟩:=rules_own hR1
 have CS:Hid _:=prgSorted_any B.rr 8 D0 anyElem w1 hown (by unfold maxLen;omega) (by omega)
 have HW1:Hid _:=hw1
 have HB1' : Hid _:=hb1'
 have HN1:Hid _:=hn1
 have HR:Hid _:=hR
 have HR1:Hid _:=hR1
 have HP:Hid _:=hperm
 have HB:Hid _:=hB
 have HAP:Hid _:=hap
 have HE1:Hid _:=hb1
 clear hw1 hb1' hn1 hR hR1 hperm hown hB hap hne hb1
 go_enter Tryz.func35,Tryz.ntmps35
 go_upto_region 7 with fail
 rw [← HW1.out]
 clear HW1 s2 s5 LE LN
 go_wp2_with (go_at_call 56;refine (prgKeys_any _ _).mono ?_;rintro e w2 ⟨rfl,rfl⟩)
 have CS':=CS.out
 rw [hz1] at CS'
 refine Calls.mono (show Calls _ _ _ _ _ from CS') ?_
 rintro e w3 ⟨v,ss,rfl,hS,hrow,_,hb3⟩
 have HN:Hid (ss.mergeSort leB = srt (Rs.map (·.view))):=by
  have e:(Rs.map (·.view)).map (·.name) = Rs.map (·.name):=by rw [List.map_map];rfl
  rw [Hid,srt,e]
  exact mergeSort_of_perm (hS.trans HP.out)
 have hrow' : w3.ownsRow (w1.alloc (.cells #[.map (some B.rr)] 85)).heap.size 9 1 v ss.length ((ss.mergeSort leB).map encStr):=hrow
 rw [HN.out] at hrow'
 have hpn:=srt_perm (Rs.map (·.view))
 rw [show (Rs.map (·.view)).map (·.name) = Rs.map (·.name) by rw [List.map_map];rfl] at hpn
 have hln:ss.length = (srt (Rs.map (·.view))).length:=by
  rw [← HN.out];simp
 have hlr:(srt (Rs.map (·.view))).length = Rs.length:=by rw [hpn.length_eq,List.length_map]
 generalize hNN:srt (Rs.map (·.view)) = N at *
 have h8:N.length ≤ 8:=by rw [hlr];exact HR.out.few
 have hz2:(w1.alloc (.cells #[.map (some B.rr)] 85)).heap.size = w.heap.size + 2:=by simp [hz1]
 have hb2:Below w1.heap.size w1 (w1.alloc (.cells #[.map (some B.rr)] 85)):=(Below.refl _ _).alloc (Nat.le_refl _) _
 rw [hz2] at hrow' hb3
 have hb13:Below w1.heap.size w1 w3:=hb2.trans (hb3.mono (by omega))
 have hb03:Below w.heap.size w w3:=HB1'.out.trans (hb13.mono (by omega))
 have HB03:Hid _:=hb03
 have HN3:Hid (w3.heap[w.heap.size]? = some (.cells #[.pointer none,.slice none 0 0] 94 (0,0))):=(hb13.block _ (by omega)).trans HN1.out
 have HR3:Hid (RulesAt w3 B.rr Rs):=HR.out.below hb03
 have HNE:Hid (N ≠ []):=by
  intro e
  rw [e] at hlr
  simp at hlr
  omega
 have HNP:Hid (N.Perm (Rs.map (·.name))):=hpn
 have HNN:Hid (srt (Rs.map (·.view)) = N):=hNN
 rw [hln] at hrow'
 have hsz3:w.heap.size + 2 ≤ w3.heap.size:=by have:=hb3.size;rw [hz2] at this;exact this
 have HC:Hid (∃ g cap,v = .slice (some ⟨g,0,none⟩) N.length cap∧w.heap.size + 2 ≤ g∧g < w3.heap.size∧N.length ≤ cap∧cap ≤ maxLen∧∀ k (h:k < N.length),w3.cell? ⟨g,k,none⟩ = some (SV N[k])):=by
  rcases row_cells hrow' with ⟨_,h3⟩ | ⟨g,cap,e,h4,h4b,h6,h7,h9⟩
  ·exact absurd (List.length_eq_zero_iff.1 h3) HNE.out
  ·refine ⟨g,cap,e,by first | exact h4b | omega,h4,h6,h7,fun k hk => ?_⟩
   exact (h9 k (encStr N[k]) (by rw [List.getElem?_map,List.getElem?_eq_getElem hk];rfl)).trans rfl
 clear hS hrow hrow' hb3 hpn hln hb2 hb13 hb03 CS CS' hsize HP HN HB1' HN1 HR1 hz2 s51 hNN
 obtain ⟨g,cap,rfl,hg1,hg2,hcap,hcm,hcell⟩:=HC.out
 have HCE:Hid _:=hcell
 clear hcell HC
 unfold maxLen at hcm
 go_wp2
 go_loopw [31] (fun i wr => ∃ k:Nat,k ≤ N.length∧i = .int .i64 k∧∃ O,Planned w w3 B.rr Rs es N k O wr) (fun i _ => N.length - (intOf i).toNat)
 case atStart =>
  exact ⟨0,Nat.zero_le _,rfl,fun k => k = w.heap.size,Bld.new HN3.out,by rw [List.take_zero,bump_nil];exact HR3.out,Turn.refl _ _⟩
 case round =>
  obtain ⟨k,hk,rfl,O,hP⟩:=hrel
  by_cases hlt:k < N.length
  ·have hki:(k:Int) < (N.length:Int):=by omega
   have hgw:∀ j,j < w3.heap.size→¬ (Ow B.rr Rs j∨j = w.heap.size)→wr.heap[j]? = w3.heap[j]?:=hP.turn.blk
   have hoL:∀ j,Ow B.rr Rs j→j < w.heap.size:=fun j hj => HR.out.lt (.inl hj)
   have hgn:¬ (Ow B.rr Rs g∨g = w.heap.size):=by
    intro h
    rcases h with h | h
    ·have:=hoL g h;omega
    ·omega
   have ck:wr.cell? ⟨g,k,none⟩ = some (SV N[k]):=(World.cell?_of_block (hgw g hg2 hgn)).trans (HCE.out k hlt)
   have hgr:g < wr.heap.size:=Nat.lt_of_lt_of_le hg2 hP.turn.size
   have hmem:N[k] ∈ Rs.map (·.name):=HNP.out.mem_iff.1 (List.getElem_mem hlt)
   obtain ⟨R,hRm,hRn⟩:=List.mem_map.1 hmem
   have hnod:N.Nodup:=HNP.out.nodup_iff.2 HR.out.nd
   have hno:R.name ∉ N.take k:=by
    rw [hRn]
    intro hm
    obtain ⟨j,hj,e⟩:=List.getElem_of_mem hm
    rw [List.length_take] at hj
    rw [List.getElem_take] at e
    exact List.pairwise_iff_getElem.1 hnod j k (by omega) hlt (by omega) e
   have hbm:bump es (N.take k) R = R:=by
    unfold bump
    rw [if_neg]
    intro hc
    exact hno (by simpa using hc)
   have hRb:R ∈ Rs.map (bump es (N.take k)):=List.mem_map.2 ⟨R,hRm,hbm⟩
   have hown:∀ j,B.own j→wr.heap[j]? = w.heap[j]?:=fun j hj => (hgw j (by have:=HB.out.own_lt hj;omega) (by
    rintro (h | h)
    ·exact HAP.out j (.inl h) hj
    ·have:=HB.out.own_lt hj;omega)).trans (HB03.out.block j (HB.out.own_lt hj))
   have hBr:BankAt wr B:=HB.out.frame hown
   have s5r:wr.cell? ⟨B.sb,5,none⟩ = some (.map (some B.rr)):=(blk_cell hBr.store 5).trans rfl
   have LE2:=rules_find hP.rules hRb
   rw [hRn] at LE2
   have C:Hid _:=build_any B es R wr hBr hes hw h5 hfew (hP.rules.each R hRb) (HAP.out _ (.inl (.inr ⟨R,hRm,.inr rfl⟩)))
   rw [HE1.out] at C
   have HPQ:Hid (∀ w4,RuleAt w4 { R with ans:=nowQ es R.qs }→Turn (fun j => j = R.m) wr w4 (fun j => j = R.m)→Bld w.heap.size ((N.take k).flatMap (lineP es (Rs.map (·.view)))) O w4∧RulesAt w4 B.rr (Rs.map (bump es (N.take (k + 1))))∧Turn (fun j => Ow B.rr Rs j∨j = w.heap.size) w3 w4 (fun j => Ow B.rr Rs j∨O j)):=fun w4 hA ht => planned_quiet hP HR.out hRm hlt hRn.symm hno hA ht
   have HL:Hid (((N.take k).flatMap (lineP es (Rs.map (·.view)))).length ≤ 100):=by
    have:=planLines_len (es:=es) (V:=Rs.map (·.view)) (l:=N.take k) (fun x hx => by
     have h1:=HNP.out.mem_iff.1 (List.mem_of_mem_take hx)
     obtain ⟨y,hy,rfl⟩:=List.mem_map.1 h1
     exact HR.out.short y hy)
    rw [List.length_take] at this
    have h2:min k N.length * 9 ≤ 8 * 9:=Nat.mul_le_mul_right _ (by omega)
    exact Nat.le_trans this (by omega)
   have HL2:Hid (N[k].length ≤ 8):=by rw [Hid,← hRn];exact HR.out.short R hRm
   have HLP:Hid (lineP es (Rs.map (·.view)) N[k] = if decide (nowQ es R.qs ≠ R.ans) then N[k] ++ [10] else []):=by rw [Hid,← hRn];exact lineP_of HR.out.nd hRm
   have HFM:Hid ((N.take (k + 1)).flatMap (lineP es (Rs.map (·.view))) = (N.take k).flatMap (lineP es (Rs.map (·.view))) ++ lineP es (Rs.map (·.view)) N[k]):=by
    rw [Hid,List.take_succ_eq_append_getElem hlt,List.flatMap_append];simp
   clear hP hgw hoL hmem hRn hno hbm hRb hown hBr hnod hRm
   go_wp2_with fail
   refine Calls.mono (show Calls _ _ _ _ _ from C.out) ?_
   rintro e w4 ⟨rfl,hA,ht⟩
   obtain ⟨hq1,hq2,hq3⟩:=HPQ.out w4 hA ht
   have H41:Hid _:=hq1
   have H42:Hid _:=hq2
   have H43:Hid _:=hq3
   obtain ⟨due,hdue⟩ : ∃ due,decide (nowQ es R.qs ≠ R.ans) = due:=⟨_,rfl⟩
   rw [hdue] at HLP ⊢
   clear hA ht hq1 hq2 hq3 C HPQ LE2 s5r ck hdue
   cases due
   ·have RR:Hid (Planned w w3 B.rr Rs es N (k + 1) O w4):=⟨by rw [HFM.out,show lineP es (Rs.map (·.view)) N[k] = [] by rw [HLP.out];simp,List.append_nil];exact H41.out,H42.out,H43.out⟩
    clear H41 H42 H43
    go_wp2
    go_roundw
    case rel => exact ⟨k + 1,by omega,by go_num,O,RR.out⟩
    case measure => simp [intOf];omega
   ·have C2:Hid _:=writeString_any w.heap.size _ N[k] O w4 H41.out (by have:=HL.out;have:=HL2.out;omega)
    go_wp2_with fail
    refine Calls.mono (show Calls _ _ _ _ _ from C2.out) ?_
    rintro e w5 ⟨rfl,O5,hb5,ht5⟩
    have hw5:=planned_write HR.out (fun _ => bump_foot) H41.out H42.out H43.out ht5
    have H51:Hid _:=hb5
    have H52:Hid _:=hw5.1
    have H53:Hid _:=hw5.2
    have C3:Hid _:=writeByte_any w.heap.size _ 10 O5 w5 hb5 (by have:=HL.out;have:=HL2.out;rw [List.length_append];omega)
    clear hb5 ht5 hw5 C2 H41 H42 H43
    go_wp2_with fail
    refine Calls.mono (show Calls _ _ _ _ _ from C3.out) ?_
    rintro e w6 ⟨rfl,O6,hb6,ht6⟩
    have hw6:=planned_write HR.out (fun _ => bump_foot) H51.out H52.out H53.out ht6
    have RR:Hid (Planned w w3 B.rr Rs es N (k + 1) O6 w6):=⟨by rw [HFM.out,show lineP es (Rs.map (·.view)) N[k] = N[k] ++ [10] by rw [HLP.out];simp,← List.append_assoc];exact hb6,hw6.1,hw6.2⟩
    clear hb6 ht6 hw6 C3 H51 H52 H53
    go_wp2
    go_roundw
    case rel => exact ⟨k + 1,by omega,by go_num,O6,RR.out⟩
    case measure => simp [intOf];omega
  ·have hki:¬ (k:Int) < (N.length:Int):=by omega
   have C:=string_any w.heap.size _ O wr hP.bld
   have HPL:Hid _:=hP
   have hkN:N.take k = N:=List.take_of_length_le (by omega)
   rw [hkN] at C
   clear hP
   go_wp2_with fail
   refine C.mono ?_
   rintro e w6 ⟨rfl,hb6,hk6⟩
   have RR:Hid (PlanOut w B.rr Rs (N.flatMap (lineP es (Rs.map (·.view))),0) (builtV es (Rs.map (·.view))) (.returned (.tuple #[SV (N.flatMap (lineP es (Rs.map (·.view)))),.int .i64 0])) w6):=by
    have hoL:∀ j,Ow B.rr Rs j→j < w.heap.size:=fun j hj => HR.out.lt (.inl hj)
    have hr6:RulesAt w6 B.rr (Rs.map (bump es N)):=by
     have:=HPL.out.rules
     rw [hkN] at this
     exact this.keep hb6.size fun j hj => hb6.block j (HR.out.lt (bump_foot hj))
    refine ⟨rfl,Rs.map (bump es N),hr6,?_,?_,fun j hj => .inl (bump_foot hj)⟩
    ·unfold builtV
     rw [List.map_map,List.map_map]
     apply List.map_congr_left
     intro x hx
     have hc:N.contains x.name = true:=by
      rw [List.contains_iff_mem]
      exact HNP.out.mem_iff.2 (List.mem_map.2 ⟨x,hx,rfl⟩)
     simp only [Function.comp,bump,hc,if_true,RuleP.view]
    ·have t1:Turn (fun j => Ow B.rr Rs j∨w.heap.size ≤ j) w w3 (fun j => Ow B.rr Rs j∨w.heap.size ≤ j):=Turn.of_below HB03.out
     have t2:Turn (fun j => Ow B.rr Rs j∨w.heap.size ≤ j) w3 wr (fun j => Ow B.rr Rs j∨w.heap.size ≤ j):=turn_wide HPL.out.turn (fun j h => h.imp id (fun e => by omega)) (fun j h => .inl h)
     have t3:=t1.trans t2
     refine ⟨hb6.os.trans t3.os,hb6.tape.trans t3.tape,hb6.output.trans t3.output,Nat.le_trans t3.size hb6.size,fun j hj hn => (hb6.block j hj).trans (t3.blk j hj (by rintro (h | h);exact hn h;omega)),fun j hj => .inl (bump_ow.1 hj)⟩
   clear C hb6 hk6 HPL
   go_wp2
   go_ret2
   rw [HNN.out]
   exact RR.out
end Go.Proofs.YtdcbgfhkfmohiaaGreatDoor

namespace Go.Proofs.YtdcbgfhkfmohiaaGreatDoor
open Go.RowKit
attribute [local go_sem] Oper.semAt_some
def PlanRes (w:World) (rr:Nat) (Rs:List RuleP) (r:RSt) (n:Int) (e:Ending) (w' : World):Prop :=
 (findL r.all n = none∧PlanOut w rr Rs ([],2) (Rs.map (·.view)) e w') ∨
 ∃ es,findL r.all n = some (toF (filesE es))∧WFE es∧heightE es ≤ 5 ∧
  ((Rs = []∧PlanOut w rr Rs ([],11) (Rs.map (·.view)) e w') ∨
   (Rs ≠ []∧PlanOut w rr Rs ((srt (Rs.map (·.view))).flatMap (lineP es (Rs.map (·.view))),0) (builtV es (Rs.map (·.view))) e w'))
set_option maxHeartbeats 8000000 in
set_option maxRecDepth 50000 in
theorem storePlan_any (B:Bank) (r:RSt) (n:Int) (Rs:List RuleP) (w:World) (hO:Okay w B) (ha:Agree B r) (hR:RulesAt w B.rr Rs) (hap:∀ k,Foot B.rr Rs k→¬ B.own k) :
  Calls Tryz.prog 35 #[ptrV B.sb,.int .i64 n] w fun e w' => PlanRes w B.rr Rs r n e w':=by
 have s2:w.cell? ⟨B.sb,2,none⟩ = some (.map (some B.rs)):=(blk_cell hO.at'.store 2).trans rfl
 have s5:w.cell? ⟨B.sb,5,none⟩ = some (.map (some B.rr)):=(blk_cell hO.at'.store 5).trans rfl
 obtain ⟨v1,hl1,h1⟩:=snap_any hO ha n
 have LE:(Instr.lookup 82 (.map (some B.rs)) (.int .i64 n) false).run Tryz.prog w = .ok v1 w:=hl1 w ⟨0,rfl⟩
 rcases h1 with ⟨rfl,hf1⟩ | ⟨es1,k1,hk1,rfl,hf1⟩
 ·have R:Hid (PlanRes w B.rr Rs r n (.returned (.tuple #[SV [],.int .i64 2])) w):=.inl ⟨hf1,rfl,hR.same (Below.refl _ _)⟩
  clear hO hf1 hl1 hR hap ha
  go_enter Tryz.func35,Tryz.ntmps35
  go_wp2
  go_ret2
  exact R.out
 ·have hw1:=hO.wf _ hk1
  have hd1:es1 ∈ B.ds:=hO.at'.roots _ hk1
  by_cases hne:Rs = []
  ·have LN:=len_rules hR
   rw [hne,List.length_nil] at LN
   have R:Hid (PlanRes w B.rr Rs r n (.returned (.tuple #[SV [],.int .i64 11])) w):=.inr ⟨es1,hf1,hw1.1,hw1.2.2,.inl ⟨hne,rfl,hR.same (Below.refl _ _)⟩⟩
   obtain ⟨b1,hb1⟩ : ∃ b1,B.ad (.dir es1) = b1:=⟨_,rfl⟩
   rw [hb1] at LE
   clear hO hf1 hl1 hR hap ha hk1 hw1 hd1 hne hb1
   go_enter Tryz.func35,Tryz.ntmps35
   go_wp2
   go_ret2
   exact R.out
  ·exact (plan_go B es1 _ n Rs w rfl hO.at' hd1 hw1.1 hw1.2.2 hw1.2.1 LE hR hne hap).mono fun e w' h => .inr ⟨es1,hf1,hw1.1,hw1.2.2,.inr ⟨hne,h⟩⟩
end Go.Proofs.YtdcbgfhkfmohiaaGreatDoor
