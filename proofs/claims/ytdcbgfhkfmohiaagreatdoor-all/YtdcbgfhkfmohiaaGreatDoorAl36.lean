/- Contracts of the document's answer (package canopyref): its rules in memory. -/
import Derived.Test.YtdcbgfhkfmohiaaGreatDoorAl08
import Derived.Test.YtdcbgfhkfmohiaaGreatDoorAl11
import Derived.Test.YtdcbgfhkfmohiaaGreatDoorAl31
import Derived.Test.YtdcbgfhkfmohiaaGreatDoorAl32
import Derived.Test.YtdcbgfhkfmohiaaGreatDoorAl35
import Derived.Laws.OwnMore
import Derived.Deep.DeepCutAuto
namespace Go.Proofs.YtdcbgfhkfmohiaaGreatDoor
open Go.RowKit
attribute [local go_sem] Oper.semAt_some
theorem Tryz.infoRule:(Tryz.prog.info? 248).map (fun i => (i.zero,i.size,i.bytes)) = some (some (.agg #[.string ⟨#[]⟩,.slice none 0 0,.slice none 0 0]),3,64):=by kernel_rfl
theorem Tryz.infoWords:(Tryz.prog.info? 48).map (fun i => (i.zero,i.size,i.bytes)) = some (some (.slice none 0 0),1,24):=by kernel_rfl
structure DRule where
 name:Str
 ws:List (List Str)
 ans:List Str
 qv:Value
 wv:List Value
 av:Value
structure DView where
 name:Str
 ws:List (List Str)
 ans:List Str
def DRule.view (d:DRule):DView:=⟨d.name,d.ws,d.ans⟩
def DRule.cells (d:DRule):List Value:=[SV d.name,d.qv,d.av]
def flatR (ds:List DRule):List Value:=ds.flatMap DRule.cells
theorem flatR_app (ds:List DRule) (d:DRule):flatR (ds ++ [d]) = flatR ds ++ d.cells:=by simp [flatR]
theorem flatR_get:∀ (ds:List DRule) (k:Nat) (h:k < ds.length),(flatR ds)[k * 3]? = some (SV ds[k].name)∧(flatR ds)[k * 3 + 1]? = some ds[k].qv∧(flatR ds)[k * 3 + 2]? = some ds[k].av
 | [],k,h => by simp at h
 | d :: ds,0,_ => ⟨rfl,rfl,rfl⟩
 | d :: ds,k + 1,h => by
  have ih:=flatR_get ds k (by simpa using h)
  have e:flatR (d :: ds) = SV d.name :: d.qv :: d.av :: flatR ds:=by simp [flatR,DRule.cells]
  rw [e,show (k + 1) * 3 = k * 3 + 1 + 1 + 1 from by omega,show k * 3 + 1 + 1 + 1 + 1 = (k * 3 + 1) + 1 + 1 + 1 from rfl,show k * 3 + 1 + 1 + 1 + 2 = (k * 3 + 2) + 1 + 1 + 1 from rfl]
  simp only [List.getElem?_cons_succ,List.getElem_cons_succ]
  exact ih
structure DRuleAt (w:World) (d:DRule):Prop where
 row:w.ownsRow 0 48 1 d.qv d.wv.length d.wv
 len:d.wv.length = d.ws.length
 wds:∀ k (h:k < d.wv.length) (h' : k < d.ws.length),WordsAt w d.wv[k] d.ws[k]
 ans:w.ownsRow 0 9 1 d.av d.ans.length (d.ans.map SV)
def Dfoot (d:DRule) (k:Nat):Prop:=d.qv.ownBlock = some k∨d.av.ownBlock = some k∨∃ x ∈ d.wv,x.ownBlock = some k
def WOk (x:List Str):Prop:=checkW x = 0∧(∀ y ∈ x,y.length ≤ 60)∧x.length ≤ 1000
structure DRulesAt (w:World) (vr:Value) (ds:List DRule):Prop where
 row:w.ownsRow 0 248 3 vr ds.length (flatR ds)
 each:∀ d ∈ ds,DRuleAt w d
 out:∀ k,vr.ownBlock = some k→∀ d ∈ ds,¬ Dfoot d k
 few:ds.length ≤ 8
 short:∀ d ∈ ds,d.name.length ≤ 8∧d.ws.length ≤ 6
 good:∀ d ∈ ds,∀ x ∈ d.ws,WOk x
def docR (vr:Value) (ds:List DRule) (k:Nat):Prop:=vr.ownBlock = some k∨∃ d ∈ ds,Dfoot d k
theorem WordsAt.frame {w w' : World} {v:Value} {xs:List Str} (h:WordsAt w v xs) (hs:w.heap.size ≤ w'.heap.size) (hb:∀ k,v.ownBlock = some k→w'.heap[k]? = w.heap[k]?):WordsAt w' v xs:=by
 obtain ⟨g,cap,rfl,h2,h3,h4,h5⟩:=h
 exact ⟨g,cap,rfl,h2,h3,by omega,fun k hk => (World.cell?_of_block (a:=⟨g,k,none⟩) (hb g rfl)).trans (h5 k hk)⟩
theorem WordsAt.lt {w:World} {v:Value} {xs:List Str} (h:WordsAt w v xs) {k:Nat} (hk:v.ownBlock = some k):k < w.heap.size:=by
 obtain ⟨g,cap,rfl,h2,h3,h4,h5⟩:=h
 simp [Value.ownBlock] at hk
 omega
theorem DRuleAt.frame {w w' : World} {d:DRule} (h:DRuleAt w d) (hs:w.heap.size ≤ w'.heap.size) (hb:∀ k,Dfoot d k→w'.heap[k]? = w.heap[k]?):DRuleAt w' d :=
 ⟨rowKept h.row fun k hk => hb k (.inl hk),h.len,fun k h1 h2 => (h.wds k h1 h2).frame hs fun j hj => hb j (.inr (.inr ⟨_,List.getElem_mem h1,hj⟩)),rowKept h.ans fun k hk => hb k (.inr (.inl hk))⟩
theorem DRuleAt.lt {w:World} {d:DRule} (h:DRuleAt w d) {k:Nat} (hk:Dfoot d k):k < w.heap.size:=by
 rcases hk with hk | hk | ⟨x,hx,hk⟩
 ·exact (h.row.lt k hk).2
 ·exact (h.ans.lt k hk).2
 ·obtain ⟨i,hi,rfl⟩:=List.getElem_of_mem hx
  exact (h.wds i hi (by rw [← h.len];exact hi)).lt hk
theorem DRulesAt.frame {w w' : World} {vr:Value} {ds:List DRule} (h:DRulesAt w vr ds) (hs:w.heap.size ≤ w'.heap.size) (hb:∀ k,docR vr ds k→w'.heap[k]? = w.heap[k]?):DRulesAt w' vr ds :=
 ⟨rowKept h.row fun k hk => hb k (.inl hk),fun d hd => (h.each d hd).frame hs fun k hk => hb k (.inr ⟨d,hd,hk⟩),h.out,h.few,h.short,h.good⟩
theorem DRulesAt.lt {w:World} {vr:Value} {ds:List DRule} (h:DRulesAt w vr ds) {k:Nat} (hk:docR vr ds k):k < w.heap.size:=by
 rcases hk with hk | ⟨d,hd,hk⟩
 ·exact (h.row.lt k hk).2
 ·exact (h.each d hd).lt hk
theorem DRulesAt.below {w w' : World} {vr:Value} {ds:List DRule} (h:DRulesAt w vr ds) (hb:Below w.heap.size w w'):DRulesAt w' vr ds:=h.frame hb.size fun _ hk => hb.block _ (h.lt hk)
theorem DRuleAt.below {w w' : World} {d:DRule} (h:DRuleAt w d) (hb:Below w.heap.size w w'):DRuleAt w' d:=h.frame hb.size fun _ hk => hb.block _ (h.lt hk)
theorem DRuleAt.forms {w:World} {d:DRule} (h:DRuleAt w d):(∃ ao cap,d.qv = .slice ao d.wv.length cap)∧∃ ao cap,d.av = .slice ao d.ans.length cap:=⟨row_form h.row,row_form h.ans⟩
theorem rule_cells {w:World} {base:Nat} {v:Value} {ds:List DRule} (h:w.ownsRow base 248 3 v ds.length (flatR ds)) :
  (v = .slice none 0 0∧ds = [])∨∃ g cap,v = .slice (some ⟨g,0,none⟩) ds.length cap∧g < w.heap.size∧base ≤ g∧ds.length ≤ cap∧cap ≤ maxLen∧∀ k (h:k < ds.length),w.cell? ⟨g,k * 3,none⟩ = some (SV ds[k].name)∧w.cell? ⟨g,k * 3 + 1,none⟩ = some ds[k].qv∧w.cell? ⟨g,k * 3 + 2,none⟩ = some ds[k].av:=by
 rcases row_cells h with ⟨h1,h2⟩ | ⟨g,cap,h1,h2,h2',h3,h4,h5⟩
 ·exact .inl ⟨h1,List.eq_nil_of_length_eq_zero h2⟩
 ·exact .inr ⟨g,cap,h1,h2,h2',h3,h4,fun k hk => ⟨h5 _ _ (flatR_get ds k hk).1,h5 _ _ (flatR_get ds k hk).2.1,h5 _ _ (flatR_get ds k hk).2.2⟩⟩
def restD (V:List DView) (n:Str):List DView:=V.filter fun d => !(d.name == n)
def ruleDE (V:List DView) (n:Str) (xs:List Str):Nat :=
 if isNameL n false then (if 6 < xs.length∨((restD V n).length = V.length∧8 ≤ (restD V n).length) then 7 else checkAll xs) else 3
def insStep {T:Type} (lt:T→Bool) (r:T) (st:List T × Bool) (d:T):List T × Bool:=if !st.2 && lt d then (st.1 ++ [r,d],true) else (st.1 ++ [d],st.2)
def insEnd {T:Type} (r:T) (st:List T × Bool):List T:=if st.2 then st.1 else st.1 ++ [r]
def insD {T:Type} (lt:T→Bool) (r:T):List T→List T
 | [] => [r]
 | d :: l => if lt d then r :: d :: l else d :: insD lt r l
theorem ins_done {T:Type} (lt:T→Bool) (r:T) (l:List T) (a:List T):l.foldl (insStep lt r) (a,true) = (a ++ l,true):=by
 induction l generalizing a with
 | nil => simp
 | cons d l ih => rw [List.foldl_cons,show insStep lt r (a,true) d = (a ++ [d],true) from rfl,ih];simp
theorem ins_all {T:Type} (lt:T→Bool) (r:T) (l:List T) (a:List T):insEnd r (l.foldl (insStep lt r) (a,false)) = a ++ insD lt r l:=by
 induction l generalizing a with
 | nil => simp [insEnd,insD]
 | cons d l ih =>
  rw [List.foldl_cons]
  cases h:lt d
  ·rw [show insStep lt r (a,false) d = (a ++ [d],false) from by simp [insStep,h],ih]
   simp [insD,h]
  ·rw [show insStep lt r (a,false) d = (a ++ [r,d],true) from by simp [insStep,h],ins_done]
   simp [insEnd,insD,h]
def ruleDV (V:List DView) (n:Str) (xs:List Str):List DView :=
 if ruleDE V n xs = 0 then (if xs = [] then restD V n else insD (fun d => Op.bytesLess n d.name) ⟨n,xs.map (splitL 32),[]⟩ (restD V n)) else V
def DRuleOut (w:World) (b:Nat) (c0 c1 va vr:Value) (ds:List DRule) (n:Str) (xs:List Str) (e:Ending) (w' : World):Prop :=
 e = .returned (.int .i64 (ruleDE (ds.map (·.view)) n xs))∧∃ vr' ds',w'.heap[b]? = some (.cells #[c0,c1,va,vr'] 193 (0,0))∧DRulesAt w' vr' ds'∧ds'.map (·.view) = ruleDV (ds.map (·.view)) n xs∧Turn (fun k => k = b) w w' (fun k => k = b)∧∀ k,docR vr' ds' k→docR vr ds k∨w.heap.size ≤ k
theorem drule_bad {w w' : World} {b:Nat} {c0 c1 va vr:Value} {ds:List DRule} {n:Str} {xs:List Str} {k:Nat} (hblk:w.heap[b]? = some (.cells #[c0,c1,va,vr] 193 (0,0))) (hR:DRulesAt w vr ds) (hb:Below w.heap.size w w') (he:ruleDE (ds.map (·.view)) n xs = k) (hk:k ≠ 0):DRuleOut w b c0 c1 va vr ds n xs (.returned (.int .i64 k)) w' :=
 ⟨by rw [he],vr,ds,(hb.block _ (Array.getElem?_eq_some_iff.1 hblk).1).trans hblk,hR.below hb,by rw [ruleDV,if_neg (by omega)],Turn.of_below hb,fun _ h => .inl h⟩
theorem rest_view (ds:List DRule) (n:Str):restD (ds.map (·.view)) n = (ds.filter fun d => !(d.name == n)).map (·.view):=by
 unfold restD
 rw [List.filter_map]
 rfl
theorem ins_view (lt:Str→Bool) (r:DRule) (l:List DRule):(insD (fun d:DRule => lt d.name) r l).map (·.view) = insD (fun d:DView => lt d.name) r.view (l.map (·.view)):=by
 induction l with
 | nil => rfl
 | cons d l ih =>
  simp only [insD,List.map_cons]
  have e:lt d.view.name = lt d.name:=rfl
  rw [e]
  by_cases h:lt d.name = true
  ·rw [if_pos h,if_pos h];rfl
  ·rw [if_neg h,if_neg h,List.map_cons,ih]
theorem ins_mem {T:Type} {lt:T→Bool} {r d:T}:∀ {l:List T},d ∈ insD lt r l→d = r∨d ∈ l
 | [],h => by simp [insD] at h;exact .inl h
 | x :: l,h => by
  simp only [insD] at h
  split at h
  ·simpa using h
  ·rw [List.mem_cons] at h
   rcases h with h | h
   ·exact .inr (by simp [h])
   ·exact (ins_mem h).imp id (fun h => List.mem_cons_of_mem _ h)
theorem ins_len {T:Type} (lt:T→Bool) (r:T) (l:List T):(insD lt r l).length = l.length + 1:=by
 induction l with
 | nil => rfl
 | cons d l ih => simp only [insD];split <;> simp [ih]
structure AccAt (b:Nat) (c0 c1 va:Value) (w8 W:World) (u:Value) (zs:List DRule):Prop where
 blk:W.heap[b]? = some (.cells #[c0,c1,va,u] 193 (0,0))
 row:W.ownsRow w8.heap.size 248 3 u zs.length (flatR zs)
 turn:Turn (fun k => k = b) w8 W (fun k => k = b)
theorem AccAt.nb {b:Nat} {c0 c1 va:Value} {w8 W:World} {u:Value} {zs:List DRule} (h:AccAt b c0 c1 va w8 W u zs) (hb:b < w8.heap.size):some b ≠ u.ownBlock:=fun e => by
 have:=(h.row.lt b e.symm).1
 omega
theorem acc_grow {b:Nat} {c0 c1 va:Value} {w8 W w' : World} {u:Value} {zs:List DRule} (h:AccAt b c0 c1 va w8 W u zs) (hb:b < w8.heap.size) (hg:W.grownBy w' u.ownBlock):w'.heap[b]? = some (.cells #[c0,c1,va,u] 193 (0,0)) :=
 (hg.block b (Array.getElem?_eq_some_iff.1 h.blk).1 (h.nb hb)).trans h.blk
theorem acc_push {b:Nat} {c0 c1 va:Value} {w8 W w' W2:World} {u v' : Value} {zs:List DRule} {d:DRule} (h:AccAt b c0 c1 va w8 W u zs) (hb:b < w8.heap.size) (hown:w'.ownsRow w8.heap.size 248 3 v' (zs.length + 1) (flatR zs ++ d.cells)) (hg:W.grownBy w' u.ownBlock) (hL:Like W2 (w'.setCell ⟨b,3,none⟩ v')):AccAt b c0 c1 va w8 W2 v' (zs ++ [d]):=by
 have hs:=setCell_set1 (i:=3) (acc_grow h hb hg) v'
 have hnv:∀ k,v'.ownBlock = some k→k ≠ b:=fun k hk e => by
  have:=(hown.lt k hk).1
  omega
 have hoth:∀ k,k ≠ b→W2.heap[k]? = w'.heap[k]?:=fun k hk => by rw [hL.heap];exact hs.other k hk
 refine ⟨by rw [hL.heap];exact hs.here,?_,?_⟩
 ·rw [flatR_app,List.length_append,List.length_singleton]
  exact rowKept hown fun k hk => hoth k (hnv k hk)
 ·refine ⟨hL.os.trans (hs.os.trans (hg.os.trans h.turn.os)),hL.tape.trans (hs.tape.trans (hg.tape.trans h.turn.tape)),hL.output.trans (hs.output.trans (hg.output.trans h.turn.output)),?_,?_,fun k hk => .inl hk⟩
  ·rw [hL.heap,hs.size];exact Nat.le_trans h.turn.size hg.size
  ·intro k hk hn
   have hnu:some k ≠ u.ownBlock:=fun e => by
    have:=(h.row.lt k e.symm).1
    omega
   exact (hoth k hn).trans ((hg.block k (Nat.lt_of_lt_of_le hk h.turn.size) hnu).trans (h.turn.blk k hk hn))
end Go.Proofs.YtdcbgfhkfmohiaaGreatDoor

namespace Go.Proofs.YtdcbgfhkfmohiaaGreatDoor
open Go.RowKit
attribute [local go_sem] Oper.semAt_some
def nowD (l:List Fl) (ws:List (List Str)):List Str:=ws.map (answerL l)
def lineD (l:List Fl) (d:DView):Str:=if nowD l d.ws = d.ans then [] else d.name ++ [10]
def planD (l:List Fl) (d:DView):DView:=⟨d.name,d.ws,nowD l d.ws⟩
structure PlanAt (w wr:World) (vr:Value) (ds:List DRule) (l:List Fl) (k:Nat) (dk:List DRule):Prop where
 rules:DRulesAt wr vr dk
 len:dk.length = ds.length
 view:dk.map (·.view) = (ds.take k).map (fun d => planD l d.view) ++ (ds.drop k).map (·.view)
 turn:Turn (fun m => vr.ownBlock = some m) w wr (fun m => vr.ownBlock = some m)
 foot:∀ m,docR vr dk m→docR vr ds m∨w.heap.size ≤ m
theorem PlanAt.at' {w wr:World} {vr:Value} {ds dk:List DRule} {l:List Fl} {k:Nat} (h:PlanAt w wr vr ds l k dk) (hk:k < ds.length) (hk' : k < dk.length):dk[k].view = ds[k].view:=by
 have h1:(dk.map (·.view))[k]? = some dk[k].view:=by rw [List.getElem?_map,List.getElem?_eq_getElem hk'];rfl
 rw [h.view,List.getElem?_append_right (by simp;omega)] at h1
 simp only [List.length_map,List.length_take,Nat.min_eq_left (Nat.le_of_lt hk),Nat.sub_self,List.getElem?_map,List.getElem?_drop,Nat.add_zero,List.getElem?_eq_getElem hk,Option.map_some,Option.some.injEq] at h1
 exact h1.symm
theorem plan_view {ds dk:List DRule} {l:List Fl} {k:Nat} (hv:dk.map (·.view) = (ds.take k).map (fun d => planD l d.view) ++ (ds.drop k).map (·.view)) (hk:k < ds.length) {x:DView} (hx:x = planD l ds[k].view) :
  (dk.map (·.view)).set k x = (ds.take (k + 1)).map (fun d => planD l d.view) ++ (ds.drop (k + 1)).map (·.view):=by
 have e:(ds.drop k).map (·.view) = ds[k].view :: (ds.drop (k + 1)).map (·.view):=by rw [List.drop_eq_getElem_cons hk];rfl
 rw [hv,e,List.set_append_right _ _ (by simp;omega)]
 simp only [List.length_map,List.length_take,Nat.min_eq_left (Nat.le_of_lt hk),Nat.sub_self,List.set_cons_zero]
 rw [List.take_succ_eq_append_getElem hk,List.map_append,List.append_assoc,hx]
 rfl
theorem PlanAt.below {w wr w' : World} {vr:Value} {ds dk:List DRule} {l:List Fl} {k:Nat} (h:PlanAt w wr vr ds l k dk) (hb:Below wr.heap.size wr w'):PlanAt w w' vr ds l k dk :=
 ⟨h.rules.below hb,h.len,h.view,h.turn.trans (Turn.of_below hb),h.foot⟩
theorem PlanAt.skip {w wr:World} {vr:Value} {ds dk:List DRule} {l:List Fl} {k:Nat} (h:PlanAt w wr vr ds l k dk) (hk:k < ds.length) (hs:nowD l ds[k].ws = ds[k].ans):PlanAt w wr vr ds l (k + 1) dk:=by
 refine ⟨h.rules,h.len,?_,h.turn,h.foot⟩
 have hk' : k < dk.length:=by rw [h.len];exact hk
 have e:=plan_view h.view hk (x:=dk[k].view) (by
  rw [h.at' hk hk']
  unfold planD DRule.view
  simp only
  rw [hs])
 rw [← e]
 apply List.ext_getElem
 ·simp
 ·intro i h1 h2
  rw [List.getElem_set]
  split
  ·rename_i h;subst h;simp
  ·rfl
theorem flatR_set (ds:List DRule) (k:Nat) (hk:k < ds.length) (d:DRule) (hn:d.name = ds[k].name) (hq:d.qv = ds[k].qv):flatR (ds.set k d) = (flatR ds).set (k * 3 + 2) d.av:=by
 induction ds generalizing k with
 | nil => simp at hk
 | cons x ds ih =>
  have e:∀ (y:DRule) (zs:List DRule),flatR (y :: zs) = SV y.name :: y.qv :: y.av :: flatR zs:=fun y zs => by simp [flatR,DRule.cells]
  cases k with
  | zero =>
   simp only [List.getElem_cons_zero] at hn hq
   rw [List.set_cons_zero,e,e,hn,hq]
   rfl
  | succ k =>
   simp only [List.getElem_cons_succ] at hn hq
   rw [List.set_cons_succ,e,e,ih k (by simpa using hk) hn hq,show (k + 1) * 3 + 2 = (k * 3 + 2) + 1 + 1 + 1 from by omega]
   simp only [List.set_cons_succ]
theorem PlanAt.told {w wr wx:World} {g cap base:Nat} {ds dk:List DRule} {l:List Fl} {k:Nat} {nv:Value} (h:PlanAt w wr (.slice (some ⟨g,0,none⟩) ds.length cap) ds l k dk) (hk:k < ds.length) (hb:Below wr.heap.size wr wx) (hrow:wx.ownsRow base 9 1 nv (nowD l ds[k].ws).length ((nowD l ds[k].ws).map SV)) (hbase:wr.heap.size ≤ base) :
  ∃ dk',PlanAt w (wx.setCell ⟨g,k * 3 + 2,none⟩ nv) (.slice (some ⟨g,0,none⟩) ds.length cap) ds l (k + 1) dk':=by
 have hk' : k < dk.length:=by rw [h.len];exact hk
 have hx:=h.below hb
 have hv:=h.at' hk hk'
 have hr:=hx.rules.row
 rw [hx.len] at hr
 obtain ⟨hs1,hs2⟩:=World.ownsRow.stored hr (k * 3 + 2) nv
 have hgw:g < wx.heap.size:=(hr.lt g rfl).2
 have hgr:g < wr.heap.size:=(h.rules.row.lt g rfl).2
 let d' : DRule:={ dk[k] with ans:=nowD l ds[k].ws,av:=nv }
 have hmem:∀ d ∈ dk.set k d',d = d'∨d ∈ dk:=fun d hd => (List.mem_or_eq_of_mem_set hd).symm
 have hoth:∀ m,m < wx.heap.size→m ≠ g→(wx.setCell ⟨g,k * 3 + 2,none⟩ nv).heap[m]? = wx.heap[m]?:=fun m h1 h2 => hs2.block m h1 (fun e => h2 (by simpa using e))
 have hdk:=hx.rules.each dk[k] (List.getElem_mem hk')
 have hnv:∀ m,nv.ownBlock = some m→base ≤ m∧m < wx.heap.size:=fun m hm => hrow.lt m hm
 have hdf:∀ m,Dfoot d' m→m < wx.heap.size∧m ≠ g:=by
  rintro m (hm | hm | ⟨x,hx',hm⟩)
  ·exact ⟨hdk.lt (.inl hm),fun e => hx.rules.out g rfl dk[k] (List.getElem_mem hk') (.inl (e ▸ hm))⟩
  ·have:=hnv m hm
   exact ⟨this.2,by omega⟩
  ·exact ⟨hdk.lt (.inr (.inr ⟨x,hx',hm⟩)),fun e => hx.rules.out g rfl dk[k] (List.getElem_mem hk') (.inr (.inr ⟨x,hx',e ▸ hm⟩))⟩
 refine ⟨dk.set k d',⟨?_,?_,?_,?_,?_,?_⟩,?_,?_,?_,?_⟩
 ·rw [flatR_set dk k hk' d' rfl rfl,List.length_set,hx.len]
  exact hs1
 ·intro d hd
  rcases hmem d hd with rfl | h1
  ·exact ⟨rowKept hdk.row fun m hm => hoth m (hdk.lt (.inl hm)) (hdf m (.inl hm)).2,hdk.len,fun i h1 h2 => (hdk.wds i h1 h2).frame hs2.size fun m hm => hoth m (hdf m (.inr (.inr ⟨_,List.getElem_mem h1,hm⟩))).1 (hdf m (.inr (.inr ⟨_,List.getElem_mem h1,hm⟩))).2,rowKept (ownsRow_le hrow (Nat.zero_le _)) fun m hm => hoth m (hnv m hm).2 (hdf m (.inr (.inl hm))).2⟩
  ·have h2:=hx.rules.each d h1
   exact h2.frame hs2.size fun m hm => hoth m (h2.lt hm) (fun e => hx.rules.out g rfl d h1 (e ▸ hm))
 ·intro m hm d hd hf
  have hmg:m = g:=by simpa [Value.ownBlock] using hm.symm
  rcases hmem d hd with rfl | h1
  ·exact (hdf m hf).2 hmg
  ·exact hx.rules.out m hm d h1 hf
 ·rw [List.length_set];exact hx.rules.few
 ·intro d hd
  rcases hmem d hd with rfl | h1
  ·exact hx.rules.short dk[k] (List.getElem_mem hk')
  ·exact hx.rules.short d h1
 ·intro d hd
  rcases hmem d hd with rfl | h1
  ·exact hx.rules.good dk[k] (List.getElem_mem hk')
  ·exact hx.rules.good d h1
 ·rw [List.length_set];exact hx.len
 ·rw [List.map_set,plan_view hx.view hk]
  have e1:dk[k].name = ds[k].name:=congrArg DView.name hv
  have e2:dk[k].ws = ds[k].ws:=congrArg DView.ws hv
  show (⟨dk[k].name,dk[k].ws,nowD l ds[k].ws⟩ : DView) = ⟨ds[k].name,ds[k].ws,nowD l ds[k].ws⟩
  rw [e1,e2]
 ·refine hx.turn.trans ⟨hs2.os,hs2.tape,hs2.output,hs2.size,fun m h1 h2 => hoth m h1 (fun e => h2 (by rw [e];rfl)),fun m hm => .inl hm⟩
 ·rintro m (hm | ⟨d,hd,hm⟩)
  ·exact hx.foot m (.inl hm)
  ·rcases hmem d hd with rfl | h1
   ·rcases hm with hm | hm | hm
    ·exact hx.foot m (.inr ⟨dk[k],List.getElem_mem hk',.inl hm⟩)
    ·have:=(hnv m hm).1
     have:=h.turn.size
     exact .inr (by omega)
    ·exact hx.foot m (.inr ⟨dk[k],List.getElem_mem hk',.inr (.inr hm)⟩)
   ·exact hx.foot m (.inr ⟨d,h1,hm⟩)
end Go.Proofs.YtdcbgfhkfmohiaaGreatDoor

namespace Go.Proofs.YtdcbgfhkfmohiaaGreatDoor
open Go.RowKit
attribute [local go_sem] Oper.semAt_some
def sameD (a ys:List Str) (j n:Nat):Bool:=decide (a.length = n∧ys = a.take j)
theorem sameD_start (a:List Str) (n:Nat):sameD a [] 0 n = decide (a.length = n):=by simp [sameD]
theorem sameD_false {a ys:List Str} {j n:Nat} {x:Str} (hl:ys.length = j) (h:sameD a ys j n = false):sameD a (ys ++ [x]) (j + 1) n = false:=by
 unfold sameD at *
 rw [decide_eq_false_iff_not] at *
 rintro ⟨h1,h2⟩
 refine h ⟨h1,?_⟩
 have:=congrArg (List.take j) h2
 rw [List.take_take,List.take_append_of_le_length (by omega),List.take_of_length_le (by omega)] at this
 rw [this,Nat.min_eq_left (by omega)]
theorem sameD_true {a ys:List Str} {j n:Nat} {x:Str} (h:sameD a ys j n = true) (hj:j < a.length):sameD a (ys ++ [x]) (j + 1) n = decide (a[j] = x):=by
 unfold sameD at *
 rw [decide_eq_true_eq] at h
 rw [h.2,List.take_succ_eq_append_getElem hj,decide_eq_decide]
 constructor
 ·rintro ⟨_,h2⟩
  simpa using (List.append_cancel_left h2).symm
 ·intro h2
  exact ⟨h.1,by rw [h2]⟩
theorem sameD_end {a ys:List Str} {n:Nat} (hl:ys.length = n):sameD a ys n n = decide (ys = a):=by
 unfold sameD
 rw [decide_eq_decide]
 constructor
 ·rintro ⟨h1,h2⟩
  rw [h2,List.take_of_length_le (by omega)]
 ·intro h
  exact ⟨by rw [← h];exact hl,by rw [← h,List.take_of_length_le (by omega)]⟩
def DPlanOut (w:World) (vr:Value) (ds:List DRule) (r:RSt) (n:Int) (e:Ending) (w' : World):Prop :=
 (findL r.all n = none∧e = .returned (.tuple #[SV [],.int .i64 2])∧w' = w) ∨
 ∃ l,findL r.all n = some l∧((ds = []∧e = .returned (.tuple #[SV [],.int .i64 11])∧w' = w)∨(ds ≠ []∧e = .returned (.tuple #[SV (ds.flatMap fun d => lineD l d.view),.int .i64 0])∧∃ dk,PlanAt w w' vr ds l ds.length dk))
theorem line_len {ds:List DRule} {l:List Fl} (h:∀ d ∈ ds,d.name.length ≤ 8) (k:Nat):((ds.take k).flatMap fun d => lineD l d.view).length ≤ 9 * k:=by
 induction k with
 | zero => simp
 | succ k ih =>
  by_cases hk:k < ds.length
  ·rw [List.take_succ_eq_append_getElem hk,List.flatMap_append,List.length_append,List.flatMap_singleton]
   have h1:(lineD l ds[k].view).length ≤ 9:=by
    have:=h ds[k] (List.getElem_mem hk)
    unfold lineD
    split
    ·simp
    ·simp only [List.length_append,List.length_singleton]
     have e:ds[k].view.name = ds[k].name:=rfl
     rw [e];omega
   omega
  ·rw [List.take_of_length_le (by omega)]
   rw [List.take_of_length_le (by omega)] at ih
   omega
set_option maxHeartbeats 16000000 in
set_option maxRecDepth 50000 in
theorem refPlan_any (b:Nat) (r:RSt) (va vr:Value) (sn:List (Nat × Value)) (ds:List DRule) (n:Int) (w:World) (h:RefAt w b r va vr sn) (hR:DRulesAt w vr ds) (hF:∀ x ∈ sn,∀ k,x.2.ownBlock = some k→vr.ownBlock ≠ some k) (hvb:vr.ownBlock ≠ some b) :
  Calls Tryz.prog 106 #[.pointer (some ⟨b,0,none⟩),.int .i64 n] w fun e w' => DPlanOut w vr ds r n e w':=by
 have C:=find_any b r va vr sn n w h
 have b3:w.cell? ⟨b,3,none⟩ = some vr:=(blk_cell h.blk 3).trans rfl
 have hbs:b < w.heap.size:=(Array.getElem?_eq_some_iff.1 h.blk).1
 obtain ⟨aoV,capV,rfl⟩:=row_form hR.row
 have HH:=Hid.mk' h
 have HR:=Hid.mk' hR
 have HF:=Hid.mk' hF
 have HVB:=Hid.mk' hvb
 have hds8:=hR.few
 clear h hR hF hvb
 go_enter Tryz.func106,Tryz.ntmps106
 go_wp2_with fail
 refine C.mono ?_
 rintro e w ⟨rfl,hf⟩
 clear C
 rcases hf with ⟨kf,hf1,hf2,hfl,rfl⟩ | ⟨hfl,rfl⟩
 ·have HFA:=Hid.mk' (HH.out.fil kf hf1 hf2)
  have HTI:=Hid.mk' (HH.out.tiny _ (List.getElem_mem hf2))
  have HLB:Hid (∀ m,sn[kf].2.ownBlock = some m→(Value.slice aoV ds.length capV).ownBlock ≠ some m):=HF.out _ (List.getElem_mem hf1)
  have HFL:=Hid.mk' hfl
  clear hfl
  generalize r.all[kf].2 = l at *
  generalize sn[kf].2 = lv at *
  by_cases hd0:ds.length = 0
  ·have R:Hid (DPlanOut w (.slice aoV ds.length capV) ds r n (.returned (.tuple #[SV [],.int .i64 11])) w):=.inr ⟨l,HFL.out,.inl ⟨List.eq_nil_of_length_eq_zero hd0,rfl,rfl⟩⟩
   have hd0B:((ds.length:Int) == 0) = true:=by simp [hd0]
   have hd0i:(ds.length:Int) = 0:=by omega
   clear hd0
   obtain ⟨ao',cap',e⟩:=row_form HFA.out
   subst e
   go_wp2
   go_ret2
   exact R.out
  ·have hd0B:((ds.length:Int) == 0) = false:=by simpa using hd0
   have DONE:Hid (∀ W dk,PlanAt w W (.slice aoV ds.length capV) ds l ds.length dk→DPlanOut w (.slice aoV ds.length capV) ds r n (.returned (.tuple #[SV (ds.flatMap fun d => lineD l d.view),.int .i64 0])) W):=fun W dk hP => .inr ⟨l,HFL.out,.inr ⟨fun e => hd0 (by rw [e];rfl),rfl,dk,hP⟩⟩
   obtain ⟨g,cap,eV,hg,hcV,hmV⟩ : ∃ g cap,Value.slice aoV ds.length capV = .slice (some ⟨g,0,none⟩) ds.length cap∧g < w.heap.size∧ds.length ≤ cap∧cap ≤ maxLen:=by
    rcases rule_cells HR.out.row with ⟨_,h0⟩ | ⟨g,cap,eV,hg,_,h3,h4,_⟩
    ·exact absurd (by rw [h0];rfl) hd0
    ·exact ⟨g,cap,eV,hg,h3,h4⟩
   simp only [Value.slice.injEq] at eV
   obtain ⟨rfl,-,rfl⟩:=eV
   have hgb:b ≠ g:=fun e => HVB.out (by rw [e];rfl)
   have HST0:Hid (PlanAt w w (.slice (some ⟨g,0,none⟩) ds.length capV) ds l 0 ds):=⟨HR.out,rfl,by simp,Turn.refl _ _,fun m hm => .inl hm⟩
   have HNL:Hid (∀ d ∈ ds,d.name.length ≤ 8):=fun d hd => (HR.out.short d hd).1
   have HKP:Hid (∀ W dk k,PlanAt w W (.slice (some ⟨g,0,none⟩) ds.length capV) ds l k dk→W.cell? ⟨b,3,none⟩ = some (.slice (some ⟨g,0,none⟩) ds.length capV)∧b < W.heap.size∧FilesAt W lv l):=fun W dk k hP => by
    have hb1:=hP.turn.blk b hbs (fun e => hgb (by simpa [Value.ownBlock] using e.symm))
    exact ⟨(World.cell?_of_block (a:=⟨b,3,none⟩) hb1).trans b3,Nat.lt_of_lt_of_le hbs hP.turn.size,files_kept HFA.out fun m hm => hP.turn.blk m (HFA.out.lt m hm).2 (HLB.out m hm)⟩
   unfold maxLen at hmV
   clear HF HVB HR hd0
   obtain ⟨aol,capl,hlv⟩:=row_form HFA.out
   subst hlv
   go_wp2
   go_loopw [8,9] (fun o i wr => ∃ (k:Nat) (dk:List DRule) (t:Str),k ≤ ds.length∧i = .int .i64 k∧o = SV t∧t = ((ds.take k).flatMap fun d => lineD l d.view)∧PlanAt w wr (.slice (some ⟨g,0,none⟩) ds.length capV) ds l k dk) (fun _ i _ => ds.length - (intOf i).toNat)
   case atStart => exact ⟨0,ds,[],Nat.zero_le _,rfl,rfl,rfl,HST0.out⟩
   case round =>
    obtain ⟨k,dk,t,hk,rfl,rfl,ht,hP⟩:=hrel
    have HP:=Hid.mk' hP
    have htl:t.length ≤ 9 * k:=by rw [ht];exact line_len HNL.out k
    have HT:=Hid.mk' ht
    obtain ⟨b3r,hbr,hfr⟩:=HKP.out wr dk k hP
    have HFR:=Hid.mk' hfr
    clear hP ht hfr b3
    by_cases hlt:k < ds.length
    ·as_aux_lemma =>
      have hki:(k:Int) < (ds.length:Int):=by omega
      have hk' : k < dk.length:=by rw [HP.out.len];exact hlt
      rcases rule_cells HP.out.rules.row with ⟨_,h0⟩ | ⟨g2,cap2,e2,hg2,_,_,_,hcell⟩
      ·rw [h0] at hk';simp at hk'
      simp only [Value.slice.injEq,Option.some.injEq,Addr.mk.injEq] at e2
      obtain ⟨⟨rfl,-,-⟩,-,-⟩:=e2
      obtain ⟨y0,y1,y2⟩:=hcell k hk'
      have hdk:=HP.out.rules.each dk[k] (List.getElem_mem hk')
      obtain ⟨⟨aq,cq,eq⟩,aa,ca,ea⟩:=hdk.forms
      rw [hdk.len] at eq
      rw [eq] at y1
      rw [ea] at y2
      have hv:=HP.out.at' hlt hk'
      have HGD:Hid (∀ x ∈ dk[k].ws,WOk x):=HP.out.rules.good dk[k] (List.getElem_mem hk')
      have hsh:=HP.out.rules.short dk[k] (List.getElem_mem hk')
      have HQC:Hid (0 < dk[k].ws.length→∃ gq,aq = some ⟨gq,0,none⟩∧gq < wr.heap.size∧dk[k].ws.length ≤ cq∧cq ≤ maxLen∧∀ j (hj:j < dk[k].ws.length),∃ wvj,wr.cell? ⟨gq,j,none⟩ = some wvj∧WordsAt wr wvj dk[k].ws[j]):=fun h0 => by
       have hrw:=hdk.row
       rw [eq,hdk.len] at hrw
       rcases row_cells hrw with ⟨_,h1⟩ | ⟨gq,cap,e,h1,_,h3,h4,h5⟩
       ·omega
       ·simp only [Value.slice.injEq] at e
        obtain ⟨rfl,-,rfl⟩:=e
        refine ⟨gq,rfl,h1,h3,h4,fun j hj => ⟨dk[k].wv[j]'(by rw [hdk.len];exact hj),h5 j _ (List.getElem?_eq_getElem _),hdk.wds j _ hj⟩⟩
      have HACS:Hid (wr.ownsRow 0 9 1 (.slice aa dk[k].ans.length ca) dk[k].ans.length (dk[k].ans.map SV)):=by rw [Hid,← ea];exact hdk.ans
      have HLN:Hid (ds[k].ws = dk[k].ws∧ds[k].ans = dk[k].ans∧ds[k].name = dk[k].name):=⟨congrArg DView.ws hv.symm,congrArg DView.ans hv.symm,congrArg DView.name hv.symm⟩
      have HGB:Hid (∀ W,Below wr.heap.size wr W→W.cell? ⟨g,k * 3 + 2,none⟩ = some (.slice aa dk[k].ans.length ca)∧W.frozen? ⟨g,k * 3 + 2,none⟩ = false):=fun W hW => by
       refine ⟨(hW.cell (p:=⟨g,k * 3 + 2,none⟩) hg2).trans y2,?_⟩
       obtain ⟨c,hc⟩:=row_type HP.out.rules.row (k:=g) rfl
       exact blk_free ((hW.block g hg2).trans hc) _
      have hws6:=hsh.2
      have hnm8:=hsh.1
      have HTS:Hid (((ds.take (k + 1)).flatMap fun d => lineD l d.view) = t ++ lineD l ds[k].view):=by rw [Hid,List.take_succ_eq_append_getElem hlt,List.flatMap_append,List.flatMap_singleton,HT.out]
      have HLD:Hid (lineD l ds[k].view = if nowD l dk[k].ws = dk[k].ans then [] else dk[k].name ++ [10]):=by
       rw [Hid,← HLN.out.1,← HLN.out.2.1,← HLN.out.2.2];rfl
      clear hcell hdk eq ea hv hsh HT
      generalize dk[k].ws = wl at *
      generalize dk[k].ans = al at *
      generalize dk[k].name = nm at *
      go_upto_region 11 with fail
      obtain ⟨w5,hw5⟩ : ∃ w5,w5 = wr.alloc (.cells #[.string ⟨List.toArray nm⟩,.slice aq wl.length cq,.slice aa al.length ca] 248):=⟨_,rfl⟩
      have HB5:Hid (Below wr.heap.size wr w5):=by rw [Hid,hw5];exact (Below.refl _ _).alloc (Nat.le_refl _) _
      have HN5:Hid (w5.heap[wr.heap.size]? = some (.cells #[SV nm,.slice aq wl.length cq,.slice aa al.length ca] 248 (0,0))):=by rw [Hid,hw5];exact heap_alloc_new _ _
      have hs5:wr.heap.size + 1 ≤ w5.heap.size:=(Array.getElem?_eq_some_iff.1 HN5.out).1
      rw [← hw5]
      clear hw5
      obtain ⟨rb,hrb⟩ : ∃ rb,wr.heap.size = rb:=⟨_,rfl⟩
      have HRB:=Hid.mk' hrb
      rw [hrb] at HN5 hs5 ⊢
      clear hrb
      have HLC:Hid (∀ W,Below w5.heap.size w5 W→rb < W.heap.size∧W.cell? ⟨rb,0,none⟩ = some (SV nm)∧W.cell? ⟨rb,1,none⟩ = some (.slice aq wl.length cq)∧W.cell? ⟨rb,2,none⟩ = some (.slice aa al.length ca)):=fun W hW => by
       have e:=(hW.block rb (by omega)).trans HN5.out
       exact ⟨by have:=hW.size;omega,(blk_cell e 0).trans rfl,(blk_cell e 1).trans rfl,(blk_cell e 2).trans rfl⟩
      obtain ⟨hr5,n0,n1,n2⟩:=HLC.out w5 (Below.refl _ _)
      go_cut [11] (fun sv wc => wc = w5∧sv = .bool (sameD al [] 0 wl.length))
      case first =>
       by_cases hal:al.length = wl.length
       ·have HAL:=Hid.mk' hal
        have halB:((al.length:Int) == (wl.length:Int)) = true:=by simp [hal]
        clear hal
        go_wp2
        go_meet
        case rel => exact ⟨rfl,by rw [sameD_start,decide_eq_true HAL.out]⟩
       ·have hali:¬ (al.length:Int) = (wl.length:Int):=by omega
        go_wp2
        go_meet
        case rel => exact ⟨rfl,by rw [sameD_start,decide_eq_false hal];exact congrArg Value.bool (beq_eq_false_iff_ne.2 hali)⟩
      case rest =>
       obtain ⟨rfl,rfl⟩:=hcut
       generalize wc = w5 at *
       clear n0 n1 n2 hr5 y0 y1 y2
       generalize wr = wz at *
       have HFZ:Hid (∀ W,Below w5.heap.size w5 W→FilesAt W (.slice aol l.length capl) l):=fun W hW => files_kept HFR.out fun m hm => by
        have h1:=(HFR.out.lt m hm).2
        have h2:=HB5.out.size
        exact (hW.block m (by omega)).trans (HB5.out.block m h1)
       go_wp2
       go_loopw [11,12,13] (fun sv nv i wr => ∃ (j:Nat) (ys:List Str) (mb:Bool),j ≤ wl.length∧i = .int .i64 j∧ys = (wl.take j).map (answerL l)∧wr.ownsRow w5.heap.size 9 1 nv j (ys.map SV)∧sv = .bool mb∧mb = sameD al ys j wl.length∧Below w5.heap.size w5 wr) (fun _ _ i _ => wl.length - (intOf i).toNat)
       case atStart => exact ⟨0,[],_,Nat.zero_le _,rfl,rfl,World.ownsRow_nil _ _ _ _,rfl,rfl,Below.refl _ _⟩
       case round =>
        obtain ⟨j,ys,mb,hj,rfl,hys,hrow,rfl,hmb,hb⟩:=hrel
        have HYS:=Hid.mk' hys
        have HMB:=Hid.mk' hmb
        have HROW:=Hid.mk' hrow
        have HB:=Hid.mk' hb
        obtain ⟨aoY,capY,rfl⟩:=row_form hrow
        obtain ⟨hrb,n0,n1,n2⟩:=HLC.out wr hb
        clear hys hmb hrow hb
        by_cases hjl:j < wl.length
        ·as_aux_lemma =>
          have hji:(j:Int) < (wl.length:Int):=by omega
          obtain ⟨gq,eaq,hgq,hlq,hmq,hwq⟩:=HQC.out (by omega)
          subst eaq
          obtain ⟨wvj,cw,hwj⟩:=hwq j hjl
          have hbz:Below wz.heap.size wz wr:=HB5.out.trans (HB.out.mono HB5.out.size)
          have cwr:wr.cell? ⟨gq,j,none⟩ = some wvj:=(hbz.cell (p:=⟨gq,j,none⟩) hgq).trans cw
          have hgqr:gq < wr.heap.size:=Nat.lt_of_lt_of_le hgq hbz.size
          have hwk:=HGD.out wl[j] (List.getElem_mem hjl)
          have CA:=Hid.mk' (refAnswer_any l (.slice aol l.length capl) wvj wl[j] wr (HFZ.out wr HB.out) HTI.out (hwj.below hbz) hwk.2.1 hwk.2.2 hwk.1)
          have HYN:Hid (ys ++ [answerL l wl[j]] = (wl.take (j + 1)).map (answerL l)):=by rw [Hid,List.take_succ_eq_append_getElem hjl,List.map_append,HYS.out];rfl
          have HYL:Hid (ys.length = j):=by rw [Hid,HYS.out];simp;omega
          obtain ⟨gw,cpw,rfl,hlw,hmw,hrest⟩:=hwj
          unfold maxLen at hmq
          clear hwq cw hwk hlw hmw hrest
          generalize answerL l wl[j] = x at *
          generalize wl[j].length = nw at *
          go_wp2_with fail
          refine Calls.mono (show Calls _ _ _ _ _ from CA.out) ?_
          rintro e w6 ⟨rfl,hb6⟩
          have HR6:Hid (w6.ownsRow w5.heap.size 9 1 (.slice aoY j capY) j (ys.map SV)):=rowKept HROW.out fun i hi => hb6.block i (World.ownsRow.lt HROW.out i hi).2
          have HB6:Hid (Below w5.heap.size w5 w6):=HB.out.trans (hb6.mono HB.out.size)
          have hz6:=HB6.out.size
          clear hb6 CA cwr HROW HB n0 n1 n2 hrb
          go_wp2_with (at_builtin;go_loud (refine wp_app_str rfl (.tmp 66) (.tmp 68) rfl HR6.out x ⟨rfl,rfl,rfl,rfl⟩ rfl rfl (by omega) hz6 ?_))
          intro v' w7 hown7 hb7
          have HR7:Hid (w7.ownsRow w5.heap.size 9 1 v' (j + 1) ((ys ++ [x]).map SV)):=by rw [Hid,List.map_append];exact hown7
          have HB7:Hid (Below w5.heap.size w5 w7):=HB6.out.trans hb7
          obtain ⟨hrb,n0,n1,n2⟩:=HLC.out w7 HB7.out
          clear hown7 hb7 HR6 HB6 hz6
          cases mb
          ·have HM2:Hid (false = sameD al (ys ++ [x]) (j + 1) wl.length):=(sameD_false HYL.out HMB.out.symm).symm
           go_wp2
           go_roundw
           case rel => exact ⟨j + 1,ys ++ [x],false,by omega,by go_num,HYN.out,HR7.out,rfl,HM2.out,HB7.out⟩
           case measure => simp [intOf];omega
          ·have hal:al.length = wl.length:=by
            have:=HMB.out.symm
            unfold sameD at this
            rw [decide_eq_true_eq] at this
            exact this.1
           have hja:j < al.length:=by omega
           rcases strs_cells HACS.out with ⟨_,h0,_⟩ | ⟨gA,cA,eA,hnA,hgA,_,hcA,hmA,hpA⟩
           ·omega
           simp only [Value.slice.injEq] at eA
           obtain ⟨rfl,-,rfl⟩:=eA
           have ca' : w7.cell? ⟨gA,j,none⟩ = some (SV al[j]):=((HB5.out.trans (HB7.out.mono HB5.out.size)).cell (p:=⟨gA,j,none⟩) hgA).trans (hpA j hja)
           have hgA7:gA < w7.heap.size:=Nat.lt_of_lt_of_le hgA (Nat.le_trans HB5.out.size HB7.out.size)
           have hjai:(j:Int) < (al.length:Int):=by omega
           have HMF:=Hid.mk' (sameD_true (x:=x) HMB.out.symm hja)
           clear hnA hpA hal
           unfold maxLen at hmA
           generalize al[j] = aj at *
           by_cases hax:aj = x
           ·have HM2:Hid (true = sameD al (ys ++ [x]) (j + 1) wl.length):=by rw [Hid,HMF.out];simp [hax]
            subst hax
            clear HMF
            go_wp2
            go_roundw
            case rel => exact ⟨j + 1,ys ++ [aj],true,by omega,by go_num,HYN.out,HR7.out,rfl,HM2.out,HB7.out⟩
            case measure => simp [intOf];omega
           ·have HM2:Hid (false = sameD al (ys ++ [x]) (j + 1) wl.length):=by rw [Hid,HMF.out];simp [hax]
            have haxB:(aj == x) = false:=by simpa using hax
            clear HMF
            go_wp2
            go_roundw
            case rel => exact ⟨j + 1,ys ++ [x],false,by omega,by go_num,HYN.out,HR7.out,rfl,HM2.out,HB7.out⟩
            case measure => simp [intOf];omega
        ·as_aux_lemma =>
          have hji:¬ (j:Int) < (wl.length:Int):=by omega
          have hje:j = wl.length:=by omega
          subst hje
          have HYA:Hid (ys = nowD l wl):=by rw [Hid,HYS.out,List.take_length];rfl
          have HME:Hid (mb = decide (ys = al)):=by rw [Hid,HMB.out];exact sameD_end (by rw [HYS.out];simp)
          have hbz:Below wz.heap.size wz wr:=HB5.out.trans (HB.out.mono HB5.out.size)
          have HBZ:=Hid.mk' hbz
          obtain ⟨c2,f2⟩:=HGB.out wr hbz
          obtain ⟨b3w,hbw,_⟩:=HKP.out wr dk k (HP.out.below hbz)
          have hgw:g < wr.heap.size:=Nat.lt_of_lt_of_le hg2 hbz.size
          have hap:=app_list
          clear hbz HYS HMB HQC HACS HFZ
          cases mb
          ·have hne:¬ nowD l wl = al:=by
            have:=HME.out.symm
            rw [HYA.out,decide_eq_false_iff_not] at this
            exact this
           have HTN:Hid (t ++ (nm ++ [10]) = ((ds.take (k + 1)).flatMap fun d => lineD l d.view)):=by rw [Hid,HTS.out,HLD.out,if_neg hne]
           have HRW:Hid (∃ dk',PlanAt w (wr.setCell ⟨g,k * 3 + 2,none⟩ (.slice aoY wl.length capY)) (.slice (some ⟨g,0,none⟩) ds.length capV) ds l (k + 1) dk'):=by
            refine PlanAt.told HP.out hlt HBZ.out (base:=w5.heap.size) ?_ HB5.out.size
            have:=HROW.out
            rw [HYA.out] at this
            rw [HLN.out.1,show (nowD l wl).length = wl.length from by simp [nowD]]
            exact this
           clear hne HME HTS HLD HYA HROW
           go_wp2
           go_roundw
           case rel =>
            obtain ⟨dk',hP'⟩:=HRW.out
            exact ⟨k + 1,dk',t ++ (nm ++ [10]),by omega,by go_num,by simp,HTN.out,hP'⟩
           case measure => simp [intOf];omega
          ·have he:nowD l wl = al:=by
            have:=HME.out.symm
            rw [HYA.out,decide_eq_true_eq] at this
            exact this
           have HTN:Hid (t = ((ds.take (k + 1)).flatMap fun d => lineD l d.view)):=by rw [Hid,HTS.out,HLD.out,if_pos he,List.append_nil]
           have HRW:=Hid.mk' ((HP.out.below HBZ.out).skip hlt (by rw [HLN.out.1,HLN.out.2.1];exact he))
           clear he HME HTS HLD HYA HROW
           go_wp2
           go_roundw
           case rel => exact ⟨k + 1,dk,t,by omega,by go_num,rfl,HTN.out,HRW.out⟩
           case measure => simp [intOf];omega
    ·as_aux_lemma =>
      have hki:¬ (k:Int) < (ds.length:Int):=by omega
      have hke:k = ds.length:=by omega
      subst hke
      have R:Hid (DPlanOut w (.slice (some ⟨g,0,none⟩) ds.length capV) ds r n (.returned (.tuple #[SV t,.int .i64 0])) wr):=by
       have:=DONE.out wr dk HP.out
       rw [HT.out,List.take_length]
       exact this
      clear HP HT DONE HST0 HKP
      go_wp2
      go_ret2
      exact R.out
 ·have R:Hid (DPlanOut w (.slice aoV ds.length capV) ds r n (.returned (.tuple #[SV [],.int .i64 2])) w):=.inl ⟨hfl,rfl,rfl⟩
  clear hfl
  go_wp2
  go_ret2
  exact R.out
end Go.Proofs.YtdcbgfhkfmohiaaGreatDoor
