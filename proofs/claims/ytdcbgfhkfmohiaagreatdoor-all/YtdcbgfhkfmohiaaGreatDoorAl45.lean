/- The program's rules and the document's are one. No program. -/
import Derived.Test.YtdcbgfhkfmohiaaGreatDoorAl08
import Derived.Test.YtdcbgfhkfmohiaaGreatDoorAl34
import Derived.Test.YtdcbgfhkfmohiaaGreatDoorAl36
import Derived.Test.YtdcbgfhkfmohiaaGreatDoorAl44
import Derived.Deep.OwnRows
import Derived.Laws.CopyOwn
namespace Go.Proofs.YtdcbgfhkfmohiaaGreatDoor
open Go.RowKit Go.Sort Go.Shelf
def docV (d:DView):RView:=⟨d.name,d.ws.map fun x => (qnOf x).getD (.ex none),d.ans⟩
structure Tied (V:List RView) (D:List DView):Prop where
 perm:V.Perm (D.map docV)
 sorted:D.Pairwise fun a b => Op.bytesLess a.name b.name = true
 good:∀ d ∈ D,∀ x ∈ d.ws,WOk x
theorem tied_nil:Tied [] []:=⟨List.Perm.refl _,List.Pairwise.nil,by simp⟩
theorem Tied.len {V:List RView} {D:List DView} (h:Tied V D):V.length = D.length:=by rw [h.perm.length_eq,List.length_map]
theorem Tied.nd {V:List RView} {D:List DView} (h:Tied V D):(D.map (·.name)).Nodup:=by
 unfold List.Nodup
 rw [List.pairwise_map]
 refine h.sorted.imp fun {a b} hab e => ?_
 rw [e,bl_irrefl] at hab
 simp at hab
theorem any_perm {V W:List RView} (h:V.Perm W) (p:RView→Bool):V.any p = W.any p:=by
 rw [Bool.eq_iff_iff,List.any_eq_true,List.any_eq_true]
 exact ⟨fun ⟨x,hx,hp⟩ => ⟨x,h.mem_iff.1 hx,hp⟩,fun ⟨x,hx,hp⟩ => ⟨x,h.mem_iff.2 hx,hp⟩⟩
theorem rest_any (D:List DView) (n:Str):(restD D n).length = D.length ↔ (D.map docV).any (·.name == n) = false:=by
 unfold restD
 rw [List.length_filter_eq_length_iff,List.any_eq_false]
 constructor
 ·intro h x hx
  rw [List.mem_map] at hx
  obtain ⟨d,hd,rfl⟩:=hx
  simpa [docV] using h d hd
 ·intro h d hd
  simpa [docV] using h (docV d) (List.mem_map.2 ⟨d,hd,rfl⟩)
theorem tied_err {V:List RView} {D:List DView} (h:Tied V D) (n:Str) (xs:List Str):ruleE V n xs = ruleDE D n xs:=by
 unfold ruleE ruleDE
 have e:(6 < xs.length∨(V.any (·.name == n) = false∧8 ≤ V.length)) ↔ (6 < xs.length∨((restD D n).length = D.length∧8 ≤ (restD D n).length)):=by
  rw [any_perm h.perm,← rest_any,h.len]
  constructor
  ·rintro (h1 | ⟨h1,h2⟩)
   ·exact .inl h1
   ·exact .inr ⟨h1,by omega⟩
  ·rintro (h1 | ⟨h1,h2⟩)
   ·exact .inl h1
   ·exact .inr ⟨h1,by omega⟩
 split
 ·by_cases h1:6 < xs.length∨(V.any (·.name == n) = false∧8 ≤ V.length)
  ·rw [if_pos h1,if_pos (e.1 h1)]
  ·rw [if_neg h1,if_neg (fun h2 => h1 (e.2 h2))]
 ·rfl
theorem rest_docV (D:List DView) (n:Str):(D.map docV).filter (fun x => !(x.name == n)) = (restD D n).map docV:=by
 unfold restD
 rw [List.filter_map]
 rfl
theorem insD_perm {T:Type} (lt:T→Bool) (r:T) (l:List T):(insD lt r l).Perm (r :: l):=by
 induction l with
 | nil => exact List.Perm.refl _
 | cons d l ih =>
  simp only [insD]
  split
  ·exact List.Perm.refl _
  ·exact (ih.cons d).trans (List.Perm.swap r d l)
theorem insD_sorted {r:DView} {l:List DView} (hs:l.Pairwise fun a b => Op.bytesLess a.name b.name = true) (hn:∀ d ∈ l,d.name ≠ r.name):(insD (fun d => Op.bytesLess r.name d.name) r l).Pairwise fun a b => Op.bytesLess a.name b.name = true:=by
 induction l with
 | nil => simp [insD]
 | cons d l ih =>
  rw [List.pairwise_cons] at hs
  simp only [insD]
  split
  ·rename_i h
   rw [List.pairwise_cons,List.pairwise_cons]
   refine ⟨fun x hx => ?_,hs.1,hs.2⟩
   rw [List.mem_cons] at hx
   rcases hx with rfl | hx
   ·exact h
   ·exact bl_trans h (hs.1 x hx)
  ·rename_i h
   rw [List.pairwise_cons]
   refine ⟨fun x hx => ?_,ih hs.2 fun y hy => hn y (List.mem_cons_of_mem _ hy)⟩
   rcases ins_mem hx with rfl | hx
   ·exact bl_total (by simpa using h) (fun e => hn d (List.mem_cons_self ..) e.symm)
   ·exact hs.1 x hx
theorem split_name {V:List RView} (hnd:(V.map (·.name)).Nodup) {n:Str} (ha:V.any (·.name == n) = true):∃ m,m.name = n∧V.Perm (m :: V.filter fun x => !(x.name == n)):=by
 rw [List.any_eq_true] at ha
 obtain ⟨m,hm,hmn⟩:=ha
 have hmn' : m.name = n:=by simpa using hmn
 refine ⟨m,hmn',?_⟩
 have h1:(V.filter (fun x => x.name == n) ++ V.filter (fun x => !(x.name == n))).Perm V:=List.filter_append_perm _ V
 have h2:V.filter (fun x => x.name == n) = [m]:=by
  have hs:V.Nodup:=(List.pairwise_map.1 hnd).imp fun h e => h (by rw [e])
  have hall:∀ x ∈ V.filter (fun x => x.name == n),x = m:=by
   intro x hx
   rw [List.mem_filter] at hx
   have hxn:x.name = n:=by simpa using hx.2
   obtain ⟨i,hi,rfl⟩:=List.getElem_of_mem hx.1
   obtain ⟨j,hj,rfl⟩:=List.getElem_of_mem hm
   have:i = j:=by
    have e:(V.map (·.name))[i]'(by simpa using hi) = (V.map (·.name))[j]'(by simpa using hj):=by simp [hxn,hmn']
    exact (List.getElem_inj hnd).1 e
   subst this
   rfl
  have hmf:m ∈ V.filter (fun x => x.name == n):=List.mem_filter.2 ⟨hm,by simpa using hmn'⟩
  have hnf:(V.filter (fun x => x.name == n)).Nodup:=hs.filter _
  cases hf:V.filter (fun x => x.name == n) with
  | nil => rw [hf] at hmf;simp at hmf
  | cons a r =>
   rw [hf] at hall hnf
   have ha:a = m:=hall a (List.mem_cons_self ..)
   cases r with
   | nil => rw [ha]
   | cons c r =>
    have hc:c = m:=hall c (by simp)
    rw [ha,hc] at hnf
    simp at hnf
 rw [h2] at h1
 exact h1.symm
theorem setV_perm {V:List RView} (hnd:(V.map (·.name)).Nodup) (n:Str) (qs:List Qn):(setV V n qs).Perm (⟨n,qs,[]⟩ :: V.filter fun x => !(x.name == n)):=by
 unfold setV
 cases ha:V.any (·.name == n)
 ·rw [if_neg (by simp)]
  have hf:V.filter (fun x => !(x.name == n)) = V:=by
   rw [List.filter_eq_self]
   intro x hx
   rw [List.any_eq_false] at ha
   simpa using ha x hx
  rw [hf]
  exact (List.perm_append_singleton _ _)
 ·rw [if_pos rfl]
  obtain ⟨m,hm,hp⟩:=split_name hnd ha
  refine (hp.map _).trans ?_
  rw [List.map_cons]
  have e1:(if (m.name == n) = true then (⟨n,qs,[]⟩ : RView) else m) = ⟨n,qs,[]⟩:=if_pos (by simpa using hm)
  rw [e1]
  have e2:(V.filter fun x => !(x.name == n)).map (fun x => if (x.name == n) = true then (⟨n,qs,[]⟩ : RView) else x) = V.filter fun x => !(x.name == n):=by
   have:∀ x ∈ V.filter (fun x => !(x.name == n)),(fun x:RView => if (x.name == n) = true then (⟨n,qs,[]⟩ : RView) else x) x = id x:=by
    intro x hx
    rw [List.mem_filter] at hx
    have:(x.name == n) = false:=by simpa using hx.2
    simp [this]
   rw [List.map_congr_left this,List.map_id]
  rw [e2]
theorem checkAll_all {xs:List Str} (h:checkAll xs = 0):∀ x ∈ xs,checkL x = 0:=by
 induction xs with
 | nil => simp
 | cons x r ih =>
  unfold checkAll at h
  by_cases hx:checkL x = 0
  ·rw [if_pos hx] at h
   intro y hy
   rw [List.mem_cons] at hy
   rcases hy with rfl | hy
   ·exact hx
   ·exact ih h y hy
  ·rw [if_neg hx] at h;exact absurd h hx
theorem rule_check {V:List RView} {n:Str} {xs:List Str} (h:ruleE V n xs = 0):∀ x ∈ xs,checkL x = 0:=by
 unfold ruleE at h
 split at h
 ·split at h
  ·simp at h
  ·exact checkAll_all h
 ·simp at h
theorem tied_rule {V:List RView} {D:List DView} (h:Tied V D) (n:Str) (xs:List Str):Tied (ruleV V n xs) (ruleDV D n xs):=by
 have he:=tied_err h n xs
 have hsub:∀ d ∈ restD D n,d ∈ D:=fun d hd => (List.mem_filter.1 hd).1
 have hne:∀ d ∈ restD D n,d.name ≠ n:=fun d hd => by simpa using (List.mem_filter.1 hd).2
 have hp:(V.filter fun x => !(x.name == n)).Perm ((restD D n).map docV):=by
  rw [← rest_docV]
  exact h.perm.filter _
 have hndV:(V.map (·.name)).Nodup:=by
  have h1:=h.nd
  have h2:(V.map (·.name)).Perm (D.map (·.name)):=by
   have:=h.perm.map (·.name)
   rw [List.map_map] at this
   exact this
  exact h2.nodup_iff.2 h1
 unfold ruleV ruleDV
 by_cases h0:ruleE V n xs = 0
 ·have h0' : ruleDE D n xs = 0:=by rw [← he];exact h0
  rw [if_pos h0,if_pos h0']
  by_cases hx:xs = []
  ·rw [if_pos hx,if_pos hx]
   exact ⟨hp,h.sorted.filter _,fun d hd => h.good d (hsub d hd)⟩
  ·rw [if_neg hx,if_neg hx]
   have hck:=rule_check h0
   refine ⟨?_,insD_sorted (r:=⟨n,xs.map (splitL 32),[]⟩) (h.sorted.filter _) hne,?_⟩
   ·refine (setV_perm hndV n (qnsL xs)).trans ?_
    refine (hp.cons _).trans ?_
    have e:(⟨n,qnsL xs,[]⟩ : RView) = docV ⟨n,xs.map (splitL 32),[]⟩:=by
     unfold docV qnsL
     simp
    rw [e,← List.map_cons]
    exact ((insD_perm _ _ _).map docV).symm
   ·intro d hd x hx'
    rcases ins_mem hd with rfl | hd
    ·simp only [List.mem_map] at hx'
     obtain ⟨y,hy,rfl⟩:=hx'
     have h1:=check_ok (hck y hy)
     exact ⟨h1.2,words_ok h1.1⟩
    ·exact h.good d (hsub d hd) x hx'
 ·have h0' : ¬ ruleDE D n xs = 0:=by rw [← he];exact h0
  rw [if_neg h0,if_neg h0']
  exact h
theorem words_qn {es:Ents} (hw:WFE es) (h5:heightE es ≤ 5) {x:List Str} (h:WOk x):answerQ es ((qnOf x).getD (.ex none)) = answerL (toF (filesE es)) x:=by
 have hne:x ≠ []:=by
  intro e
  have:=h.1
  rw [e] at this
  exact absurd this (by decide)
 have hc:=h.1
 rw [← parse_check x hne,parseW] at hc
 cases hq:qnOf x with
 | none => rw [hq] at hc;simp at hc
 | some q => rw [hq] at hc;exact answer_tree hw h5 hq hc
theorem now_docV {es:Ents} (hw:WFE es) (h5:heightE es ≤ 5) {d:DView} (h:∀ x ∈ d.ws,WOk x):nowQ es (docV d).qs = nowD (toF (filesE es)) d.ws:=by
 unfold nowQ nowD docV
 rw [List.map_map]
 exact List.map_congr_left fun x hx => words_qn hw h5 (h x hx)
theorem tied_built {es:Ents} (hw:WFE es) (h5:heightE es ≤ 5) {V:List RView} {D:List DView} (h:Tied V D):Tied (builtV es V) (D.map (planD (toF (filesE es)))):=by
 refine ⟨?_,?_,?_⟩
 ·unfold builtV
  refine (h.perm.map _).trans ?_
  rw [List.map_map,List.map_map]
  have:D.map ((fun x:RView => { x with ans:=nowQ es x.qs }) ∘ docV) = D.map (docV ∘ planD (toF (filesE es))):=by
   apply List.map_congr_left
   intro d hd
   show ({ docV d with ans:=nowQ es (docV d).qs }:RView) = docV (planD (toF (filesE es)) d)
   rw [now_docV hw h5 (h.good d hd)]
   rfl
  rw [this]
 ·rw [List.pairwise_map]
  exact h.sorted
 ·intro d hd
  rw [List.mem_map] at hd
  obtain ⟨e,he,rfl⟩:=hd
  exact h.good e he
theorem tied_srt {V:List RView} {D:List DView} (h:Tied V D):srt V = D.map (·.name):=by
 unfold srt
 have h2:(V.map (·.name)).Perm (D.map (·.name)):=by
  have:=h.perm.map (·.name)
  rw [List.map_map] at this
  exact this
 rw [mergeSort_of_perm h2]
 refine List.mergeSort_of_pairwise ?_
 rw [List.pairwise_map]
 refine h.sorted.imp fun {a b} hab => ?_
 rw [bytesLess_eq,decide_eq_true_eq] at hab
 exact decide_eq_true (Std.le_of_lt hab)
theorem tied_text {es:Ents} (hw:WFE es) (h5:heightE es ≤ 5) {V:List RView} {D:List DView} (h:Tied V D):(srt V).flatMap (lineP es V) = D.flatMap (lineD (toF (filesE es))):=by
 rw [tied_srt h,List.flatMap_map]
 rw [List.flatMap_def,List.flatMap_def]
 congr 1
 refine List.map_congr_left fun d hd => ?_
 unfold lineP lineD
 rw [any_perm h.perm]
 have:(D.map docV).any (fun x => x.name == d.name && decide (nowQ es x.qs ≠ x.ans)) = decide (nowD (toF (filesE es)) d.ws ≠ d.ans):=by
  rw [Bool.eq_iff_iff,List.any_eq_true,decide_eq_true_eq]
  constructor
  ·rintro ⟨x,hx,hp⟩
   rw [List.mem_map] at hx
   obtain ⟨e,he,rfl⟩:=hx
   rw [Bool.and_eq_true,decide_eq_true_eq,now_docV hw h5 (h.good e he)] at hp
   have hn:e.name = d.name:=by simpa [docV] using hp.1
   have:e = d:=by
    obtain ⟨i,hi,rfl⟩:=List.getElem_of_mem he
    obtain ⟨j,hj,rfl⟩:=List.getElem_of_mem hd
    have e:(D.map (·.name))[i]'(by simpa using hi) = (D.map (·.name))[j]'(by simpa using hj):=by simp [hn]
    have:=(List.getElem_inj h.nd).1 e
    subst this
    rfl
   subst this
   exact hp.2
  ·intro hne
   refine ⟨docV d,List.mem_map.2 ⟨d,hd,rfl⟩,?_⟩
   rw [Bool.and_eq_true,decide_eq_true_eq,now_docV hw h5 (h.good d hd)]
   exact ⟨by simp [docV],hne⟩
 rw [this]
 by_cases hs:nowD (toF (filesE es)) d.ws = d.ans
 ·rw [if_pos hs,if_neg (by simp [hs])]
 ·rw [if_neg hs,if_pos (by simpa using hs)]
end Go.Proofs.YtdcbgfhkfmohiaaGreatDoor

namespace Go.Proofs.YtdcbgfhkfmohiaaGreatDoor
open Go.RowKit
structure DuoX where
 D:Duo
 Rs:List RuleP
 ds:List DRule
def DuoX.foot (X:DuoX) (k:Nat):Prop:=Foot X.D.B.rr X.Rs k∨docR X.D.vr X.ds k
def DuoX.own (X:DuoX) (k:Nat):Prop:=X.D.own k∨X.foot k
structure DuoXAt (w:World) (X:DuoX):Prop where
 duo:DuoAt w X.D
 prog:RulesAt w X.D.B.rr X.Rs
 doc:DRulesAt w X.D.vr X.ds
 tie:Tied (X.Rs.map (·.view)) (X.ds.map (·.view))
 outD:∀ k,X.foot k→¬ X.D.own k
 outR:∀ k,Foot X.D.B.rr X.Rs k→¬ docR X.D.vr X.ds k
structure DuoXStep (w:World) (X:DuoX) (w' : World) (X' : DuoX):Prop where
 os:w'.os = w.os
 tape:w'.tape = w.tape
 output:w'.output = w.output
 size:w.heap.size ≤ w'.heap.size
 blk:∀ k,k < w.heap.size→¬ X.own k→w'.heap[k]? = w.heap[k]?
 own:∀ k,X'.own k→X.own k∨w.heap.size ≤ k
 sb:X'.D.B.sb = X.D.B.sb
 b:X'.D.b = X.D.b
 made:X'.D.r.made ≤ X.D.r.made + 1
theorem DuoXAt.foot_lt {w:World} {X:DuoX} (h:DuoXAt w X) {k:Nat} (hk:X.foot k):k < w.heap.size:=hk.elim (fun h1 => h.prog.lt h1) (fun h1 => h.doc.lt h1)
theorem DuoXAt.own_lt {w:World} {X:DuoX} (h:DuoXAt w X) {k:Nat} (hk:X.own k):k < w.heap.size:=hk.elim (fun h1 => h.duo.own_lt h1) (fun h1 => h.foot_lt h1)
theorem DuoXAt.frame {w w' : World} {X:DuoX} (h:DuoXAt w X) (hs:w.heap.size ≤ w'.heap.size) (hb:∀ k,X.own k→w'.heap[k]? = w.heap[k]?):DuoXAt w' X :=
 ⟨h.duo.frame fun k hk => hb k (.inl hk),h.prog.keep hs fun k hk => hb k (.inr (.inl hk)),h.doc.frame hs fun k hk => hb k (.inr (.inr hk)),h.tie,h.outD,h.outR⟩
theorem DuoXAt.below {w w' : World} {X:DuoX} (h:DuoXAt w X) (hb:Below w.heap.size w w'):DuoXAt w' X:=h.frame hb.size fun _ hk => hb.block _ (h.own_lt hk)
theorem DuoXStep.of_below {w w' : World} {X:DuoX} (h:Below w.heap.size w w'):DuoXStep w X w' X :=
 ⟨h.os,h.tape,h.output,h.size,fun k hk _ => h.block k hk,fun _ hk => .inl hk,rfl,rfl,by omega⟩
theorem DuoXStep.before {w w1 w' : World} {X X' : DuoX} (h:Below w.heap.size w w1) (hs:DuoXStep w1 X w' X'):DuoXStep w X w' X' :=
 ⟨hs.os.trans h.os,hs.tape.trans h.tape,hs.output.trans h.output,Nat.le_trans h.size hs.size,fun k hk hn => (hs.blk k (Nat.lt_of_lt_of_le hk h.size) hn).trans (h.block k hk),fun k hk => (hs.own k hk).imp id (fun h2 => Nat.le_trans h.size h2),hs.sb,hs.b,hs.made⟩
theorem duoX_lift {w w' : World} {X:DuoX} {D' : Duo} (h:DuoXAt w X) (hD:DuoAt w' D') (hS:DuoStep w X.D w' D'):DuoXAt w' ⟨D',X.Rs,X.ds⟩∧DuoXStep w X w' ⟨D',X.Rs,X.ds⟩:=by
 have hst:∀ k,X.foot k→w'.heap[k]? = w.heap[k]?:=fun k hk => hS.blk k (h.foot_lt hk) (h.outD k hk)
 have hf:∀ k,DuoX.foot ⟨D',X.Rs,X.ds⟩ k ↔ X.foot k:=fun k => by
  unfold DuoX.foot
  rw [hS.rr,hS.vr]
 refine ⟨⟨hD,?_,?_,h.tie,?_,?_⟩,⟨hS.os,hS.tape,hS.output,hS.size,fun k hk hn => hS.blk k hk fun h1 => hn (.inl h1),?_,hS.sb,hS.b,hS.made⟩⟩
 ·show RulesAt w' D'.B.rr X.Rs
  rw [hS.rr]
  exact h.prog.keep hS.size fun k hk => hst k (.inl hk)
 ·show DRulesAt w' D'.vr X.ds
  rw [hS.vr]
  exact h.doc.frame hS.size fun k hk => hst k (.inr hk)
 ·intro k hk ho
  have hk':=(hf k).1 hk
  rcases hS.own k ho with h1 | h1
  ·exact h.outD k hk' h1
  ·have:=h.foot_lt hk';omega
 ·show ∀ k,Foot D'.B.rr X.Rs k→¬ docR D'.vr X.ds k
  rw [hS.rr,hS.vr]
  exact h.outR
 ·rintro k (hk | hk)
  ·exact (hS.own k hk).imp .inl id
  ·exact .inl (.inr ((hf k).1 hk))
theorem duoX_rules {w w2 w3:World} {X:DuoX} {Rs' : List RuleP} {vr' : Value} {ds' : List DRule} {O' : Nat→Prop} (h:DuoXAt w X) (hP:RulesAt w2 X.D.B.rr Rs') (hT:Turn (Ow X.D.B.rr X.Rs) w w2 (Ow X.D.B.rr Rs')) (hFt:∀ k,Foot X.D.B.rr Rs' k→Foot X.D.B.rr X.Rs k∨w.heap.size ≤ k)
  (hblk:w3.heap[X.D.b]? = some (.cells #[.int .i64 X.D.r.limit,.int .i64 X.D.r.made,X.D.va,vr'] 193 (0,0))) (hQ:DRulesAt w3 vr' ds') (hT2:Turn (fun k => k = X.D.b∨X.D.vr.ownBlock = some k) w2 w3 O') (hFt2:∀ k,docR vr' ds' k→docR X.D.vr X.ds k∨w2.heap.size ≤ k)
  (ht:Tied (Rs'.map (·.view)) (ds'.map (·.view))):DuoXAt w3 ⟨{ X.D with vr:=vr' },Rs',ds'⟩∧DuoXStep w X w3 ⟨{ X.D with vr:=vr' },Rs',ds'⟩:=by
 have hbs:X.D.own X.D.b:=.inr (.inl rfl)
 have hbl:=h.duo.own_lt hbs
 have hOw:∀ k,Ow X.D.B.rr X.Rs k→X.foot k:=fun k hk => .inl (.inl hk)
 have hvr:∀ k,X.D.vr.ownBlock = some k→X.foot k:=fun k hk => .inr (.inl hk)
 -- what is neither the rules' nor the store's head
 have hk2:∀ k,k < w.heap.size→¬ X.foot k→w2.heap[k]? = w.heap[k]?:=fun k h1 h2 => hT.blk k h1 fun h3 => h2 (hOw k h3)
 have hk3:∀ k,k < w.heap.size→¬ X.foot k→k ≠ X.D.b→w3.heap[k]? = w.heap[k]?:=fun k h1 h2 h3 => (hT2.blk k (Nat.lt_of_lt_of_le h1 hT.size) fun h4 => h4.elim h3 fun h5 => h2 (hvr k h5)).trans (hk2 k h1 h2)
 have hnf:∀ k,X.D.own k→¬ X.foot k:=fun k hk hf => h.outD k hf hk
 have hown:∀ k,X.D.own k→k ≠ X.D.b→w3.heap[k]? = w.heap[k]?:=fun k hk hne => hk3 k (h.duo.own_lt hk) (hnf k hk) hne
 have hbB:∀ k,X.D.B.own k→k ≠ X.D.b:=fun k hk e => h.duo.apart k hk (.inl e)
 have hdoc:∀ k,(X.D.va.ownBlock = some k∨∃ x ∈ X.D.sn,x.2.ownBlock = some k)→k ≠ X.D.b:=by
  intro k hk e
  subst e
  rcases hk with hk | ⟨x,hx,hk⟩
  ·obtain ⟨c,hc⟩:=row_type h.duo.ref.row hk
   rw [h.duo.ref.blk] at hc
   simp at hc
  ·obtain ⟨i,hi,rfl⟩:=List.getElem_of_mem hx
   obtain ⟨c,hc⟩:=row_type (h.duo.ref.fil i hi (by rw [← h.duo.ref.len];exact hi)) hk
   rw [h.duo.ref.blk] at hc
   simp at hc
 have hF3:∀ k,Foot X.D.B.rr Rs' k→w3.heap[k]? = w2.heap[k]?:=fun k hk => hT2.blk k (hP.lt hk) fun h1 => by
  rcases hFt k hk with h2 | h2
  ·rcases h1 with rfl | h1
   ·exact h.outD _ (.inl h2) hbs
   ·exact h.outR k h2 (.inl h1)
  ·rcases h1 with rfl | h1
   ·omega
   ·have:=h.foot_lt (hvr k h1);omega
 have hfoot:∀ k,DuoX.foot ⟨{ X.D with vr:=vr' },Rs',ds'⟩ k→X.foot k∨w.heap.size ≤ k:=by
  rintro k (hk | hk)
  ·exact (hFt k hk).imp (fun h1 => .inl h1) id
  ·exact (hFt2 k hk).imp (fun h1 => .inr h1) (fun h1 => Nat.le_trans hT.size h1)
 refine ⟨⟨⟨h.duo.ok.frame fun k hk => hown k (.inl hk) (hbB k hk),⟨hblk,rowKept h.duo.ref.row fun k hk => hown k (.inr (.inr (.inl hk))) (hdoc k (.inl hk)),h.duo.ref.len,h.duo.ref.num,fun i h1 h2 => files_kept (h.duo.ref.fil i h1 h2) fun k hk => hown k (.inr (.inr (.inr ⟨_,List.getElem_mem h1,hk⟩))) (hdoc k (.inr ⟨_,List.getElem_mem h1,hk⟩)),h.duo.ref.tiny,h.duo.ref.few,h.duo.ref.lim⟩,h.duo.ag,h.duo.apart⟩,hP.keep hT2.size hF3,hQ,ht,?_,?_⟩,?_⟩
 ·intro k hk ho
  rcases hfoot k hk with h1 | h1
  ·exact h.outD k h1 ho
  ·have:=h.duo.own_lt (show X.D.own k from ho);omega
 ·intro k hk hd
  rcases hFt2 k hd with h2 | h2
  ·rcases hFt k hk with h1 | h1
   ·exact h.outR k h1 h2
   ·have:=h.doc.lt h2;omega
  ·have:=hP.lt hk;omega
 ·refine ⟨hT2.os.trans hT.os,hT2.tape.trans hT.tape,hT2.output.trans hT.output,Nat.le_trans hT.size hT2.size,fun k h1 h2 => hk3 k h1 (fun h3 => h2 (.inr h3)) (fun e => h2 (.inl (e ▸ hbs))),?_,rfl,rfl,by show X.D.r.made ≤ X.D.r.made + 1;omega⟩
  rintro k (hk | hk)
  ·exact .inl (.inl hk)
  ·exact (hfoot k hk).imp .inr id

open Go.RowKit
structure ProgTurn (w:World) (X:DuoX) (w2:World) (Rs' : List RuleP) (D' : List DView):Prop where
 rules:RulesAt w2 X.D.B.rr Rs'
 turn:Turn (Ow X.D.B.rr X.Rs) w w2 (Ow X.D.B.rr Rs')
 foot:∀ k,Foot X.D.B.rr Rs' k→Foot X.D.B.rr X.Rs k∨w.heap.size ≤ k
 tie:Tied (Rs'.map (·.view)) D'
theorem ProgTurn.kept {w w2:World} {X:DuoX} {Rs' : List RuleP} {D' : List DView} (hp:ProgTurn w X w2 Rs' D') (_h:DuoXAt w X) {k:Nat} (hk:k < w.heap.size) (hn:¬ Foot X.D.B.rr X.Rs k):w2.heap[k]? = w.heap[k]?:=hp.turn.blk k hk fun h1 => hn (.inl h1)
theorem ProgTurn.ref {w w2:World} {X:DuoX} {Rs' : List RuleP} {D' : List DView} (hp:ProgTurn w X w2 Rs' D') (h:DuoXAt w X):RefAt w2 X.D.b X.D.r X.D.va X.D.vr X.D.sn :=
 h.duo.ref.frame fun k hk => hp.kept h (h.duo.ref.docs_lt hk) fun h1 => h.outD k (.inl h1) (.inr hk)
theorem ProgTurn.doc {w w2:World} {X:DuoX} {Rs' : List RuleP} {D' : List DView} (hp:ProgTurn w X w2 Rs' D') (h:DuoXAt w X):DRulesAt w2 X.D.vr X.ds :=
 h.doc.frame hp.turn.size fun k hk => hp.kept h (h.doc.lt hk) fun h1 => h.outR k h1 hk
theorem RulesOut.prog {w w2:World} {X:DuoX} {V:List RView} {D' : List DView} (h:RulesOut w.heap.size w X.D.B.rr X.Rs V w2) (ht:Tied V D'):∃ Rs',ProgTurn w X w2 Rs' D':=by
 obtain ⟨Rs',h1,h2,h3,h4⟩:=h
 exact ⟨Rs',h1,h3,h4,h2 ▸ ht⟩
theorem DuoXAt.apB {w:World} {X:DuoX} (h:DuoXAt w X):∀ k,Foot X.D.B.rr X.Rs k→¬ X.D.B.own k:=fun k hk ho => h.outD k (.inl hk) (.inl ho)
def planX (X:DuoX) (n:Int):Str × Nat:=match findL X.D.r.all n with
 | none => ([],2)
 | some l => if X.ds.isEmpty then ([],11) else (X.ds.flatMap fun d => lineD l d.view,0)
def planXD (X:DuoX) (n:Int):List DView:=match findL X.D.r.all n with
 | none => X.ds.map (·.view)
 | some l => if X.ds.isEmpty then X.ds.map (·.view) else (X.ds.map (·.view)).map (planD l)
theorem rules_len {w:World} {X:DuoX} (h:DuoXAt w X):X.Rs = [] ↔ X.ds = []:=by
 have:=h.tie.len
 simp only [List.length_map] at this
 constructor
 ·intro e;rw [e] at this;exact List.eq_nil_of_length_eq_zero this.symm
 ·intro e;rw [e] at this;exact List.eq_nil_of_length_eq_zero this
theorem progPlan {w:World} {X:DuoX} (h:DuoXAt w X) (n:Int):Calls Tryz.prog 35 #[ptrV X.D.B.sb,.int .i64 n] w fun e w2 => e = .returned (.tuple #[SV (planX X n).1,.int .i64 ((planX X n).2:Nat)])∧∃ Rs',ProgTurn w X w2 Rs' (planXD X n):=by
 refine (storePlan_any X.D.B X.D.r n X.Rs w h.duo.ok h.duo.ag h.prog h.apB).mono ?_
 rintro e w2 (⟨h1,rfl,h2⟩ | ⟨es,h1,h2,h3,⟨h4,rfl,h5⟩ | ⟨h4,rfl,h5⟩⟩)
 ·have e1:planX X n = ([],2):=by unfold planX;rw [h1]
  have e2:planXD X n = X.ds.map (·.view):=by unfold planXD;rw [h1]
  rw [e1,e2]
  exact ⟨rfl,RulesOut.prog h2 h.tie⟩
 ·have hd:X.ds = []:=(rules_len h).1 h4
  have e1:planX X n = ([],11):=by unfold planX;rw [h1,hd];rfl
  have e2:planXD X n = X.ds.map (·.view):=by unfold planXD;rw [h1,hd];rfl
  rw [e1,e2]
  exact ⟨rfl,RulesOut.prog h5 h.tie⟩
 ·have hd:X.ds.isEmpty = false:=by
   cases hx:X.ds with
   | nil => exact absurd ((rules_len h).2 hx) h4
   | cons _ _ => rfl
  have e1:planX X n = (X.ds.flatMap fun d => lineD (toF (filesE es)) d.view,0):=by unfold planX;rw [h1];simp only;rw [hd];rfl
  have e2:planXD X n = (X.ds.map (·.view)).map (planD (toF (filesE es))):=by unfold planXD;rw [h1];simp only;rw [hd];rfl
  rw [e1,e2]
  refine ⟨?_,RulesOut.prog h5 (tied_built h2 h3 h.tie)⟩
  rw [tied_text h2 h3 h.tie,List.flatMap_map]
theorem docPlan {w w2:World} {X:DuoX} {Rs' : List RuleP} (h:DuoXAt w X) (n:Int) (hp:ProgTurn w X w2 Rs' (planXD X n)):Calls Tryz.prog 106 #[.pointer (some ⟨X.D.b,0,none⟩),.int .i64 n] w2 fun e w3 => e = .returned (.tuple #[SV (planX X n).1,.int .i64 ((planX X n).2:Nat)])∧∃ X',DuoXAt w3 X'∧DuoXStep w X w3 X':=by
 have hvo:∀ k,X.D.vr.ownBlock = some k→¬ X.D.own k:=fun k hk => h.outD k (.inr (.inl hk))
 have hr2:=hp.ref h
 have hd2:=hp.doc h
 have hT2:∀ w3,Turn (fun m => X.D.vr.ownBlock = some m) w2 w3 (fun m => X.D.vr.ownBlock = some m)→Turn (fun k => k = X.D.b∨X.D.vr.ownBlock = some k) w2 w3 (fun k => k = X.D.b∨X.D.vr.ownBlock = some k):=fun w3 ht =>
  ⟨ht.os,ht.tape,ht.output,ht.size,fun k h1 h2 => ht.blk k h1 fun h3 => h2 (.inr h3),fun k hk => .inl hk⟩
 have hbv:X.D.vr.ownBlock ≠ some X.D.b:=fun e => hvo _ e (.inr (.inl rfl))
 have fin:∀ w3 ds',DRulesAt w3 X.D.vr ds'→ds'.map (·.view) = planXD X n→Turn (fun m => X.D.vr.ownBlock = some m) w2 w3 (fun m => X.D.vr.ownBlock = some m)→(∀ k,docR X.D.vr ds' k→docR X.D.vr X.ds k∨w2.heap.size ≤ k)→∃ X',DuoXAt w3 X'∧DuoXStep w X w3 X':=fun w3 ds' h1 h2 h3 h4 =>
  ⟨_,duoX_rules h hp.rules hp.turn hp.foot ((h3.blk _ (Array.getElem?_eq_some_iff.1 hr2.blk).1 fun e => hbv e).trans hr2.blk) h1 (hT2 w3 h3) h4 (by rw [h2];exact hp.tie)⟩
 refine (refPlan_any X.D.b X.D.r X.D.va X.D.vr X.D.sn X.ds n w2 hr2 hd2 (fun x hx k hk e => hvo k e (.inr (.inr (.inr ⟨x,hx,hk⟩)))) hbv).mono ?_
 rintro e w3 (⟨h1,rfl,rfl⟩ | ⟨l,h1,⟨h2,rfl,rfl⟩ | ⟨h2,rfl,dk,hP⟩⟩)
 ·have e1:planX X n = ([],2):=by unfold planX;rw [h1]
  have e2:planXD X n = X.ds.map (·.view):=by unfold planXD;rw [h1]
  rw [e1]
  exact ⟨rfl,fin _ X.ds hd2 e2.symm (Turn.refl _ _) fun k hk => .inl hk⟩
 ·have e1:planX X n = ([],11):=by unfold planX;rw [h1,h2];rfl
  have e2:planXD X n = X.ds.map (·.view):=by unfold planXD;rw [h1,h2];rfl
  rw [e1]
  exact ⟨rfl,fin _ X.ds hd2 e2.symm (Turn.refl _ _) fun k hk => .inl hk⟩
 ·have hd:X.ds.isEmpty = false:=by
   cases hx:X.ds with
   | nil => exact absurd hx h2
   | cons _ _ => rfl
  have e1:planX X n = (X.ds.flatMap fun d => lineD l d.view,0):=by unfold planX;rw [h1];simp only;rw [hd];rfl
  have e2:planXD X n = (X.ds.map (·.view)).map (planD l):=by unfold planXD;rw [h1];simp only;rw [hd];rfl
  rw [e1]
  refine ⟨rfl,fin _ dk hP.rules ?_ hP.turn hP.foot⟩
  rw [e2,hP.view,List.take_length,List.drop_length,List.map_nil,List.append_nil,List.map_map]
  rfl

open Go.RowKit
theorem progRule {w:World} {X:DuoX} (h:DuoXAt w X) {nm:Str} {xs:List Str} {nv:Value} (hN:NamesAt w nv xs) (hmx:MaxOk w) (hl:nm.length ≤ maxLen) :
  Calls Tryz.prog 37 #[ptrV X.D.B.sb,SV nm,nv] w fun e w2 => e = .returned (.int .i64 (ruleDE (X.ds.map (·.view)) nm xs))∧∃ Rs',ProgTurn w X w2 Rs' (ruleDV (X.ds.map (·.view)) nm xs):=by
 refine (storeRule_any X.D.B.sb X.D.B.rr X.Rs nm xs nv w ((blk_cell h.duo.ok.at'.store 5).trans rfl) h.prog hN hmx hl).mono ?_
 rintro e w2 ⟨rfl,h1⟩
 rw [tied_err h.tie]
 exact ⟨rfl,RulesOut.prog h1 (tied_rule h.tie nm xs)⟩
theorem docRule_of {w w2 w3:World} {X:DuoX} {Rs' : List RuleP} {nm:Str} {xs:List Str} {e:Ending} (h:DuoXAt w X) (hp:ProgTurn w X w2 Rs' (ruleDV (X.ds.map (·.view)) nm xs)) (hO:DRuleOut w2 X.D.b (.int .i64 X.D.r.limit) (.int .i64 X.D.r.made) X.D.va X.D.vr X.ds nm xs e w3) :
  e = .returned (.int .i64 (ruleDE (X.ds.map (·.view)) nm xs))∧∃ X',DuoXAt w3 X'∧DuoXStep w X w3 X':=by
 obtain ⟨he,vr',ds',h1,h2,h3,h4,h5⟩:=hO
 refine ⟨he,_,duoX_rules (O':=fun k => k = X.D.b) h hp.rules hp.turn hp.foot h1 h2 ?_ h5 (by rw [h3];exact hp.tie)⟩
 exact ⟨h4.os,h4.tape,h4.output,h4.size,fun k hk hn => h4.blk k hk fun h6 => hn (.inl h6),fun k hk => .inl (.inl hk)⟩

open Go.RowKit
def StrsIn (w:World) (g:Nat) (ys:List Str):Prop:=w.heap[g]? = some (.cells (ys.map SV).toArray 9 (0,0))
theorem StrsIn.lt {w:World} {g:Nat} {ys:List Str} (h:StrsIn w g ys):g < w.heap.size:=(Array.getElem?_eq_some_iff.1 h).1
theorem StrsIn.free {w:World} {g:Nat} {ys:List Str} (h:StrsIn w g ys) (k:Nat):w.frozen? ⟨g,k,none⟩ = false:=blk_free h k
theorem StrsIn.cell {w:World} {g:Nat} {ys:List Str} (h:StrsIn w g ys) {k:Nat} {x:Str} (hk:ys[k]? = some x):w.cell? ⟨g,k,none⟩ = some (SV x):=by
 rw [blk_cell h k]
 simp [hk]
theorem StrsIn.set {w:World} {g:Nat} {ys:List Str} (h:StrsIn w g ys) (k:Nat) (x:Str):StrsIn (w.setCell ⟨g,k,none⟩ (SV x)) g (ys.set k x):=by
 have:=(setCell_set1 (i:=k) h (SV x)).here
 unfold StrsIn
 rw [this]
 simp [List.map_set]
theorem StrsIn.kept {w w' : World} {g:Nat} {ys:List Str} (h:StrsIn w g ys) (hb:w'.heap[g]? = w.heap[g]?):StrsIn w' g ys:=hb.trans h
theorem StrsIn.names {w:World} {g n m:Nat} {ys xs:List Str} (h:StrsIn w g ys) (hx:ys.take n = xs) (hn:xs.length = n) (hm:ys.length = m) (hl:m ≤ maxLen):NamesAt w (.slice (some ⟨g,0,none⟩) n m) xs:=by
 have hle:n ≤ m:=by
  have:=congrArg List.length hx
  rw [List.length_take] at this
  omega
 subst hn
 refine ⟨some ⟨g,0,none⟩,m,rfl,hle,hl,fun k hk => ⟨g,0,rfl,h.lt,?_⟩⟩
 rw [Nat.zero_add]
 refine h.cell ?_
 have h1:(ys.take xs.length)[k]? = some xs[k]:=by rw [hx];exact List.getElem?_eq_getElem hk
 rw [List.getElem?_take_of_lt hk] at h1
 exact h1
theorem make_strs (n m:Nat) (hm:m = n + 8) (hn:n ≤ 9000000000000) (W:World):∃ W',(Instr.makeSlice 48 (.int .i64 ((n:Int) + 8)) (.int .i64 ((n:Int) + 8))).run Tryz.prog W = .ok (.slice (some ⟨W.heap.size,0,none⟩) m m) W'∧W'.heap[W.heap.size]? = some (.cells (List.replicate m (SV [])).toArray 9 (0,0))∧Below W.heap.size W W':=by
 have h:=run_make_row' (P:=Tryz.prog) 48 9 (SV []) 16 Tryz.underlying48 Tryz.infoStr rfl .i64 .i64 m (by omega) (by omega) W
 have e:((n:Int) + 8) = (m:Int):=by omega
 rw [e]
 refine ⟨_,h,?_,(Below.refl _ W).alloc (Nat.le_refl _) _⟩
 rw [heap_alloc_new]
 have e2:madeCells #[SV []] m = (List.replicate m (SV [])).toArray:=by
  apply Array.ext'
  simp [madeCells,Nat.mod_one,List.map_const']
 rw [e2]
theorem names_copy {w:World} {ao:Option Addr} {n cap:Nat} {qs:List Str} (h:NamesAt w (.slice ao n cap) qs) (h0:0 < (qs.map SV).length):∃ ad,ao = some ad∧∀ j v,(qs.map SV)[j]? = some v→w.cell? (ad.add j) = some v:=by
 obtain ⟨ao',cap',he,_,_,hc⟩:=h
 simp only [Value.slice.injEq] at he
 obtain ⟨rfl,-,-⟩:=he
 rw [List.length_map] at h0
 obtain ⟨g,o,e,_,_⟩:=hc 0 h0
 refine ⟨⟨g,o,none⟩,e,fun j v hv => ?_⟩
 rw [List.getElem?_map] at hv
 have hj:j < qs.length:=by
  by_cases hj:j < qs.length
  ·exact hj
  ·rw [List.getElem?_eq_none (by omega)] at hv;simp at hv
 rw [List.getElem?_eq_getElem hj] at hv
 obtain ⟨g2,o2,e2,_,h2⟩:=hc j hj
 rw [e] at e2
 simp only [Option.some.injEq,Addr.mk.injEq] at e2
 obtain ⟨rfl,rfl,-⟩:=e2
 have ha:(⟨g,o,none⟩ : Addr).add j = ⟨g,o + j,none⟩:=by
  unfold Addr.add
  by_cases h:j = 0
  ·rw [if_pos h,h,Nat.add_zero]
  ·rw [if_neg h]
 rw [ha,h2]
 simpa using hv
abbrev beyS:Str:=[98,101,121,111,110,100]
abbrev mineS:Str:=[114,101,97,100,32,109,105,110,101]
def rowB (qs:List Str) (k:Nat):List Str:=qs ++ (List.replicate k beyS ++ List.replicate (8 - k) [])
theorem rowB_len {qs:List Str} {k:Nat} (hk:k ≤ 8):(rowB qs k).length = qs.length + 8:=by simp [rowB];omega
theorem rowB_set {qs:List Str} {k:Nat} (hk:k < 8):(rowB qs k).set (qs.length + k) beyS = rowB qs (k + 1):=by
 unfold rowB
 rw [List.set_append_right _ _ (by omega),show qs.length + k - qs.length = k from by omega,List.set_append_right _ _ (by simp),List.length_replicate,Nat.sub_self,show 8 - k = (8 - (k + 1)) + 1 from by omega,List.replicate_succ,List.set_cons_zero,List.replicate_succ' (n:=k),List.append_assoc]
 rfl
theorem rowB_at {qs:List Str} {k:Nat} (hk:k < 8):(rowB qs k)[qs.length + k]? = some []:=by
 unfold rowB
 rw [List.getElem?_append_right (by omega),show qs.length + k - qs.length = k from by omega,List.getElem?_append_right (by simp),List.length_replicate,Nat.sub_self,List.getElem?_replicate_of_lt (by omega)]
theorem rowB_take {qs:List Str} {k:Nat}:(rowB qs k).take qs.length = qs:=by unfold rowB;rw [List.take_left' rfl]
theorem rowB_low {qs:List Str} {j k:Nat} (hj:j < qs.length):(rowB qs k)[j]? = some qs[j]:=by
 unfold rowB
 rw [List.getElem?_append_left hj,List.getElem?_eq_getElem hj]
theorem rowB_high {qs:List Str} {j:Nat} (h1:qs.length ≤ j) (h2:j < qs.length + 8):(rowB qs 8)[j]? = some beyS:=by
 unfold rowB
 rw [List.getElem?_append_right h1,List.getElem?_append_left (by simp;omega),List.getElem?_replicate_of_lt (by omega)]
def rowM (qs:List Str) (k:Nat):List Str:=List.replicate k mineS ++ (rowB qs 8).drop k
theorem rowM_at {qs:List Str} {k:Nat}:(rowM qs k)[k]? = (rowB qs 8)[k]?:=by
 unfold rowM
 rw [List.getElem?_append_right (by simp),List.length_replicate,Nat.sub_self,List.getElem?_drop,Nat.add_zero]
theorem rowM_set {qs:List Str} {k:Nat} (hk:k < qs.length + 8):(rowM qs k).set k mineS = rowM qs (k + 1):=by
 have hl:k < (rowB qs 8).length:=by rw [rowB_len (Nat.le_refl _)];exact hk
 unfold rowM
 rw [List.set_append_right _ _ (by simp),List.length_replicate,Nat.sub_self,List.drop_eq_getElem_cons hl,List.set_cons_zero,List.replicate_succ' (n:=k),List.append_assoc]
 rfl
theorem splice_row {qs:List Str} {m:Nat} (hm:m = qs.length + 8):splice (List.replicate m (SV [])) 0 (qs.map SV) = (rowB qs 0).map SV:=by
 subst hm
 simp [splice,rowB]
theorem DuoXStep.after {w w7 w8:World} {X X' : DuoX} {g:Nat} (hs:DuoXStep w X w7 X') (hX:DuoXAt w7 X') (hg:w.heap.size ≤ g) (hn:¬ X'.own g) (hT:Turn (fun k => k = g) w7 w8 (fun k => k = g)):DuoXAt w8 X'∧DuoXStep w X w8 X' :=
 ⟨hX.frame hT.size fun k hk => hT.blk k (hX.own_lt hk) fun e => hn (e ▸ hk),⟨hT.os.trans hs.os,hT.tape.trans hs.tape,hT.output.trans hs.output,Nat.le_trans hs.size hT.size,fun k h1 h2 => (hT.blk k (Nat.lt_of_lt_of_le h1 hs.size) (by omega)).trans (hs.blk k h1 h2),hs.own,hs.sb,hs.b,hs.made⟩⟩
theorem Turn.setCell {W w:World} {g k:Nat} {v:Value} (h:Turn (fun j => j = g) w W (fun j => j = g)):Turn (fun j => j = g) w (W.setCell ⟨g,k,none⟩ v) (fun j => j = g) :=
 ⟨h.os,h.tape,h.output,by simpa [World.setCell] using h.size,fun j h1 h2 => (Below.heap_setCell _ _ _ _ h2).trans (h.blk j h1 h2),h.own⟩
end Go.Proofs.YtdcbgfhkfmohiaaGreatDoor
