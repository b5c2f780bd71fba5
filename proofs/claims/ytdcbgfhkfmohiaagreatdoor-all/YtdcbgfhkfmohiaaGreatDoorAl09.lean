/- keep, keepDirectory. -/
import Derived.Test.YtdcbgfhkfmohiaaGreatDoorAl08
import Derived.Deep.MidRow
import Derived.BigQuiet
import Derived.Deep.RegionHeld3
namespace Go.Proofs.YtdcbgfhkfmohiaaGreatDoor
open Go.RowKit
theorem Tryz.holdFile (b : Nat) (w : World) : (method 401 131 (.pointer (some ⟨b, 0, none⟩)) "canopy/canopy.hold").run Tryz.prog w = .ok (92, .pointer (some ⟨b, 0, none⟩)) w := by kernel_rfl
theorem Tryz.holdDir (b : Nat) (w : World) : (method 401 89 (.pointer (some ⟨b, 0, none⟩)) "canopy/canopy.hold").run Tryz.prog w = .ok (92, .pointer (some ⟨b, 0, none⟩)) w := by kernel_rfl
theorem quiet_load_mid {P:Program} {ops:Array Oper} {C:World→Prop} {Q:Act→Prop} {a:Act} {o:Oper} {rest:List Oper} (hgd:o.guard = none) (ty:TypeId) (x:Operand) (ho:o.op = .load ty x)
  (b off:Nat) (hx:a.eval x = .pointer (some ⟨b,off,none⟩)) (cs:List Value) (d:TypeDesc) (hS:∀ w,C w→w.rangeAt b off cs) (hu:P.underlying ty = some d) (hd:d.isRow = true) (hi:(P.info? ty).map (·.size) = some cs.length)
  (h:wpQuiet P ops C Q rest (a.put o.dst (.agg cs.toArray))):wpQuiet P ops C Q (o :: rest) a :=
 BigFrame.wpQuiet_want (by simp [Region.wanted,hgd]) fun K hK => ⟨.agg cs.toArray,fun w hw => by
  have hr:(execOp a.eval o).run P w = .ok (.value (.agg cs.toArray)) w:=by
   unfold execOp
   simp only [ho,hx,Instr.loadAt,Instr.sureAddr,Sem.run_bind,Sem.run_pure,Result.andThen_ok,run_loadVar_mid w b off ty cs d (hS w hw) hu hd hi]
  unfold Oper.quietAt;rw [hr];exact ⟨rfl,rfl⟩,hK _ h⟩
theorem quiet_lookup {P:Program} {ops:Array Oper} {C:World→Prop} {Q:Act→Prop} {a:Act} {o:Oper} {rest:List Oper} (hgd:o.guard = none) (t:TypeId) (m k:Operand) (ho:o.op = .lookup t m k false)
  (mv kv v:Value) (hm:a.eval m = mv) (hk:a.eval k = kv) (hr:∀ w,C w→(Instr.lookup t mv kv false).run P w = .ok v w)
  (h:wpQuiet P ops C Q rest (a.put o.dst v)):wpQuiet P ops C Q (o :: rest) a :=
 BigFrame.wpQuiet_want (by simp [Region.wanted,hgd]) fun K hK => ⟨v,fun w hw => by
  have hr:(execOp a.eval o).run P w = .ok (.value v) w:=by
   unfold execOp
   simp only [ho,hm,hk,hr w hw,Sem.run_bind,Sem.run_pure,Result.andThen_ok]
  unfold Oper.quietAt;rw [hr];exact ⟨rfl,rfl⟩,hK _ h⟩
theorem step_mapUpdate {P:Program} {ops:Array Oper} {op:Oper} {a:Act} {w:World} {K:Act→World→Prop} {Q:Exit→Act→World→Prop} {E:Prop} (hgd:op.guard = none) (t:TypeId) (m k x:Operand)
  (ho:op.op = .mapUpdate t m k x) (mv kv v:Value) (hm:a.eval m = mv) (hk:a.eval k = kv) (hx:a.eval x = v) (w' : World) (hr:(Instr.mapUpdate t mv kv v).run P w = .ok () w')
  (h:K (a.put op.dst undef) w'):if Region.wanted op (yielded ops a.tmps) = true then Oper.wp P op a w K Q else E:=by
 have hw:Region.wanted op (yielded ops a.tmps) = true:=by simp [Region.wanted,hgd]
 rw [if_pos hw]
 unfold Oper.wp
 simp only [execOp,ho,hm,hk,hx,hr,Sem.run_bind,Sem.run_pure,Result.andThen_ok]
 exact h
theorem reg_dir {w:World} {B:Bank} {Q:Nat→Int→Prop} (hB:BankAt w B) {b:Nat} {u:Int} {vs:List (Str × Value)} {es:Ents} (hd:DirAt w b u vs) (he:RepE w Q vs es) (hq:Q b u) (hr:B.reg b):es ∈ B.ds∧B.ad (.dir es) = b:=by
 obtain ⟨t,h1,h2⟩:=hr
 cases t with
 | file d =>
  have:=hB.files d h1
  rw [h2] at this
  exact (file_not_dir this hd).elim
 | dir es' =>
  have hr:RepT w Q (valT B.ad (.dir es')) (.dir es):=by
   show RepT w Q (dirV (B.ad (.dir es'))) (.dir es)
   rw [h2];exact .dir hd hq he
  have:=rep_kept hB _ (.dir es') (.dir es) (Nat.le_refl _) h1 hr
  simp only [Tree.dir.injEq] at this
  subst this
  exact ⟨h1,h2⟩
theorem set_node {l:List (Str × Value)} {i:Nat} (h:i < l.length) (v:Value):(listCells l).set (1 + i * 2 + 1) v = listCells (l.set i (l[i].1,v)):=by
 rw [← set_cells h l[i].1 v]
 congr 1
 apply List.ext_getElem?
 intro j
 by_cases e:1 + i * 2 = j
 ·subst e
  have h1:=(listCells_name h).1
  rw [show i * 2 + 1 = 1 + i * 2 from by omega] at h1
  rw [List.getElem?_set_self (by have:=(List.getElem?_eq_some_iff.1 h1).1;exact this),h1]
 ·rw [List.getElem?_set_ne e]
structure LoopK (N:Nat) (w:World) (B:Bank) (es:Ents) (vs:List (Str × Value)) (L k:Nat) (wr:World) (Bk:Bank):Prop where
 grow:Grow N w B wr Bk
 exact' : Exact Bk (fun _ => 0)
 has:∀ e ∈ es.take k,Bk.has e.2
 zero:∀ s,Bk.has s→Bk.us s = 0→(∃ e ∈ es.take k,e.2 = s)∨(B.has s∧B.us s = 0)
 list:wr.heap[L]? = some (.cells (listCells (valsE Bk.ad (es.take k) ++ vs.drop k)).toArray 147 (0,0))
 rest:RepE wr (QK N Bk) (vs.drop k) (es.drop k)
 len:Bk.ds.length ≤ B.ds.length + (dirsE (es.take k)).length
theorem dirsE_take {es:Ents} {k:Nat} (h:k < es.length):(dirsE (es.take (k + 1))).length = (dirsE (es.take k)).length + (dirsT es[k].2).length:=by
 induction es generalizing k with
 | nil => simp at h
 | cons e es ih =>
  obtain ⟨x,t⟩:=e
  cases k with
  | zero => simp [dirsE]
  | succ k =>
   have:=ih (k:=k) (by simpa using h)
   simp only [List.take_succ_cons,dirsE,List.length_append,List.getElem_cons_succ];omega
theorem dirsE_take_le {es:Ents} (k:Nat):(dirsE (es.take k)).length ≤ (dirsE es).length:=by
 induction es generalizing k with
 | nil => simp
 | cons e es ih =>
  obtain ⟨x,t⟩:=e
  cases k with
  | zero => simp [dirsE]
  | succ k => have:=ih k;simp only [List.take_succ_cons,dirsE,List.length_append];omega
theorem RepE.drop {w:World} {Q:Nat→Int→Prop} {vs:List (Str × Value)} {es:Ents} (h:RepE w Q vs es) (k:Nat):RepE w Q (vs.drop k) (es.drop k):=by
 induction vs generalizing es k with
 | nil => cases h;simp;exact .nil
 | cons f vs ih => cases h with
  | cons h hs => cases k with
   | zero => exact .cons h hs
   | succ k => exact ih hs k
theorem BankAt.away {w w' : World} {B:Bank} (hA:BankAt w B) {L:Nat} {o:Obj} (hs1:Set1 w w' L o) {cs:Array Value} (hL:w.heap[L]? = some (.cells cs 147 (0,0))):BankAt w' B:=by
 have hown:=hA.own4 hL (by decide)
 have hnode:∀ t,B.has t→B.ad t ≠ L:=by
  intro t ht e
  have:=hA.nodeO ht
  rw [e,hL] at this
  cases t <;> simp [NodeO] at this
 obtain ⟨m1,c1,h1,k1⟩:=hA.snaps
 obtain ⟨m2,c2,h2,k2⟩:=hA.dmap
 obtain ⟨m3,c3,h3,k3⟩:=hA.fmap
 refine ⟨(hs1.other _ (fun e => hown (.inl e.symm))).trans hA.store,⟨m1,c1,(hs1.other _ (fun e => hown (.inr (.inl e.symm)))).trans h1,k1⟩,⟨m2,c2,(hs1.other _ (fun e => hown (.inr (.inr (.inl e.symm))))).trans h2,k2⟩,⟨m3,c3,(hs1.other _ (fun e => hown (.inr (.inr (.inr e.symm))))).trans h3,k3⟩,hA.apart,?_,?_,hA.closed,hA.roots,hA.ndD,hA.ndF,hA.ndS⟩
 ·intro d hd;exact (hs1.other _ (hnode (.file d) hd)).trans (hA.files d hd)
 ·intro x hx;exact ⟨(hA.dirs x hx).1,(hs1.other _ (hnode (.dir x) hx)).trans (hA.dirs x hx).2⟩
theorem Grow.away {N:Nat} {w w2 w3:World} {B B2:Bank} (h:Grow N w B w2 B2) {L:Nat} {o:Obj} (hs1:Set1 w2 w3 L o) {cs:Array Value} (hL:w2.heap[L]? = some (.cells cs 147 (0,0))) (hw:w.heap.size ≤ L):Grow N w B w3 B2 :=
 ⟨h.same,h.at'.away hs1 hL,h.old,h.new,⟨hs1.os.trans h.step.os,hs1.tape.trans h.step.tape,hs1.output.trans h.step.output,by rw [hs1.size];exact h.step.size,fun b hb => by
  have hne:b ≠ L:=by omega
  rcases h.step.blk b hb with h1 | ⟨hr,h1⟩ | h1
  ·exact .inl ((hs1.other b hne).trans h1)
  ·refine .inr (.inl ⟨hr,?_⟩)
   rcases h1 with ⟨u,u',d,a1,a2⟩ | ⟨u,u',vs,a1,a2⟩
   ·exact .inl ⟨u,u',d,a1,(hs1.other b hne).trans a2⟩
   ·exact .inr ⟨u,u',vs,a1,⟨a2.1,(hs1.other b hne).trans a2.2⟩⟩
  ·exact .inr (.inr h1)⟩⟩
theorem RepE.away {w w' : World} {Q:Nat→Int→Prop} {vs:List (Str × Value)} {es:Ents} (h:RepE w Q vs es) {L:Nat} {o:Obj} (hs1:Set1 w w' L o) {cs:Array Value} (hL:w.heap[L]? = some (.cells cs 147 (0,0))):RepE w' Q vs es :=
 h.keep (fun b u vs hd hq => ⟨u,⟨hd.1,(hs1.other b (fun e => by have:=hd.2;rw [e,hL] at this;simp at this)).trans hd.2⟩,hq⟩)
  (fun b u d hd hq => ⟨u,(hs1.other b (fun e => by unfold FileAt at hd;rw [e,hL] at hd;simp at hd)).trans hd,hq⟩)
theorem LoopK.next {N:Nat} {w:World} {B:Bank} {es:Ents} {vs:List (Str × Value)} {L k:Nat} {wr:World} {Bk:Bank} (h:LoopK N w B es vs L k wr Bk) (hL:w.heap.size ≤ L) (hke:k < es.length) (hlen:vs.length = es.length) (hnames:vs[k].1 = es[k].1)
  {w2:World} {B2:Bank} (hK:KeepOut1 N wr Bk es[k].2 w2 B2):LoopK N w B es vs L (k + 1) (w2.setCell ⟨L,1 + k * 2 + 1,none⟩ (valT B2.ad es[k].2)) B2∧w2.cell? ⟨L,1 + k * 2 + 1,none⟩ = some vs[k].2∧w2.frozen? ⟨L,1 + k * 2 + 1,none⟩ = false:=by
 obtain ⟨hg,hx,hh,hz,hl⟩:=hK
 have hkv:k < vs.length:=by omega
 have htk:es.take (k + 1) = es.take k ++ [es[k]]:=List.take_succ_eq_append_getElem hke
 have hdk:vs.drop k = vs[k] :: vs.drop (k + 1):=List.drop_eq_getElem_cons hkv
 have hva:valsE B2.ad (es.take k) = valsE Bk.ad (es.take k):=valsE_congr fun e he => (hg.old _ (h.has e he)).2.1
 have hL2:w2.heap[L]? = some (.cells (listCells (valsE Bk.ad (es.take k) ++ vs.drop k)).toArray 147 (0,0)):=(hg.step.other h.grow.at' h.list (by decide) (by decide) (by decide)).trans h.list
 have hlk:(valsE Bk.ad (es.take k)).length = k:=by rw [valsE_len];simp;omega
 have hset:(listCells (valsE Bk.ad (es.take k) ++ vs.drop k)).set (1 + k * 2 + 1) (valT B2.ad es[k].2) = listCells (valsE B2.ad (es.take (k + 1)) ++ vs.drop (k + 1)):=by
  rw [set_node (by rw [List.length_append,hlk,List.length_drop];omega)]
  congr 1
  have hget:(valsE Bk.ad (es.take k) ++ vs.drop k)[k]'(by rw [List.length_append,hlk,List.length_drop];omega) = vs[k]:=by
   rw [List.getElem_append_right (by omega)];simp [hlk]
  rw [hget,List.set_append_right _ _ (by omega),hlk,Nat.sub_self,hdk,List.set_cons_zero,htk]
  have:valsE B2.ad (es.take k ++ [es[k]]) = valsE B2.ad (es.take k) ++ [(es[k].1,valT B2.ad es[k].2)]:=by unfold valsE;rw [List.map_append];rfl
  rw [this,hva,hnames];simp
 have hsz:(listCells (valsE Bk.ad (es.take k) ++ vs.drop k))[1 + k * 2 + 1]? = some vs[k].2:=by
  have h1:=(listCells_name (es:=valsE Bk.ad (es.take k) ++ vs.drop k) (k:=k) (by rw [List.length_append,hlk,List.length_drop];omega)).2
  rw [show 1 + k * 2 + 1 = k * 2 + 2 from by omega,h1]
  congr 2
  rw [List.getElem_append_right (by omega)];simp [hlk]
 have hs1:Set1 w2 (w2.setCell ⟨L,1 + k * 2 + 1,none⟩ (valT B2.ad es[k].2)) L _:=setCell_set1 hL2 _
 refine ⟨⟨(h.grow.trans hg).away hs1 hL2 hL,hx,?_,?_,?_,?_,?_⟩,(blk_cell hL2 _).trans (by simpa using hsz),blk_free hL2 _⟩
 ·intro e he
  rw [htk,List.mem_append] at he
  rcases he with he | he
  ·exact (hg.old _ (h.has e he)).1
  ·simp at he;rw [he];exact hh
 ·intro s hs h0
  rcases hz s hs h0 with h1 | ⟨h1,h2⟩
  ·exact .inl ⟨es[k],by rw [htk];exact List.mem_append_right _ (by simp),h1.symm⟩
  ·rcases h.zero s h1 h2 with ⟨e,he,h3⟩ | h3
   ·exact .inl ⟨e,by rw [htk];exact List.mem_append_left _ he,h3⟩
   ·exact .inr h3
 ·rw [hs1.here]
  congr 2
  rw [← hset];simp
 ·have:=hg.reps h.grow.at' h.rest
  have h3:=this.away hs1 hL2
  have h4:=h3.drop 1
  simpa using h4
 ·rw [dirsE_take hke];have:=h.len;omega

open Go.RowKit
def KeepDirOut (N:Nat) (w:World) (B:Bank) (es:Ents) (e:Ending) (w' : World):Prop:=∃ B',KeepOut1 N w B (.dir es) w' B'∧e = .returned (ptrV (B'.ad (.dir es)))
def KeepAnyOut (N:Nat) (w:World) (B:Bank) (t:Tree) (e:Ending) (w' : World):Prop:=∃ B',KeepOut1 N w B t w' B'∧e = .returned (valT B'.ad t)
def Fits (B:Bank) (t:Tree):Prop:=B.ds.length + (dirsT t).length ≤ 100000∧B.ss.length ≤ 1000
def KeepDirAt (N n:Nat):Prop:=∀ (es:Ents) (B:Bank) (b:Nat) (u:Int) (vs:List (Str × Value)) (w:World),SizeOf.sizeOf (Tree.dir es) ≤ n→BankAt w B→Exact B (fun _ => 0)→DirAt w b u vs→QK N B b u→RepE w (QK N B) vs es→N ≤ w.heap.size→Fits B (.dir es) →
 Calls Tryz.prog 91 #[ptrV B.sb,ptrV b] w fun e w' => KeepDirOut N w B es e w'
set_option maxHeartbeats 1000000 in
theorem keep_of {N n:Nat} (H:KeepDirAt N n) (t:Tree) (B:Bank) (v:Value) (w:World) (hn:SizeOf.sizeOf t ≤ n) (hB:BankAt w B) (hx:Exact B (fun _ => 0)) (hr:RepT w (QK N B) v t) (hN:N ≤ w.heap.size) (hfit:Fits B t) :
  Calls Tryz.prog 124 #[ptrV B.sb,v] w fun e w' => KeepAnyOut N w B t e w':=by
 cases hr with
 | @file b u d h hq =>
  have a1:=Tryz.assertFile
  have C:Hid (Calls Tryz.prog 162 #[ptrV B.sb,ptrV b] w fun e w' => ∃ B',KeepOut1 N w B (.file d) w' B'∧e = .returned (ptrV (B'.ad (.file d)))):=keepFile_any N B b u d w hB hx h hq
  clear hB hx h hq
  go_enter Tryz.func124,Tryz.ntmps124
  go_wp2_with fail
  refine C.out.mono ?_
  rintro e w1 ⟨B',hK,rfl⟩
  have HK:Hid _:=hK
  clear hK
  go_wp2
  go_ret
  exact ⟨B',HK.out,rfl⟩
 | @dir b u vs es h hq he =>
  have a1:=Tryz.assertDirNo
  have a2:=Tryz.assertDir
  have C:Hid (Calls Tryz.prog 91 #[ptrV B.sb,ptrV b] w fun e w' => KeepDirOut N w B es e w'):=H es B b u vs w hn hB hx h hq he hN hfit
  clear hB hx h hq he H
  go_enter Tryz.func124,Tryz.ntmps124
  go_wp2_with fail
  refine C.out.mono ?_
  rintro e w1 ⟨B',hK,rfl⟩
  have HK:Hid _:=hK
  clear hK
  go_wp2
  go_ret
  exact ⟨B',HK.out,rfl⟩
theorem valT_form (ad:Tree→Nat) (t:Tree):∃ k n,valT ad t = .iface k (.pointer (some ⟨n,0,none⟩)):=by
 cases t with
 | file d => exact ⟨_,_,rfl⟩
 | dir es => exact ⟨_,_,rfl⟩
theorem LoopK.node {N:Nat} {w:World} {B:Bank} {es:Ents} {vs:List (Str × Value)} {L k:Nat} {wr:World} {Bk:Bank} (h:LoopK N w B es vs L k wr Bk) (hke:k < es.length) (hkv:k < vs.length) :
  wr.cell? ⟨L,1 + k * 2 + 1,none⟩ = some vs[k].2∧vs[k].1 = es[k].1∧RepT wr (QK N Bk) vs[k].2 es[k].2:=by
 have hlk:(valsE Bk.ad (es.take k)).length = k:=by rw [valsE_len];simp;omega
 have hsz:(listCells (valsE Bk.ad (es.take k) ++ vs.drop k))[1 + k * 2 + 1]? = some vs[k].2:=by
  have h1:=(listCells_name (es:=valsE Bk.ad (es.take k) ++ vs.drop k) (k:=k) (by rw [List.length_append,hlk,List.length_drop];omega)).2
  rw [show 1 + k * 2 + 1 = k * 2 + 2 from by omega,h1]
  congr 2
  rw [List.getElem_append_right (by omega)];simp [hlk]
 have hr:=h.rest
 rw [List.drop_eq_getElem_cons hkv,List.drop_eq_getElem_cons hke] at hr
 refine ⟨(blk_cell h.list _).trans (by simpa using hsz),?_⟩
 generalize vs[k] = a at hr ⊢
 generalize es[k] = c at hr ⊢
 obtain ⟨x,v⟩:=a
 obtain ⟨y,t⟩:=c
 cases hr with
 | cons h1 h2 => exact ⟨rfl,h1⟩
theorem LoopK.fits {N:Nat} {w:World} {B:Bank} {es:Ents} {vs:List (Str × Value)} {L k:Nat} {wr:World} {Bk:Bank} (h:LoopK N w B es vs L k wr Bk) (hke:k < es.length) (hf:Fits B (.dir es)):Fits Bk es[k].2:=by
 have h1:=h.len
 have h2:=dirsE_take hke
 have h3:=dirsE_take_le (es:=es) (k + 1)
 have h4:(dirsT (.dir es)).length = (dirsE es).length + 1:=by rw [dirsT];rfl
 refine ⟨by have:=hf.1;omega,?_⟩
 rw [h.grow.same.ss];exact hf.2
noncomputable def heldB (B:Bank) (es:Ents) (k:Nat):Bank:={ B with us:=fun s => B.us s + cntE s (es.take k) }
theorem heldB_succ {B:Bank} {es:Ents} {k:Nat} (h:k < es.length) : { heldB B es k with us:=upd (heldB B es k).us es[k].2 ((heldB B es k).us es[k].2 + 1) } = heldB B es (k + 1):=by
 have hf:upd (fun s => B.us s + cntE s (es.take k)) es[k].2 (B.us es[k].2 + cntE es[k].2 (es.take k) + 1) = fun s => B.us s + cntE s (es.take (k + 1)):=by
  funext s
  rw [cntE_take h]
  by_cases e:s = es[k].2
  ·rw [e,upd_same,one_same];omega
  ·rw [upd_other e,one_other e];omega
 show ({ B with us:=upd (fun s => B.us s + cntE s (es.take k)) es[k].2 (B.us es[k].2 + cntE es[k].2 (es.take k) + 1) }:Bank) = { B with us:=fun s => B.us s + cntE s (es.take (k + 1)) }
 rw [hf]
theorem heldB_zero {B:Bank} {es:Ents}:heldB B es 0 = B:=by
 unfold heldB
 have:(fun s => B.us s + cntE s (es.take 0)) = B.us:=by funext s;simp [cntE]
 rw [this]
structure HoldK (Bk:Bank) (es:Ents) (L:Nat) (wr:World) (k:Nat) (wz:World):Prop where
 at' : BankAt wz (heldB Bk es k)
 step:Step Bk.reg Bk wr wz
 list:wz.heap[L]? = some (.cells (listCells (valsE Bk.ad es)).toArray 147 (0,0))
theorem HoldK.next {Bk:Bank} {es:Ents} {L k:Nat} {wr wz:World} (h:HoldK Bk es L wr k wz) (hk:k < es.length) (hc:∀ e ∈ es,Bk.has e.2) :
  HoldK Bk es L wr (k + 1) (wz.setCell ⟨Bk.ad es[k].2,0,none⟩ (.int .i64 ((Bk.us es[k].2 + cntE es[k].2 (es.take k) + 1:Nat):Int))):=by
 have ht:Bk.has es[k].2:=hc _ (List.getElem_mem hk)
 have hs:Set1 wz (wz.setCell ⟨Bk.ad es[k].2,0,none⟩ (.int .i64 ((Bk.us es[k].2 + cntE es[k].2 (es.take k) + 1:Nat):Int))) (Bk.ad es[k].2) (NodeO Bk.ad es[k].2 ((Bk.us es[k].2 + cntE es[k].2 (es.take k) + 1:Nat):Int)):=users_set1 h.at' ht _
 have h1:=h.at'.setUsers ht _ hs
 refine ⟨?_,h.step.trans (Step.back (Step.of_users h.at' ht hs ⟨_,ht,rfl⟩) ⟨rfl,rfl,rfl,rfl,rfl,rfl,rfl,rfl⟩),?_⟩
 ·rw [← heldB_succ hk];exact h1
 ·rw [hs.other]
  ·exact h.list
  ·intro e
   have:=h.at'.nodeO ht
   have e2:(heldB Bk es k).ad es[k].2 = L:=e.symm
   rw [e2,h.list] at this
   generalize es[k].2 = t at this
   cases t <;> simp [NodeO] at this
theorem occD_le {ds:List Ents} (h:∀ es ∈ ds,es.length ≤ 20) (t:Tree):occD ds t ≤ 20 * ds.length:=by
 unfold occD
 induction ds with
 | nil => simp
 | cons a ds ih =>
  have h1:cntE t a ≤ a.length:=List.countP_le_length
  have h2:=h a (by simp)
  have h3:=ih (fun es he => h es (by simp [he]))
  simp only [List.map_cons,List.sum_cons,List.length_cons];omega
theorem occS_le (ss:List (Nat × Ents)) (t:Tree):occS ss t ≤ ss.length:=List.countP_le_length
theorem users_bound {w:World} {B:Bank} (hB:BankAt w B) {x:Tree→Nat} (hx:Exact B x) {t:Tree} (ht:B.has t) (h1:B.ds.length ≤ 100000) (h2:B.ss.length ≤ 1000) (h3:x t ≤ 100000):B.us t ≤ 2201000:=by
 have h4:=hx t ht
 have h5:=occD_le (fun es he => hB.few he) t
 have h6:=occS_le B.ss t
 omega
theorem keep_final {N:Nat} {w wr wz wc w3:World} {B Bk:Bank} {es:Ents} {L b:Nat} (hG:Grow N w B wr Bk) (hX:Exact Bk (fun _ => 0)) (hzero:∀ s,Bk.has s→Bk.us s = 0→(∃ e ∈ es,e.2 = s)∨(B.has s∧B.us s = 0))
  (hbl:Bk.ds.length ≤ B.ds.length + (dirsE es).length) (hch:∀ e ∈ es,Bk.has e.2) (hin:es ∉ Bk.ds) (hH:HoldK Bk es L wr es.length wz) (hb:Below wz.heap.size wz wc) (hd:DirAt wc b 0 (valsE Bk.ad es)) (hN:N ≤ b)
  {m:Array MapEntry} {c:Nat} (hm:wc.heap[Bk.rd]? = some (.map m c)) (hh:Holds m (fun d => .agg (listCells (valsE Bk.ad d)).toArray) (fun d => ptrV (Bk.ad (.dir d))) Bk.ds)
  (hs:Set1 wc w3 Bk.rd (.map (m.push { key:=.agg (listCells (valsE Bk.ad es)).toArray,val:=ptrV b,born:=c }) (c + 1))) :
  ∃ B',KeepOut1 N w B (.dir es) w3 B'∧B'.ad (.dir es) = b:=by
 have hA:=hH.at'.below hb
 have hne:∀ s,Bk.has s→s ≠ .dir es:=fun s hs e => hin (by subst e;exact hs)
 have hB3:=hA.addDir (es:=es) (b:=b) hin hch hd hm hh hs
 have hus:∀ s,(heldB Bk es es.length).us s = Bk.us s + cntE s es:=fun s => by show Bk.us s + cntE s (es.take es.length) = _;rw [List.take_length]
 have hE0:Exact (heldB Bk es es.length) (fun s => 0 + cntE s es):=by
  intro s hs2
  have:Bk.us s = occD Bk.ds s + occS Bk.ss s + 0:=hX s hs2
  rw [hus s]
  show Bk.us s + cntE s es = occD Bk.ds s + occS Bk.ss s + (0 + cntE s es)
  omega
 have hE3:=Exact.addDir (x:=fun _ => 0) hE0 hA hin rfl b
 refine ⟨{ heldB Bk es es.length with ds:=(heldB Bk es es.length).ds ++ [es],ad:=upd (heldB Bk es es.length).ad (.dir es) b,us:=upd (heldB Bk es es.length).us (.dir es) 0 },⟨⟨hG.same.trans ⟨rfl,rfl,rfl,rfl,rfl,rfl,rfl,rfl⟩,hB3,?_,?_,?_⟩,hE3,?_,?_,?_⟩,upd_same _ _ _⟩
 ·intro t ht
  obtain ⟨h1,h2,h3⟩:=hG.old t ht
  refine ⟨?_,(upd_other (hne t h1)).trans h2,?_⟩
  ·cases t with
   | file y => exact h1
   | dir y => exact List.mem_append_left _ h1
  ·show B.us t ≤ upd (heldB Bk es es.length).us (.dir es) 0 t
   rw [upd_other (hne t h1),hus t];omega
 ·intro t ht
  by_cases e:t = .dir es
  ·right;subst e;show N ≤ upd Bk.ad (.dir es) b (.dir es);rw [upd_same];exact hN
  ·have hb' : Bk.has t:=by
    cases t with
    | file y => exact ht
    | dir y => have:y ∈ Bk.ds ++ [es]:=ht;simp at this;exact this.resolve_right (fun e2 => e (by rw [e2]))
   rcases hG.new t hb' with h1 | h1
   ·exact .inl h1
   ·right;show N ≤ upd Bk.ad (.dir es) b t;rw [upd_other e];exact h1
 ·have hreg:∀ k,Bk.reg k→Bank.reg { heldB Bk es es.length with ds:=(heldB Bk es es.length).ds ++ [es],ad:=upd (heldB Bk es es.length).ad (.dir es) b,us:=upd (heldB Bk es es.length).us (.dir es) 0 } k:=by
   rintro k ⟨t,h1,h2⟩
   refine ⟨t,?_,?_⟩
   ·cases t with
    | file y => exact h1
    | dir y => exact List.mem_append_left _ h1
   ·show upd Bk.ad (.dir es) b t = k;rw [upd_other (hne t h1)];exact h2
  have hst:Step Bk.reg Bk wr w3:=(hH.step.trans (Step.of_below hb)).trans (Step.of_reg hs (.inr (.inr (.inl rfl))))
  exact (hG.step.mono hreg).trans ((hst.mono hreg).back hG.same)
 ·exact List.mem_append_right _ (by simp)
 ·intro s hs2 h0
  by_cases e:s = .dir es
  ·exact .inl e
  ·right
   have h1:upd (heldB Bk es es.length).us (.dir es) 0 s = Bk.us s + cntE s es:=by rw [upd_other e,hus s]
   have h2:Bk.us s + cntE s es = 0:=h1.symm.trans h0
   have hb' : Bk.has s:=by
    cases s with
    | file y => exact hs2
    | dir y => have:y ∈ Bk.ds ++ [es]:=hs2;simp at this;exact this.resolve_right (fun e2 => e (by rw [e2]))
   rcases hzero s hb' (by omega) with ⟨e',he',h3⟩ | h3
   ·have:=cntE_pos.2 ⟨e',he',h3⟩;omega
   ·exact h3
 ·show (Bk.ds ++ [es]).length ≤ _
  rw [List.length_append,dirsT];simp only [List.length_cons,List.length_nil];omega
theorem HoldK.below {Bk:Bank} {es:Ents} {L k:Nat} {wr wz w2:World} (h:HoldK Bk es L wr k wz) (hb:Below wz.heap.size wz w2):HoldK Bk es L wr k w2 :=
 ⟨h.at'.below hb,h.step.trans (Step.of_below hb),(hb.block L (Array.getElem?_eq_some_iff.1 h.list).1).trans h.list⟩
theorem HoldK.node {Bk:Bank} {es:Ents} {L k:Nat} {wr wz:World} (h:HoldK Bk es L wr k wz) (hk:k < es.length):wz.cell? ⟨L,1 + k * 2 + 1,none⟩ = some (valT Bk.ad es[k].2):=by
 have h1:=(listCells_name (es:=valsE Bk.ad es) (k:=k) (by rw [valsE_len];exact hk)).2
 rw [blk_cell h.list,List.getElem?_toArray,show 1 + k * 2 + 1 = k * 2 + 2 from by omega,h1]
 simp [valsE]
theorem hold_method (ad : Tree → Nat) (t : Tree) : ∃ kk, valT ad t = .iface kk (ptrV (ad t)) ∧ ∀ W : World, (method 401 kk (.pointer (some ⟨ad t, 0, none⟩)) "canopy/canopy.hold").run Tryz.prog W = .ok (92, .pointer (some ⟨ad t, 0, none⟩)) W := by
 cases t with
 | file d => exact ⟨_,rfl,Tryz.holdFile _⟩
 | dir es => exact ⟨_,rfl,Tryz.holdDir _⟩
set_option maxHeartbeats 4000000 in
set_option maxRecDepth 50000 in
theorem keepDir_step {N n:Nat} (H:KeepDirAt N n):KeepDirAt N (n + 1):=by
 intro es B b u vs w hn hB hx hd hq he hN hfit
 have hu0:=hd.users
 by_cases hpos:0 < u
 ·obtain ⟨h1,h2⟩:=reg_dir hB hd he hq (hq (.inl (by omega)))
  have R:Hid (∀ W,Below w.heap.size w W→KeepOut1 N w B (.dir es) W B):=fun W hW => ⟨(Grow.refl hB).below hW,hx,h1,fun s hs h0 => .inr ⟨hs,h0⟩,Nat.le_add_right _ _⟩
  have R2:Hid (ptrV b = ptrV (B.ad (.dir es))):=by rw [Hid,h2]
  clear hB hx hd hq he h1 h2 H
  go_enter Tryz.func91,Tryz.ntmps91
  go_wp2
  go_ret
  exact ⟨B,R.out _ (Below.refl _ _),congrArg Ending.returned R2.out⟩
 ·have hL:=hd.list
  have hl20:=hd.1
  have hforms:=he.forms
  have hlen:=he.len
  have hcells:∀ W:World,Like W w→∀ j v,(listCells vs)[j]? = some v→W.cell? ((⟨b,1,none⟩ : Addr).add j) = some v:=by
   intro W hW j v hj
   have hadd:(⟨b,1,none⟩ : Addr).add j = ⟨b,1 + j,none⟩:=by unfold Addr.add;split <;> simp_all
   rw [hadd,World.cell?_of_block (w:=w) (by rw [hW.heap])]
   exact hL.cell j v hj
  have HC:Hid _:=hcells
  have HSZ:Hid ((Tryz.prog.info? 147).map (·.size) = some (listCells vs).length):=by rw [Hid,Tryz.sizeListing,listCells_len hl20]
  have HSZ2:Hid ((Tryz.prog.info? 147).map (·.size) = some (listCells vs).toArray.size):=HSZ
  have hone:(listCells vs).toArray.all (·.oneCell') = true:=cells_one hforms
  have hls:(listCells vs).toArray.size = 41:=by simpa using listCells_len hl20
  have HH:Hid _:=H
  have HB:Hid _:=hB
  have HX:Hid _:=hx
  have HE:Hid _:=he
  have HFIT:Hid _:=hfit
  clear hB hx hd hq he H hL hcells hfit
  go_enter Tryz.func91,Tryz.ntmps91
  go_upto_region 3 with fail
  go_cut [5] (fun l wc => l = ptrV w.heap.size∧Below w.heap.size w wc∧wc.heap[w.heap.size]? = some (.cells (listCells vs).toArray 147 (0,0)))
  case first =>
   go_wp2_with (first | (refine wpList_load_cells rfl 147 (.tmp 19) rfl ⟨b,1,none⟩ rfl (listCells vs) _ ?_ Tryz.underlying147 rfl HSZ.out ?_;exact HC.out _ ⟨rfl,rfl,rfl,rfl⟩) | (refine wpList_store_row rfl 147 (.tmp 5) (.tmp 20) rfl w.heap.size (listCells vs).toArray rfl rfl 147 _ (heap_alloc_new _ _) HSZ2.out (by rw [hls];rfl) hone ?_))
   go_meet
   case rel => exact ⟨rfl,(by refine below_setRow ((Below.refl _ _).alloc (Nat.le_refl _) _) (Nat.le_refl _) _),setRow_heap _ _ _ _ _ _ (heap_alloc_new _ _)⟩
  case rest =>
   obtain ⟨rfl,hb0,hL0⟩:=hcut
   have hcnt:wc.cell? ⟨w.heap.size,0,none⟩ = some (.int .i64 vs.length):=(blk_cell hL0 0).trans rfl
   have hK0:LoopK N w B es vs w.heap.size 0 wc B :=
    ⟨(Grow.refl HB.out).below hb0,HX.out,by simp,fun s hs h0 => .inr ⟨hs,h0⟩,by simpa [valsE] using hL0,by simpa using HE.out.later hb0 (Nat.le_refl _),by simp⟩
   have HK0:Hid _:=hK0
   clear hK0 hL0
   go_upto_region 4 with fail
   go_wp2
   go_loopw [23] (fun i wr => ∃ (k:Nat) (Bk:Bank),k ≤ vs.length∧i = .int .i64 k∧LoopK N w B es vs w.heap.size k wr Bk) (fun i _ => vs.length - (intOf i).toNat)
   case atStart => exact ⟨0,B,Nat.zero_le _,rfl,HK0.out⟩
   case round =>
    obtain ⟨k,Bk,hk,rfl,hLK⟩:=hrel
    by_cases hlt:k < vs.length
    ·have hke:k < es.length:=by omega
     have hsb:Bk.sb = B.sb:=hLK.grow.same.sb
     obtain ⟨hnode,hnames,hR⟩:=hLK.node hke hlt
     have hN2:N ≤ wr.heap.size:=Nat.le_trans hN hLK.grow.step.size
     have hidx:(k:Int) < 20:=by omega
     have C:Hid (Calls Tryz.prog 124 #[ptrV B.sb,vs[k].2] wr fun e w' => KeepAnyOut N wr Bk es[k].2 e w'):=by
      rw [← hsb]
      exact keep_of HH.out es[k].2 Bk vs[k].2 wr (by have:=size_ent hke;omega) hLK.grow.at' hLK.exact' hR hN2 (hLK.fits hke HFIT.out)
     obtain ⟨kk,nn,hform⟩:=hR.form
     rw [hform] at hnode C
     have HLK:Hid (LoopK N w B es vs w.heap.size k wr Bk):=hLK
     have Hlen:Hid _:=hlen
     have Hnames:Hid _:=hnames
     clear hLK hR hform hnames hlen hcnt
     go_wp2_with (go_at_call 124;refine C.out.mono ?_;rintro e w2 ⟨B2,hK2,he⟩;obtain ⟨hLK2,hcell2,hfr2⟩:=HLK.out.next (Nat.le_refl _) hke Hlen.out Hnames.out hK2;obtain ⟨kk2,nn2,hv2⟩:=valT_form B2.ad es[k].2;rw [hv2] at hLK2 he;subst he;have HLK2:=Hid.mk' hLK2;clear hLK2 hK2 hv2)
     go_round
     case rel => exact ⟨k + 1,B2,by omega,by go_num,HLK2.out⟩
     case measure => simp [intOf];omega
    ·have htk:es.take k = es:=List.take_of_length_le (by omega)
     have hdk:vs.drop k = []:=List.drop_of_length_le (by omega)
     have hLl:wr.heap[w.heap.size]? = some (.cells (listCells (valsE Bk.ad es)).toArray 147 (0,0)):=by have:=hLK.list;rwa [htk,hdk,List.append_nil] at this
     have hch:∀ e ∈ es,Bk.has e.2:=by have:=hLK.has;rwa [htk] at this
     have hzero:∀ s,Bk.has s→Bk.us s = 0→(∃ e ∈ es,e.2 = s)∨(B.has s∧B.us s = 0):=by have:=hLK.zero;rwa [htk] at this
     have hbl:Bk.ds.length ≤ B.ds.length + (dirsE es).length:=by have:=hLK.len;rwa [htk] at this
     have hG:=hLK.grow
     have hX:=hLK.exact'
     have hA:=hG.at'
     have he20:es.length ≤ 20:=by omega
     obtain ⟨m,clock,hm,hh,hF⟩:=hA.find_dir he20 hch
     have s3:wr.cell? ⟨B.sb,3,none⟩ = some (.map (some Bk.rd)):=by rw [← hG.same.sb];exact (blk_cell hA.store 3).trans rfl
     have hlv:(valsE Bk.ad es).length ≤ 20:=by rw [valsE_len];exact he20
     have hsz:(Tryz.prog.info? 147).map (·.size) = some (listCells (valsE Bk.ad es)).toArray.size:=by rw [Tryz.sizeListing,List.size_toArray,listCells_len hlv]
     have HSL:Hid ((Tryz.prog.info? 147).map (·.size) = some (listCells (valsE Bk.ad es)).length):=by rw [Hid,Tryz.sizeListing,listCells_len hlv]
     have HRG:Hid (∀ W:World,W.heap = wr.heap→W.rangeAt w.heap.size 0 (listCells (valsE Bk.ad es))):=fun W hW j v hv => by
      rw [World.cell?_of_block (w:=wr) (by rw [hW]),blk_cell hLl,List.getElem?_toArray,Nat.zero_add];exact hv
     clear hLK hcnt
     by_cases hin:es ∈ Bk.ds
     ·have HLK:Hid (∀ W:World,W.heap = wr.heap→(Instr.lookup 83 (.map (some Bk.rd)) (.agg (listCells (valsE Bk.ad es)).toArray) false).run Tryz.prog W = .ok (ptrV (Bk.ad (.dir es))) W):=fun W hW => by
       have:=run_lookup_in Tryz.underlying83 (w:=W) (by rw [hW];exact hm) (hF W hW) hin
       exact this
      have R:Hid (∀ W,Below wr.heap.size wr W→KeepOut1 N w B (.dir es) W Bk):=by
       intro W hW
       refine ⟨hG.below hW,hX,hin,fun s hs h0 => ?_,by rw [dirsT];simp only [List.length_cons];omega⟩
       rcases hzero s hs h0 with ⟨e,he,h1⟩ | h1
       ·have h2:=hX s hs
        have h3:0 < occD Bk.ds s:=occD_pos.2 ⟨es,hin,e,he,h1⟩
        omega
       ·exact .inr h1
      clear hF hh hm hA hG hX hzero hbl hch hLl htk hdk hsz
      go_wp2
      refine wp_region_quiet_lit (by kernel_rfl) (by kernel_rfl) ?_
      quiet_step (fail)
      quiet_step (fail)
      quiet_step (fail)
      quiet_step (fail)
      refine quiet_load_mid rfl 147 (.tmp 5) rfl w.heap.size 0 rfl (listCells (valsE Bk.ad es)) _ (fun W hW => HRG.out W (by obtain ⟨n,rfl⟩:=hW;rfl)) Tryz.underlying147 rfl HSL.out ?_
      refine quiet_lookup rfl 83 (.tmp 41) (.tmp 42) rfl _ _ _ rfl rfl (fun W hW => HLK.out W (by obtain ⟨n,rfl⟩:=hW;rfl)) ?_
      quiet_step (fail)
      refine wpQuiet_nil ?_
      intro _ hw'
      obtain ⟨nq,hw''⟩:=hw'
      subst hw''
      go_wp2
      go_ret
      exact ⟨Bk,R.out _ (below_like rfl rfl rfl rfl),rfl⟩
     ·have HLK:Hid (∀ W:World,W.heap = wr.heap→(Instr.lookup 83 (.map (some Bk.rd)) (.agg (listCells (valsE Bk.ad es)).toArray) false).run Tryz.prog W = .ok (.pointer none) W):=fun W hW => by
       have:=run_lookup_out Tryz.underlying83 (w:=W) (by rw [hW];exact hm) (hF W hW) hin (zeroDir _)
       exact this
      have HH0:Hid (HoldK Bk es w.heap.size wr 0 wr):=⟨by rw [heldB_zero];exact hA,Step.refl _ _ _,hLl⟩
      have hcnt2:wr.cell? ⟨w.heap.size,0,none⟩ = some (.int .i64 es.length):=(blk_cell hLl 0).trans (by simp [listCells,valsE_len])
      have HG:Hid (Grow N w B wr Bk):=hG
      have HX2:Hid (Exact Bk (fun _ => 0)):=hX
      have HZ:Hid _:=hzero
      have HBL:Hid _:=hbl
      have HCH:Hid (∀ e ∈ es,Bk.has e.2):=hch
      have HIN:Hid (es ∉ Bk.ds):=hin
      have hN3:N ≤ wr.heap.size:=Nat.le_trans hN hG.step.size
      have Hlv:Hid _:=hlv
      clear hF hh hm hA hG hX hzero hbl hch hLl htk hdk hsz hin hlv
      go_wp2
      refine wp_region_quiet_lit (by kernel_rfl) (by kernel_rfl) ?_
      quiet_step (fail)
      quiet_step (fail)
      quiet_step (fail)
      quiet_step (fail)
      refine quiet_load_mid rfl 147 (.tmp 5) rfl w.heap.size 0 rfl (listCells (valsE Bk.ad es)) _ (fun W hW => HRG.out W (by obtain ⟨n,rfl⟩:=hW;rfl)) Tryz.underlying147 rfl HSL.out ?_
      refine quiet_lookup rfl 83 (.tmp 41) (.tmp 42) rfl _ _ _ rfl rfl (fun W hW => HLK.out W (by obtain ⟨n,rfl⟩:=hW;rfl)) ?_
      quiet_step (fail)
      refine wpQuiet_nil ?_
      intro _ hw'
      obtain ⟨nq,hw''⟩:=hw'
      subst hw''
      go_wp2
      go_loopw [49] (fun i wz => ∃ k2:Nat,k2 ≤ es.length∧i = .int .i64 k2∧HoldK Bk es w.heap.size wr k2 wz) (fun i _ => es.length - (intOf i).toNat)
      case atStart => exact ⟨0,Nat.zero_le _,rfl,HH0.out.below (below_like rfl rfl rfl rfl)⟩
      case round =>
       obtain ⟨k2,hk2,rfl,hHK⟩:=hrel
       by_cases hlt2:k2 < es.length
       ·have hn2:=hHK.node hlt2
        have hidx2:(k2:Int) < 20:=by omega
        have hhas:Bk.has es[k2].2:=HCH.out _ (List.getElem_mem hlt2)
        obtain ⟨hc2,hf2⟩:=users_cell hHK.at' (t:=es[k2].2) hhas
        have hnx:=hHK.next hlt2 HCH.out
        have hub:Bk.us es[k2].2 + cntE es[k2].2 (es.take k2) < 4611686018427387904:=by
         have h1:=users_bound HG.out.at' HX2.out hhas (by have:=HBL.out;have:=HFIT.out.1;rw [dirsT] at this;simp only [List.length_cons] at this;omega) (by rw [HG.out.same.ss];exact HFIT.out.2) (Nat.zero_le _)
         have h2:cntE es[k2].2 (es.take k2) ≤ (es.take k2).length:=List.countP_le_length
         have h3:(es.take k2).length ≤ 20:=by rw [List.length_take];omega
         omega
        obtain ⟨kk,hvk,hmeth⟩:=hold_method Bk.ad es[k2].2
        rw [hvk] at hn2
        have e1:(heldB Bk es k2).ad es[k2].2 = Bk.ad es[k2].2:=rfl
        have e2:(heldB Bk es k2).us es[k2].2 = Bk.us es[k2].2 + cntE es[k2].2 (es.take k2):=rfl
        rw [e1,e2] at hc2
        rw [e1] at hf2
        have HNX:Hid _:=hnx
        clear hHK hnx hhas hvk e1 e2
        generalize Bk.ad es[k2].2 = bb at *
        generalize Bk.us es[k2].2 + cntE es[k2].2 (es.take k2) = uu at *
        go_wp2_with (go_at_call 92;refine (hold_any bb uu _ hc2 hf2 hub).mono ?_;rintro e w4 ⟨rfl,rfl⟩)
        go_round
        case rel => exact ⟨k2 + 1,by omega,by go_num,HNX.out⟩
        case measure => simp [intOf];omega
       ·have hk3:k2 = es.length:=by omega
        subst hk3
        have HHK:Hid (HoldK Bk es w.heap.size _ es.length wr):=hHK
        have HR2:Hid (wr.rangeAt w.heap.size 0 (listCells (valsE Bk.ad es))):=fun j v hv => by
         rw [blk_cell hHK.list,List.getElem?_toArray,Nat.zero_add];exact hv
        have hwl:=listCells_len Hlv.out
        have s3z:wr.cell? ⟨B.sb,3,none⟩ = some (.map (some Bk.rd)):=by rw [← HG.out.same.sb];exact (blk_cell hHK.at'.store 3).trans rfl
        clear hHK s3 hcnt2
        go_upto_region 17 with fail
        go_cut [9] (fun d wc => d = ptrV wr.heap.size∧Below wr.heap.size wr wc∧DirAt wc wr.heap.size 0 (valsE Bk.ad es))
        case first =>
         go_wp2_with (refine wpList_load_mid rfl 147 (.tmp 5) rfl w.heap.size 0 rfl (listCells (valsE Bk.ad es)) _ HR2.out Tryz.underlying147 rfl HSL.out ?_;generalize hLW:listCells (valsE Bk.ad es) = LW at *;have HLW:=Hid.mk' hLW;clear hLW)
         go_meet
         case rel =>
          refine ⟨rfl,(Below.refl _ _).alloc (Nat.le_refl _) _,⟨Hlv.out,?_⟩⟩
          rw [heap_alloc_new,fold_dir rfl hwl rfl,HLW.out]
        case rest =>
         obtain ⟨rfl,hb3,hd3⟩:=hcut
         have hA3:=HHK.out.at'.below hb3
         obtain ⟨m,clock,hm,hh,hF⟩:=hA3.find_dir (es:=es) (by omega) HCH.out
         obtain ⟨w3,hu3,hs3⟩:=run_mapUpdate_new Tryz.underlying83 (w:=wc.drew) hm (hF wc.drew rfl) HIN.out (ptrV wr.heap.size)
         have hcS:wc.cell? ⟨B.sb,3,none⟩ = some (.map (some Bk.rd)):=(World.cell?_of_block (hb3.block B.sb (by have:=World.block_lt_of_cell? wr _ s3z;exact this))).trans s3z
         have hrS:wc.rangeAt w.heap.size 0 (listCells (valsE Bk.ad es)):=fun j v hv => (World.cell?_of_block (hb3.block w.heap.size (by have:=(Array.getElem?_eq_some_iff.1 HHK.out.list).1;exact this))).trans (HR2.out j v hv)
         clear s3z
         have hne1:B.sb ≠ Bk.rd:=by rw [← HG.out.same.sb];exact hA3.maps.2.1
         have hne2:w.heap.size ≠ Bk.rd:=by
          intro e
          have h1:=(hb3.block w.heap.size (Array.getElem?_eq_some_iff.1 HHK.out.list).1).trans HHK.out.list
          have h2:wc.heap[Bk.rd]? = some (.map m clock):=hm
          rw [← e,h1] at h2;simp at h2
         obtain ⟨B',hK',hb'⟩:=keep_final HG.out HX2.out HZ.out HBL.out HCH.out HIN.out HHK.out (wc:=wc.drew) ⟨hb3.os,hb3.tape,hb3.output,hb3.size,hb3.block⟩ (show DirAt wc.drew wr.heap.size 0 (valsE Bk.ad es) from hd3) (Nat.le_trans hN3 HHK.out.step.size) hm hh hs3
         have HFK:Hid (KeepOut1 N w B (.dir es) w3 B'):=hK'
         have HFB:Hid (ptrV (B'.ad (.dir es)) = ptrV wr.heap.size):=by rw [Hid,hb']
         clear hA3 hm hh hF hK' hb' hd3 hb3
         go_upto_region 18 with fail
         refine wp_region_held_drew (S:=fun W:World => W.cell? ⟨B.sb,3,none⟩ = some (.map (some Bk.rd))∧W.rangeAt w.heap.size 0 (listCells (valsE Bk.ad es))) (by kernel_rfl) ⟨hcS,hrS⟩ (fun hS => ?_)
         refine wpAnyH_take (i:=0) (v:=ptrV B.sb) rfl (by kernel_rfl) (by kernel_rfl) (by kernel_rfl) (fun _ _ _ h => h) (.inl ⟨by rfl,fun W hW => by rfl⟩) hS ?_
         simp only [List.getElem_toArray,List.getElem_cons_zero,Act.put,List.setIfInBounds_toArray,List.set_cons_zero,List.set_cons_succ]
         refine wpAnyH_take (i:=1) (v:=ptrV B.sb) rfl (by kernel_rfl) (by kernel_rfl) (by kernel_rfl) (fun _ _ _ h => h) (.inl ⟨by rfl,fun W hW => by rfl⟩) hS ?_
         simp only [List.getElem_toArray,List.getElem_cons_zero,List.getElem_cons_succ,Act.put,List.setIfInBounds_toArray,List.set_cons_zero,List.set_cons_succ]
         refine wpAnyH_take (i:=2) (v:=.pointer (some ⟨B.sb,3,none⟩)) rfl (by kernel_rfl) (by kernel_rfl) (by kernel_rfl) (fun _ _ _ h => h) (.inl ⟨by rfl,fun W hW => by go_simp⟩) hS ?_
         simp only [List.getElem_toArray,List.getElem_cons_zero,List.getElem_cons_succ,Act.put,List.setIfInBounds_toArray,List.set_cons_zero,List.set_cons_succ]
         refine wpAnyH_take (i:=3) (v:=.map (some Bk.rd)) rfl (by kernel_rfl) (by kernel_rfl) (by kernel_rfl) (fun _ _ _ h => h) (.inl ⟨by rfl,fun W hW => by have hc:=hW.1;go_simp⟩) hS ?_
         simp only [List.getElem_toArray,List.getElem_cons_zero,List.getElem_cons_succ,Act.put,List.setIfInBounds_toArray,List.set_cons_zero,List.set_cons_succ]
         refine wpAnyH_take (i:=4) (v:=.agg (listCells (valsE Bk.ad es)).toArray) rfl (by kernel_rfl) (by kernel_rfl) (by kernel_rfl) (fun _ _ _ h => h) (yieldsIf_load_mid rfl 147 (.tmp 5) rfl w.heap.size 0 rfl (listCells (valsE Bk.ad es)) _ (fun W hW => hW.2) Tryz.underlying147 rfl HSL.out) hS ?_
         simp only [List.getElem_toArray,List.getElem_cons_zero,List.getElem_cons_succ,Act.put,List.setIfInBounds_toArray,List.set_cons_zero,List.set_cons_succ]
         refine wpAnyH_take (i:=5) (v:=ptrV wr.heap.size) rfl (by kernel_rfl) (by kernel_rfl) (by kernel_rfl) (fun _ _ _ h => h) (.inl ⟨by rfl,fun W hW => by rfl⟩) hS ?_
         simp only [List.getElem_toArray,List.getElem_cons_zero,List.getElem_cons_succ,Act.put,List.setIfInBounds_toArray,List.set_cons_zero,List.set_cons_succ]
         refine wpAnyH_ready (rs:=[6]) (by kernel_rfl) (by simp) (AllReadyH.cons rfl (fun K hK => ?_) AllReadyH.nil)
         refine step_mapUpdate rfl 83 (.tmp 65) (.tmp 66) (.tmp 67) rfl (.map (some Bk.rd)) (.agg (listCells (valsE Bk.ad es)).toArray) (ptrV wr.heap.size) rfl rfl rfl w3 hu3 ?_
         refine hK.out _ _ ⟨?_,?_⟩ (fun hS4 => ?_)
         ·exact (World.cell?_of_block (hs3.other _ hne1)).trans hcS
         ·exact fun j v hv => (World.cell?_of_block (hs3.other _ hne2)).trans (hrS j v hv)
         ·refine wpAnyH_done (by kernel_rfl) ?_ _
          clear hs3 hu3 hS4 hS hK
          go_wp2
          go_ret
          exact ⟨B',HFK.out,congrArg Ending.returned HFB.out.symm⟩
theorem keepDir_any (N n:Nat):KeepDirAt N n:=by
 induction n with
 | zero => intro es B b u vs w hn;simp only [Tree.dir.sizeOf_spec] at hn;omega
 | succ n ih => exact keepDir_step ih

open Go.RowKit
theorem Tryz.letGoFile (b : Nat) (w : World) : (method 401 131 (.pointer (some ⟨b, 0, none⟩)) "canopy/canopy.letGo").run Tryz.prog w = .ok (212, .pointer (some ⟨b, 0, none⟩)) w := by kernel_rfl
theorem Tryz.letGoDir (b : Nat) (w : World) : (method 401 89 (.pointer (some ⟨b, 0, none⟩)) "canopy/canopy.letGo").run Tryz.prog w = .ok (212, .pointer (some ⟨b, 0, none⟩)) w := by kernel_rfl
theorem run_delete_at {α:Type} {w:World} {t kt et:TypeId} {key:Value} {es:Array MapEntry} {V:α→Value} {L:List α} {x0:α} {r clock:Nat} (hu:Tryz.prog.underlying t = some (.map kt et)) (hb:w.heap[r]? = some (.map es clock)) (hf:Finds w kt key es V L x0) (hin:x0 ∈ L) :
  ∃ w' j,L[j]? = some x0∧(∀ ty,(Builtin.delete_ #[t,kt] ty #[.map (some r),key]).run Tryz.prog w = .ok (.tuple #[]) w')∧Set1 w w' r (.map (es.eraseIdxIfInBounds j) clock):=by
 rcases hf.2 with ⟨h1,_⟩ | ⟨j,h1,h2⟩
 ·exact absurd hin h1
 ·exact ⟨_,j,h1,fun ty => by simp [Builtin.delete_,run_underlying hu,MapKept.run_getObj_map hb,hf.1,h2,MapKept.run_setObj_map _ hb,Result.andThen],set1_of hb⟩
theorem step_delete1 {P:Program} {ops:Array Oper} {op:Oper} {a:Act} {w:World} {K:Act→World→Prop} {Q:Exit→Act→World→Prop} {E:Prop} (hgd:op.guard = none) (t kt:TypeId) (m k:Operand)
  (ho:op.op = .call { callee:=.builtin .delete,args:=#[m,k],argTypes:=#[t,kt] }) (mv kv:Value) (hm:a.eval m = mv) (hk:a.eval k = kv) (w' : World) (hr:∀ ty,(Builtin.delete_ #[t,kt] ty #[mv,kv]).run P w = .ok (.tuple #[]) w')
  (h:K (a.put op.dst (.tuple #[])) w'):if Region.wanted op (yielded ops a.tmps) = true then Oper.wp P op a w K Q else E:=by
 have hw:Region.wanted op (yielded ops a.tmps) = true:=by simp [Region.wanted,hgd]
 rw [if_pos hw]
 unfold Oper.wp
 simp only [execOp,ho,resolve,invoke,builtin,Sem.run_bind,Sem.run_pure,Result.andThen_ok,List.map_toArray,List.map_cons,List.map_nil,hm,hk,hr]
 exact h
structure Shrink (w:World) (B:Bank) (w' : World) (B' : Bank):Prop where
 same:SameB B B'
 at' : BankAt w' B'
 old:∀ t,B'.has t→B.has t∧B'.ad t = B.ad t∧B'.us t ≤ B.us t
 step:Step B.reg B w w'
theorem Shrink.reg {w w' : World} {B B' : Bank} (h:Shrink w B w' B'):∀ b,B'.reg b→B.reg b:=by
 rintro b ⟨t,h1,h2⟩
 obtain ⟨a,c,_⟩:=h.old t h1
 exact ⟨t,a,c.symm.trans h2⟩
theorem Shrink.trans {w w1 w2:World} {B B1 B2:Bank} (h:Shrink w B w1 B1) (k:Shrink w1 B1 w2 B2):Shrink w B w2 B2 where
 same:=h.same.trans k.same
 at':=k.at'
 old:=fun t ht => by
  obtain ⟨a1,a2,a3⟩:=k.old t ht
  obtain ⟨b1,b2,b3⟩:=h.old t a1
  exact ⟨b1,a2.trans b2,Nat.le_trans a3 b3⟩
 step:=h.step.trans ((k.step.back h.same).mono h.reg)
theorem Shrink.below {w w1 w2:World} {B B1:Bank} (h:Shrink w B w1 B1) (hb:Below w1.heap.size w1 w2):Shrink w B w2 B1 :=
 ⟨h.same,h.at'.below hb,h.old,h.step.trans (Step.of_below hb)⟩
structure Calm (B:Bank) (x:Tree→Nat):Prop where
 exact' : Exact B x
 pos:Pos B
 supp:∀ s,0 < x s→B.has s
 small:∀ s,B.has s→B.us s < 4611686018427387904
def DropOut (w:World) (B:Bank) (x:Tree→Nat) (e:Ending) (w' : World):Prop:=e = .returned (.tuple #[])∧∃ B',Shrink w B w' B'∧Calm B' x
theorem drop_less {w w1:World} {B:Bank} {x:Tree→Nat} {t:Tree} (hB:BankAt w B) (hc:Calm B x) (ht:0 < x t) (h1:1 < B.us t) (hs:Set1 w w1 (B.ad t) (NodeO B.ad t ((B.us t - 1:Nat):Int))) :
  ∃ B',Shrink w B w1 B'∧Calm B' (fun s => x s - one t s):=by
 have hh:=hc.supp t ht
 refine ⟨{ B with us:=upd B.us t (B.us t - 1) },⟨⟨rfl,rfl,rfl,rfl,rfl,rfl,rfl,rfl⟩,hB.setUsers hh _ hs,fun s hs2 => ⟨hs2,rfl,?_⟩,Step.of_users hB hh hs ⟨t,hh,rfl⟩⟩,hc.exact'.less ht,?_,fun s hs2 => hc.supp s (by omega),?_⟩
 ·show upd B.us t (B.us t - 1) s ≤ B.us s
  by_cases e:s = t
  ·subst e;rw [upd_same];omega
  ·rw [upd_other e];exact Nat.le_refl _
 ·intro s hs2
  show 0 < upd B.us t (B.us t - 1) s
  by_cases e:s = t
  ·subst e;rw [upd_same];omega
  ·rw [upd_other e];exact hc.pos s hs2
 ·intro s hs2
  have:=hc.small s hs2
  show upd B.us t (B.us t - 1) s < _
  by_cases e:s = t
  ·subst e;rw [upd_same];omega
  ·rw [upd_other e];exact this
theorem drop_last {B:Bank} {x:Tree→Nat} {t:Tree} (hc:Calm B x) (ht:0 < x t) (h1:B.us t = 1):x t = 1∧occD B.ds t = 0∧occS B.ss t = 0:=by
 have:=hc.exact' t (hc.supp t ht);omega
theorem drop_file {w w1 w2:World} {B:Bank} {x:Tree→Nat} {d:Str} (hB:BankAt w B) (hc:Calm B x) (ht:0 < x (.file d)) (h1:B.us (.file d) = 1) (hs:Set1 w w1 (B.ad (.file d)) (NodeO B.ad (.file d) ((B.us (.file d) - 1:Nat):Int)))
  {j:Nat} (hj:B.fs[j]? = some d) {m:Array MapEntry} {c:Nat} (hh:Holds m (fun d => SV d) (fun d => ptrV (B.ad (.file d))) B.fs) {w1' : World} (hb:Below w1.heap.size w1 w1') (hs2:Set1 w1' w2 B.rf (.map (m.eraseIdxIfInBounds j) c)) :
  ∃ B',Shrink w B w2 B'∧Calm B' (fun s => x s - one (.file d) s):=by
 have hhas:=hc.supp _ ht
 obtain ⟨e1,e2,e3⟩:=drop_last hc ht h1
 have hB1:=(hB.setUsers hhas _ hs).below hb
 have hfree:∀ es ∈ B.ds,∀ e ∈ es,e.2 ≠ .file d:=fun es he e hm h => by have:=occD_pos.2 ⟨es,he,e,hm,h⟩;omega
 have hB2:=BankAt.delFile hB1 hj hfree hh hs2
 have hmem:=eraseIdx_mem hB.ndF hj
 have hsub:∀ s,Bank.has { B with fs:=B.fs.eraseIdx j,us:=upd B.us (.file d) (B.us (.file d) - 1) } s ↔ B.has s∧s ≠ .file d:=by
  intro s
  cases s with
  | file y => show y ∈ B.fs.eraseIdx j ↔ _;rw [hmem y];simp [Bank.has]
  | dir y => simp [Bank.has]
 refine ⟨{ B with fs:=B.fs.eraseIdx j,us:=upd B.us (.file d) (B.us (.file d) - 1) },⟨⟨rfl,rfl,rfl,rfl,rfl,rfl,rfl,rfl⟩,hB2,?_,?_⟩,?_,?_,?_,?_⟩
 ·intro s hs3
  obtain ⟨h2,h3⟩:=(hsub s).1 hs3
  exact ⟨h2,rfl,by show upd B.us (.file d) _ s ≤ B.us s;rw [upd_other h3];exact Nat.le_refl _⟩
 ·exact ((Step.of_users hB hhas hs ⟨_,hhas,rfl⟩).trans (Step.of_below hb)).trans (Step.of_reg hs2 (.inr (.inr (.inr rfl))))
 ·exact Exact.delFile (B:={ B with us:=upd B.us (.file d) (B.us (.file d) - 1) }) (hc.exact'.less ht)
 ·intro s hs3
  obtain ⟨h2,h3⟩:=(hsub s).1 hs3
  show 0 < upd B.us (.file d) _ s
  rw [upd_other h3];exact hc.pos s h2
 ·intro s hs3
  refine (hsub s).2 ⟨hc.supp s (by omega),fun e => ?_⟩
  subst e;rw [one_same] at hs3;omega
 ·intro s hs3
  obtain ⟨h2,h3⟩:=(hsub s).1 hs3
  show upd B.us (.file d) _ s < _
  rw [upd_other h3];exact hc.small s h2
theorem drop_dir {w w1 w2:World} {B:Bank} {x:Tree→Nat} {es:Ents} (hB:BankAt w B) (hc:Calm B x) (ht:0 < x (.dir es)) (h1:B.us (.dir es) = 1) (hs:Set1 w w1 (B.ad (.dir es)) (NodeO B.ad (.dir es) ((B.us (.dir es) - 1:Nat):Int)))
  {j:Nat} (hj:B.ds[j]? = some es) {m:Array MapEntry} {c:Nat} (hh:Holds m (fun d => .agg (listCells (valsE B.ad d)).toArray) (fun d => ptrV (B.ad (.dir d))) B.ds) {w1' : World} (hb:Below w1.heap.size w1 w1') (hs2:Set1 w1' w2 B.rd (.map (m.eraseIdxIfInBounds j) c)) :
  ∃ B',Shrink w B w2 B'∧Calm B' (fun s => x s - one (.dir es) s + cntE s es):=by
 have hhas:=hc.supp _ ht
 obtain ⟨e1,e2,e3⟩:=drop_last hc ht h1
 have hB1:=(hB.setUsers hhas _ hs).below hb
 have hfree:∀ y ∈ B.ds,∀ e ∈ y,e.2 ≠ .dir es:=fun y he e hm h => by have:=occD_pos.2 ⟨y,he,e,hm,h⟩;omega
 have hroot:∀ s ∈ B.ss,s.2 ≠ es:=fun s hs h => by have:=occS_pos.2 ⟨s,hs,by rw [h]⟩;omega
 have hB2:=BankAt.delDir hB1 hj hfree hroot hh hs2
 have hmem:=eraseIdx_mem hB.ndD hj
 have hsub:∀ s,Bank.has { B with ds:=B.ds.eraseIdx j,us:=upd B.us (.dir es) (B.us (.dir es) - 1) } s ↔ B.has s∧s ≠ .dir es:=by
  intro s
  cases s with
  | dir y => show y ∈ B.ds.eraseIdx j ↔ _;rw [hmem y];simp [Bank.has]
  | file y => simp [Bank.has]
 refine ⟨{ B with ds:=B.ds.eraseIdx j,us:=upd B.us (.dir es) (B.us (.dir es) - 1) },⟨⟨rfl,rfl,rfl,rfl,rfl,rfl,rfl,rfl⟩,hB2,?_,?_⟩,?_,?_,?_,?_⟩
 ·intro s hs3
  obtain ⟨h2,h3⟩:=(hsub s).1 hs3
  exact ⟨h2,rfl,by show upd B.us (.dir es) _ s ≤ B.us s;rw [upd_other h3];exact Nat.le_refl _⟩
 ·exact ((Step.of_users hB hhas hs ⟨_,hhas,rfl⟩).trans (Step.of_below hb)).trans (Step.of_reg hs2 (.inr (.inr (.inl rfl))))
 ·exact Exact.delDir (B:={ B with us:=upd B.us (.dir es) (B.us (.dir es) - 1) }) (hc.exact'.less ht) hj
 ·intro s hs3
  obtain ⟨h2,h3⟩:=(hsub s).1 hs3
  show 0 < upd B.us (.dir es) _ s
  rw [upd_other h3];exact hc.pos s h2
 ·intro s hs3
  by_cases hcs:0 < cntE s es
  ·obtain ⟨e,he,h4⟩:=cntE_pos.1 hcs
   exact (hsub s).2 ⟨by rw [← h4];exact hB.closed es hhas e he,by rw [← h4];exact not_self e he⟩
  ·refine (hsub s).2 ⟨hc.supp s (by omega),fun e => ?_⟩
   subst e;rw [one_same] at hs3;omega
 ·intro s hs3
  obtain ⟨h2,h3⟩:=(hsub s).1 hs3
  show upd B.us (.dir es) _ s < _
  rw [upd_other h3];exact hc.small s h2
structure LoopD (w:World) (B:Bank) (x:Tree→Nat) (es:Ents) (k:Nat) (wr:World) (Bk:Bank):Prop where
 shrink:Shrink w B wr Bk
 calm:Calm Bk (fun s => x s - one (.dir es) s + cntE s (es.drop k))
 list:∃ u,DirAt wr (B.ad (.dir es)) u (valsE B.ad es)
theorem LoopD.next {w:World} {B:Bank} {x:Tree→Nat} {es:Ents} {k:Nat} {wr w2:World} {Bk B2:Bank} (h:LoopD w B x es k wr Bk) (hk:k < es.length) (hS:Shrink wr Bk w2 B2) (hC:Calm B2 (fun s => x s - one (.dir es) s + cntE s (es.drop k) - one es[k].2 s)) :
  LoopD w B x es (k + 1) w2 B2:=by
 refine ⟨h.shrink.trans hS,?_,?_⟩
 ·have:(fun s => x s - one (.dir es) s + cntE s (es.drop k) - one es[k].2 s) = fun s => x s - one (.dir es) s + cntE s (es.drop (k + 1)):=by
   funext s;rw [cntE_drop hk];omega
  rw [this] at hC;exact hC
 ·obtain ⟨u,hu⟩:=h.list
  obtain ⟨u',h1,_⟩:=hS.step.dirAt h.shrink.at' hu
  exact ⟨u',h1⟩

open Go.RowKit
def DropAt (n:Nat):Prop:=∀ (t:Tree) (B:Bank) (x:Tree→Nat) (w:World),SizeOf.sizeOf t ≤ n→BankAt w B→Calm B x→0 < x t →
 Calls Tryz.prog 45 #[ptrV B.sb,valT B.ad t] w fun e w' => DropOut w B (fun s => x s - one t s) e w'
theorem letGo_method (ad : Tree → Nat) (t : Tree) : ∃ kk, valT ad t = .iface kk (ptrV (ad t)) ∧ ∀ W : World, (method 401 kk (.pointer (some ⟨ad t, 0, none⟩)) "canopy/canopy.letGo").run Tryz.prog W = .ok (212, .pointer (some ⟨ad t, 0, none⟩)) W := by
 cases t with
 | file d => exact ⟨_,rfl,Tryz.letGoFile _⟩
 | dir es => exact ⟨_,rfl,Tryz.letGoDir _⟩
set_option maxHeartbeats 1000000 in
theorem drop_more (t:Tree) (B:Bank) (x:Tree→Nat) (w:World) (hB:BankAt w B) (hc:Calm B x) (ht:0 < x t) (h1:1 < B.us t) :
  Calls Tryz.prog 45 #[ptrV B.sb,valT B.ad t] w fun e w' => DropOut w B (fun s => x s - one t s) e w':=by
 have hh:=hc.supp t ht
 obtain ⟨hc0,hf0⟩:=users_cell hB hh
 obtain ⟨kk,hv,hmeth⟩:=letGo_method B.ad t
 have hsm:=hc.small t hh
 have HF:Hid _:=drop_less hB hc ht h1 (users_set1 hB hh _)
 rw [hv]
 clear hB hc ht hh hv
 generalize B.ad t = bb at *
 generalize B.us t = uu at *
 have hpos:(0:Int) < ((uu - 1:Nat):Int):=by omega
 go_enter Tryz.func45,Tryz.ntmps45
 go_wp2_with (go_at_call 212;refine (letGo_any bb uu _ hc0 hf0 hsm (by omega)).mono ?_;rintro e w4 ⟨rfl,rfl⟩;generalize ((uu - 1:Nat):Int) = vv at *)
 refine bodyPost_ret (results_none rfl _ _ _) rfl ?_
 exact ⟨rfl,HF.out⟩
set_option maxHeartbeats 2000000 in
theorem drop_lastFile (d:Str) (B:Bank) (x:Tree→Nat) (w:World) (hB:BankAt w B) (hc:Calm B x) (ht:0 < x (.file d)) (h1:B.us (.file d) = 1) :
  Calls Tryz.prog 45 #[ptrV B.sb,fileV (B.ad (.file d))] w fun e w' => DropOut w B (fun s => x s - one (.file d) s) e w':=by
 have hh:=hc.supp _ ht
 obtain ⟨hc0,hf0⟩:=users_cell hB hh
 have hmeth:=Tryz.letGoFile
 have a1:=Tryz.assertFile
 have hs1:=users_set1 hB hh (B.us (.file d) - 1)
 have hB1:=hB.setUsers hh _ hs1
 rw [h1] at hc0 hs1 hB1
 obtain ⟨m,clock,hm,hhl,hF⟩:=hB1.find_file d
 obtain ⟨w3,j,hj,hdel,hs3⟩:=run_delete_at Tryz.underlying84 (w:=(w.setCell ⟨B.ad (.file d),0,none⟩ (.int .i64 (1 - 1:Nat))).drew) hm (hF _) hh
 have HF:Hid _:=drop_file hB hc ht h1 (by rw [h1];exact hs1) hj hhl (w1:=w.setCell ⟨B.ad (.file d),0,none⟩ (.int .i64 (1 - 1:Nat))) (w1':=(w.setCell ⟨B.ad (.file d),0,none⟩ (.int .i64 (1 - 1:Nat))).drew) (below_like rfl rfl rfl rfl) hs3
 have hf1:w.cell? ⟨B.ad (.file d),1,none⟩ = some (SV d):=(blk_cell (hB.files d hh) 1).trans rfl
 have hsc:w.cell? ⟨B.sb,4,none⟩ = some (.map (some B.rf)):=(blk_cell hB.store 4).trans rfl
 have hne:=(hB.far hh).1
 have HD:Hid _:=hdel
 clear hB hc ht hh h1 hB1 hs1 hm hhl hF hs3 hj hdel
 generalize B.ad (.file d) = bb at *
 go_enter Tryz.func45,Tryz.ntmps45
 go_wp2_with (go_at_call 212;refine (letGo_any bb 1 _ hc0 hf0 (by omega) (by omega)).mono ?_;rintro e w4 ⟨rfl,rfl⟩)
 go_region_law (refine step_delete1 rfl 84 9 (.tmp 17) (.tmp 21) rfl (.map (some B.rf)) (SV d) rfl rfl w3 HD.out ?_)
 all_goals
  go_wp2
  go_end0
  exact ⟨rfl,HF.out⟩
set_option maxHeartbeats 4000000 in
set_option maxRecDepth 50000 in
theorem drop_lastDir {n:Nat} (H:DropAt n) (es:Ents) (B:Bank) (x:Tree→Nat) (w:World) (hn:SizeOf.sizeOf (Tree.dir es) ≤ n + 1) (hB:BankAt w B) (hc:Calm B x) (ht:0 < x (.dir es)) (h1:B.us (.dir es) = 1) :
  Calls Tryz.prog 45 #[ptrV B.sb,dirV (B.ad (.dir es))] w fun e w' => DropOut w B (fun s => x s - one (.dir es) s) e w':=by
 have hh:=hc.supp _ ht
 obtain ⟨hc0,hf0⟩:=users_cell hB hh
 have hmeth:=Tryz.letGoDir
 have a1:=Tryz.assertDirNo
 have a2:=Tryz.assertDir
 have hs1:=users_set1 hB hh (B.us (.dir es) - 1)
 have hB1:=hB.setUsers hh _ hs1
 rw [h1] at hc0 hs1 hB1
 have hl20:=hB.few hh
 have hch:=hB.closed es hh
 obtain ⟨m,clock,hm,hhl,hF⟩:=hB1.find_dir (es:=es) hl20 hch
 obtain ⟨w3,j,hj,hdel,hs3⟩:=run_delete_at Tryz.underlying83 (w:=(w.setCell ⟨B.ad (.dir es),0,none⟩ (.int .i64 (1 - 1:Nat))).drew) hm (hF _ rfl) hh
 have HF:Hid (∃ B',Shrink w B w3 B'∧Calm B' (fun s => x s - one (.dir es) s + cntE s es)):=drop_dir hB hc ht h1 (by rw [h1];exact hs1) hj hhl (w1:=w.setCell ⟨B.ad (.dir es),0,none⟩ (.int .i64 (1 - 1:Nat))) (w1':=(w.setCell ⟨B.ad (.dir es),0,none⟩ (.int .i64 (1 - 1:Nat))).drew) (below_like rfl rfl rfl rfl) hs3
 have hsc:w.cell? ⟨B.sb,3,none⟩ = some (.map (some B.rd)):=(blk_cell hB.store 3).trans rfl
 have hD1:DirAt (w.setCell ⟨B.ad (.dir es),0,none⟩ (.int .i64 (1 - 1:Nat))) (B.ad (.dir es)) ((1 - 1:Nat):Int) (valsE B.ad es):=⟨(hB.dirs es hh).1,hs1.here⟩
 have hne:=(hB.far hh).1
 have hned:=(hB.far hh).2.2.1
 have hlv:(valsE B.ad es).length ≤ 20:=by rw [valsE_len];exact hl20
 have HSL:Hid ((Tryz.prog.info? 147).map (·.size) = some (listCells (valsE B.ad es)).length):=by rw [Hid,Tryz.sizeListing,listCells_len hlv]
 have hsd:B.sb ≠ B.rd:=hB.maps.2.1
 have hrS:(w.setCell ⟨B.ad (.dir es),0,none⟩ (.int .i64 (1 - 1:Nat))).rangeAt (B.ad (.dir es)) 1 (listCells (valsE B.ad es)):=fun j v hv => hD1.list.cell j v hv
 have hcS:(w.setCell ⟨B.ad (.dir es),0,none⟩ (.int .i64 (1 - 1:Nat))).cell? ⟨B.sb,3,none⟩ = some (.map (some B.rd)):=(World.cell?_of_block (hs1.other _ (Ne.symm hne))).trans hsc
 have hD3:DirAt w3 (B.ad (.dir es)) ((1 - 1:Nat):Int) (valsE B.ad es):=⟨hD1.1,(hs3.other _ hned).trans hD1.2⟩
 have HRS:Hid (w3.rangeAt (B.ad (.dir es)) 1 (listCells (valsE B.ad es))):=fun j v hv => hD3.list.cell j v hv
 have hcnt:w3.cell? ⟨B.ad (.dir es),1,none⟩ = some (.int .i64 es.length):=hD3.list.count.trans (by rw [valsE_len])
 have hL0:∃ B3,LoopD w B x es 0 w3 B3:=by
  obtain ⟨B3,h2,h3⟩:=HF.out
  exact ⟨B3,h2,by simpa using h3,_,hD3⟩
 have HL0:Hid _:=hL0
 have HS3:Hid (Set1 (w.setCell ⟨B.ad (.dir es),0,none⟩ (.int .i64 (1 - 1:Nat))).drew w3 B.rd _):=hs3
 have HD:Hid _:=hdel
 have HH:Hid (DropAt n):=H
 have HCH:Hid (∀ e ∈ es,B.has e.2):=hch
 have HNED:Hid _:=hned
 have HSD:Hid _:=hsd
 have HCS:Hid _:=hcS
 have HRS1:Hid _:=hrS
 clear hB hc ht hh h1 hB1 hs1 hm hhl hF hs3 hj hdel H hch hD1 hD3 hL0 HF hned hsd hsc hcS hrS hlv
 go_enter Tryz.func45,Tryz.ntmps45
 go_wp2_with (go_at_call 212;refine (letGo_any (B.ad (.dir es)) 1 _ hc0 hf0 (by omega) (by omega)).mono ?_;rintro e w4 ⟨rfl,rfl⟩)
 refine wp_region_held_drew (S:=fun W:World => W.cell? ⟨B.sb,3,none⟩ = some (.map (some B.rd))∧W.rangeAt (B.ad (.dir es)) 1 (listCells (valsE B.ad es))) (by kernel_rfl) ⟨HCS.out,HRS1.out⟩ (fun hS => ?_)
 refine wpAnyH_take (i:=0) (v:=ptrV B.sb) rfl (by kernel_rfl) (by kernel_rfl) (by kernel_rfl) (fun _ _ _ h => h) (.inl ⟨by rfl,fun W hW => by rfl⟩) hS ?_
 simp only [List.getElem_toArray,List.getElem_cons_zero,Act.put,List.setIfInBounds_toArray,List.set_cons_zero,List.set_cons_succ]
 refine wpAnyH_take (i:=1) (v:=ptrV B.sb) rfl (by kernel_rfl) (by kernel_rfl) (by kernel_rfl) (fun _ _ _ h => h) (.inl ⟨by rfl,fun W hW => by rfl⟩) hS ?_
 simp only [List.getElem_toArray,List.getElem_cons_zero,List.getElem_cons_succ,Act.put,List.setIfInBounds_toArray,List.set_cons_zero,List.set_cons_succ]
 refine wpAnyH_take (i:=2) (v:=.pointer (some ⟨B.sb,3,none⟩)) rfl (by kernel_rfl) (by kernel_rfl) (by kernel_rfl) (fun _ _ _ h => h) (.inl ⟨by rfl,fun W hW => by go_simp⟩) hS ?_
 simp only [List.getElem_toArray,List.getElem_cons_zero,List.getElem_cons_succ,Act.put,List.setIfInBounds_toArray,List.set_cons_zero,List.set_cons_succ]
 refine wpAnyH_take (i:=3) (v:=.map (some B.rd)) rfl (by kernel_rfl) (by kernel_rfl) (by kernel_rfl) (fun _ _ _ h => h) (.inl ⟨by rfl,fun W hW => by have hc:=hW.1;go_simp⟩) hS ?_
 simp only [List.getElem_toArray,List.getElem_cons_zero,List.getElem_cons_succ,Act.put,List.setIfInBounds_toArray,List.set_cons_zero,List.set_cons_succ]
 refine wpAnyH_take (i:=4) (v:=ptrV (B.ad (.dir es))) rfl (by kernel_rfl) (by kernel_rfl) (by kernel_rfl) (fun _ _ _ h => h) (.inl ⟨by rfl,fun W hW => by rfl⟩) hS ?_
 simp only [List.getElem_toArray,List.getElem_cons_zero,List.getElem_cons_succ,Act.put,List.setIfInBounds_toArray,List.set_cons_zero,List.set_cons_succ]
 refine wpAnyH_take (i:=5) (v:=ptrV (B.ad (.dir es))) rfl (by kernel_rfl) (by kernel_rfl) (by kernel_rfl) (fun _ _ _ h => h) (.inl ⟨by rfl,fun W hW => by rfl⟩) hS ?_
 simp only [List.getElem_toArray,List.getElem_cons_zero,List.getElem_cons_succ,Act.put,List.setIfInBounds_toArray,List.set_cons_zero,List.set_cons_succ]
 refine wpAnyH_take (i:=6) (v:=.pointer (some ⟨B.ad (.dir es),1,none⟩)) rfl (by kernel_rfl) (by kernel_rfl) (by kernel_rfl) (fun _ _ _ h => h) (.inl ⟨by rfl,fun W hW => by go_simp⟩) hS ?_
 simp only [List.getElem_toArray,List.getElem_cons_zero,List.getElem_cons_succ,Act.put,List.setIfInBounds_toArray,List.set_cons_zero,List.set_cons_succ]
 refine wpAnyH_take (i:=7) (v:=.agg (listCells (valsE B.ad es)).toArray) rfl (by kernel_rfl) (by kernel_rfl) (by kernel_rfl) (fun _ _ _ h => h) (yieldsIf_load_mid rfl 147 (.tmp 31) rfl (B.ad (.dir es)) 1 rfl (listCells (valsE B.ad es)) _ (fun W hW => hW.2) Tryz.underlying147 rfl HSL.out) hS ?_
 simp only [List.getElem_toArray,List.getElem_cons_zero,List.getElem_cons_succ,Act.put,List.setIfInBounds_toArray,List.set_cons_zero,List.set_cons_succ]
 refine wpAnyH_ready (rs:=[8]) (by kernel_rfl) (by simp) (AllReadyH.cons rfl (fun K hK => ?_) AllReadyH.nil)
 refine step_delete1 rfl 83 147 (.tmp 28) (.tmp 32) rfl (.map (some B.rd)) (.agg (listCells (valsE B.ad es)).toArray) rfl rfl w3 HD.out ?_
 refine hK.out _ _ ⟨?_,?_⟩ (fun hS4 => ?_)
 ·exact (World.cell?_of_block (HS3.out.other _ HSD.out)).trans HCS.out
 ·exact HRS.out
 ·refine wpAnyH_done (by kernel_rfl) ?_ _
  clear hS hK hS4 hc0 hf0
  go_wp2
  go_loopw [38] (fun i wr => ∃ (k:Nat) (Bk:Bank),k ≤ es.length∧i = .int .i64 k∧LoopD w B x es k wr Bk) (fun i _ => es.length - (intOf i).toNat)
  case atStart => obtain ⟨B3,h3⟩:=HL0.out;exact ⟨0,B3,Nat.zero_le _,rfl,h3⟩
  case round =>
   obtain ⟨k,Bk,hk,rfl,hLD⟩:=hrel
   by_cases hlt:k < es.length
   ·have hidx:(k:Int) < 20:=by omega
    obtain ⟨ub,hdb⟩:=hLD.list
    have hn2:=hdb.list.node (k:=k) (by rw [valsE_len];exact hlt)
    have hn3:(valsE B.ad es)[k]'(by rw [valsE_len];exact hlt) = (es[k].1,valT B.ad es[k].2):=by simp [valsE]
    rw [hn3] at hn2
    have hx1:0 < x es[k].2 - one (.dir es) es[k].2 + cntE es[k].2 (es.drop k):=by
     have:0 < cntE es[k].2 (es.drop k):=cntE_pos.2 ⟨es[k],by rw [List.drop_eq_getElem_cons hlt];exact List.mem_cons_self,rfl⟩
     omega
    have hhk:=hLD.calm.supp _ hx1
    have had:=(hLD.shrink.old _ hhk).2.1
    have C:Hid (Calls Tryz.prog 45 #[ptrV B.sb,valT B.ad es[k].2] wr fun e w' => DropOut wr Bk (fun s => x s - one (.dir es) s + cntE s (es.drop k) - one es[k].2 s) e w'):=by
     have:=HH.out es[k].2 Bk _ wr (by have:=size_ent hlt;omega) hLD.shrink.at' hLD.calm hx1
     rw [hLD.shrink.same.sb] at this
     have hv:valT Bk.ad es[k].2 = valT B.ad es[k].2:=by
      generalize es[k].2 = t at had
      cases t <;> simp only [valT] <;> rw [had]
     rw [hv] at this
     exact this
    obtain ⟨kk,nn,hform⟩:=valT_form B.ad es[k].2
    rw [hform] at hn2 C
    have HLD:Hid (LoopD w B x es k wr Bk):=hLD
    clear hLD hdb hn3 hx1 hhk had hform hcnt
    go_wp2_with (go_at_call 45;refine C.out.mono ?_;rintro e w2 ⟨rfl,B2,hS2,hC2⟩;have HLD2:=Hid.mk' (HLD.out.next hlt hS2 hC2);clear hS2 hC2)
    go_round
    case rel => exact ⟨k + 1,B2,by omega,by go_num,HLD2.out⟩
    case measure => simp [intOf];omega
   ·have hke:k = es.length:=by omega
    subst hke
    have HE:Hid (∃ B',Shrink w B wr B'∧Calm B' (fun s => x s - one (.dir es) s)):=by
     refine ⟨Bk,hLD.shrink,?_⟩
     have:=hLD.calm
     rw [List.drop_length] at this
     have e:(fun s => x s - one (.dir es) s + cntE s []) = fun s => x s - one (.dir es) s:=by funext s;simp [cntE]
     rw [e] at this;exact this
    clear hLD hcnt
    go_wp2
    go_end0
    exact ⟨rfl,HE.out⟩
theorem drop_all (n:Nat):DropAt n:=by
 induction n with
 | zero => intro t B x w hn;cases t <;> simp at hn <;> omega
 | succ n ih =>
  intro t B x w hn hB hc ht
  have hp:=hc.pos t (hc.supp t ht)
  by_cases h1:1 < B.us t
  ·exact drop_more t B x w hB hc ht h1
  ·have h2:B.us t = 1:=by omega
   cases t with
   | file d => exact drop_lastFile d B x w hB hc ht h2
   | dir es => exact drop_lastDir ih es B x w hn hB hc ht h2
theorem drop_any (t:Tree) (B:Bank) (x:Tree→Nat) (w:World) (hB:BankAt w B) (hc:Calm B x) (ht:0 < x t) :
  Calls Tryz.prog 45 #[ptrV B.sb,valT B.ad t] w fun e w' => DropOut w B (fun s => x s - one t s) e w':=drop_all _ t B x w (Nat.le_refl _) hB hc ht
end Go.Proofs.YtdcbgfhkfmohiaaGreatDoor
