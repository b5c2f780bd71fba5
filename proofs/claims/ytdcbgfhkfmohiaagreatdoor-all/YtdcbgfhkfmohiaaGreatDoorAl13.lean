/- A range over a function whose rounds never leave early: a law told by who may turn which blocks. -/
import Derived.Test.YtdcbgfhkfmohiaaGreatDoorAl12
import Derived.Test.YtdcbgfhkfmohiaaGreatDoorProg
import Derived.RangeFuncNested
import Derived.RangeFuncBound
import Derived.RangeFuncCalls
import Derived.RangeFuncLeaves
import Derived.Shelf.Abstract
import Derived.Shelf.RegionOpen
import Derived.OwnWalkIn
import Derived.TacticsInMore
import Derived.LoopNIn
import Derived.LoopIn
import Derived.LaidEqlPtr
namespace Go.Proofs.YtdcbgfhkfmohiaaGreatDoor
open Go.RowKit
structure Turn (O:Nat→Prop) (W W' : World) (O' : Nat→Prop):Prop where
 os:W'.os = W.os
 tape:W'.tape = W.tape
 output:W'.output = W.output
 size:W.heap.size ≤ W'.heap.size
 blk:∀ k,k < W.heap.size→¬ O k→W'.heap[k]? = W.heap[k]?
 own:∀ k,O' k→O k∨W.heap.size ≤ k
theorem Turn.refl (O:Nat→Prop) (W:World):Turn O W W O:=⟨rfl,rfl,rfl,Nat.le_refl _,fun _ _ _ => rfl,fun _ h => .inl h⟩
theorem Turn.trans {O O1 O2:Nat→Prop} {A B C:World} (h:Turn O A B O1) (k:Turn O1 B C O2):Turn O A C O2 where
 os:=k.os.trans h.os
 tape:=k.tape.trans h.tape
 output:=k.output.trans h.output
 size:=Nat.le_trans h.size k.size
 blk:=fun i hi hn => (k.blk i (Nat.lt_of_lt_of_le hi h.size) (fun ho => (h.own i ho).elim hn (fun h2 => by omega))).trans (h.blk i hi hn)
 own:=fun i hi => (k.own i hi).elim (fun h2 => h.own i h2) (fun h2 => .inr (Nat.le_trans h.size h2))
theorem Turn.of_below {O:Nat→Prop} {A B:World} (h:Below A.heap.size A B):Turn O A B O:=⟨h.os,h.tape,h.output,h.size,fun k hk _ => h.block k hk,fun _ h => .inl h⟩
theorem Turn.free {O O' : Nat→Prop} {A B:World} (h:Turn O A B O') {k:Nat} (hk:k < A.heap.size) (hn:¬ O k):¬ O' k:=fun ho => (h.own k ho).elim hn (fun h2 => by omega)
structure Local (b:Nat) (J:(Nat→Prop)→World→Prop):Prop where
 keep:∀ O W W',J O W→W'.os = W.os→W'.tape = W.tape→W'.output = W.output→W.heap.size ≤ W'.heap.size→(∀ k,O k∨k < b→W'.heap[k]? = W.heap[k]?)→J O W'
 lt:∀ O W,J O W→b ≤ W.heap.size∧∀ k,O k→k < W.heap.size
theorem Local.mono {b b' : Nat} {J:(Nat→Prop)→World→Prop} (h:Local b J) (hb:b ≤ b'):Local b' fun O W => J O W∧b' ≤ W.heap.size :=
 ⟨fun O W W' hj h1 h2 h3 h4 h5 => ⟨h.keep O W W' hj.1 h1 h2 h3 h4 (fun k hk => h5 k (hk.imp id fun h => by omega)),by omega⟩,fun O W hj => ⟨hj.2,(h.lt O W hj.1).2⟩⟩
theorem Local.below {b:Nat} {J:(Nat→Prop)→World→Prop} (h:Local b J) {O:Nat→Prop} {A B:World} (hj:J O A) (hb:Below A.heap.size A B):J O B :=
 h.keep O A B hj hb.os hb.tape hb.output hb.size fun k hk => hb.block k (hk.elim (fun h1 => (h.lt O A hj).2 k h1) (fun h1 => Nat.lt_of_lt_of_le h1 (h.lt O A hj).1))
theorem Local.put {b:Nat} {J:(Nat→Prop)→World→Prop} (h:Local b J) {O:Nat→Prop} {A:World} (hj:J O A) {l:Nat} (hl:¬ O l) (hb:b ≤ l) (o:Obj):J O (A.putObj l o) :=
 h.keep O A _ hj rfl rfl rfl (by simp) fun k hk => World.putObj_heap_other (fun e => hk.elim (fun h1 => hl (e ▸ h1)) (fun h1 => by omega))
theorem roomW (k:Nat):Fence.wide.room k:=fun d h => by cases h
theorem round_any {m m' : Nat} {P:Program} {l:Nat} {f:FuncId} {tmps:Array Value} {assign body:Code} {w:World} {R:Ending→World→Prop}
  (h:RoundIn Fence.wide m P l f tmps assign body w R):RoundIn Fence.wide m' P l f tmps assign body w R:=⟨h.1,fun c cs _ => h.2 c cs (roomW _)⟩
def SeqOf {α:Type} (P:Program) (g:Nat) (lb:Array Value) (encs:α→Array Value) (xs:List α) (R:Nat→Prop) (w:World):Prop :=
 ∀ (n m l:Nat) (J:List α→(Nat→Prop)→World→Prop) (O:Nat→Prop) (W:World),w.heap.size ≤ W.heap.size→(∀ k,R k→k < w.heap.size∧W.heap[k]? = w.heap[k]?∧¬ O k)→(∀ pre,Local W.heap.size (J pre)) →
  (∀ pre x O1 W1,J pre O1 W1→pre ++ [x] <+: xs→YieldAt Fence.wide m P l (encs x) W1 fun e W' => e = .returned (.bool true)∧∃ O',J (pre ++ [x]) O' W'∧Turn O1 W1 W' O') →
  J [] O W→CallsIn Fence.wide n P g (#[.func (.yield l) #[] #[]] ++ lb) W fun e W' => (∃ v,e = .returned v)∧∃ O',J xs O' W'∧Turn O W W' O'
structure Only (l:Nat) (A B:World):Prop where
 os:B.os = A.os
 tape:B.tape = A.tape
 output:B.output = A.output
 size:B.heap.size = A.heap.size
 blk:∀ k,k ≠ l→B.heap[k]? = A.heap[k]?
theorem Only.put (l:Nat) (A:World) (o:Obj):Only l A (A.putObj l o):=⟨rfl,rfl,rfl,by simp,fun _ hk => World.putObj_heap_other hk⟩
def goesOn {α:Type} (I:List α→(Nat→Prop)→World→Prop) (xs:List α) (O:Nat→Prop) (W:World):Exit→Act→World→Prop
 | .normal,_,W' => ∃ O',I xs O' W'∧Turn O W W' O'
 | _,_,_ => False
theorem range_core {α:Type} {P:Program} {gf:Nat} {lb:Array Value} {encs:α→Array Value} {xs:List α} {R:Nat→Prop} {w0 W1:World} (hseq:SeqOf P gf lb encs xs R w0) (n m l b:Nat) (r:Loop)
  (hl:W1.heap[l]? = some (.loop r)) (hrs:r.state = .ready) (hrp:r.pending = none) (hrf:Fence.wide.fn r.fn) (hps:∀ x,(encs x).size = r.params.size) (O:Nat→Prop) (hsz:w0.heap.size ≤ W1.heap.size) (hR:∀ k,R k→k < w0.heap.size∧W1.heap[k]? = w0.heap[k]?∧¬ O k∧k ≠ l) (hlO:¬ O l)
  (hb:b ≤ l) (I:List α→(Nat→Prop)→World→Prop) (hloc:∀ pre,Local b (I pre)) (h0:I [] O W1) (Ax:α→Act→World→Prop)
  (hassign:∀ pre x O1 W (K:Act→World→Prop),pre ++ [x] <+: xs→I pre O1 W→(∀ a' W',Below W.heap.size W W'→Ax x a' W'→K a' W') →
   r.assign.wpIn (Fence.wide.inRound l) m P (Exit.then K (fun _ _ _ => False)) { tmps:=(r.params.zip (encs x)).foldl (fun t (p,v) => t.setIfInBounds p v) r.tmps,defers:=[] } W)
  (hbody:∀ pre x O1 a' W' W2,pre ++ [x] <+: xs→¬ O1 l→Ax x a' W'→W'.heap[l]? = some (.loop r)→Only l W' W2→W2.heap[l]? = some (.loop { r with state:=.busy })→I pre O1 W2→Turn (fun k => O k∨k = l) W1 W2 (fun k => O1 k∨k = l) →
   r.body.wpIn (Fence.wide.inRound l) m P (goesOn I (pre ++ [x]) O1 W2) a' W2) :
  CallsIn Fence.wide n P gf (#[.func (.yield l) #[] #[]] ++ lb) W1 fun e W' => (∃ v,e = .returned v)∧∃ O',I xs O' W'∧¬ O' l∧W'.heap[l]? = some (.loop r)∧Turn (fun k => O k∨k = l) W1 W' (fun k => O' k∨k = l):=by
 have hl1:l < W1.heap.size:=(Array.getElem?_eq_some_iff.1 hl).1
 refine (hseq n m l (fun pre Oj W => ∃ O1,I pre O1 W∧¬ O1 l∧Oj = (fun k => O1 k∨k = l)∧W.heap[l]? = some (.loop r)∧Turn (fun k => O k∨k = l) W1 W Oj) (fun k => O k∨k = l) W1 hsz
  (fun k hk => ⟨(hR k hk).1,(hR k hk).2.1,fun h => h.elim (hR k hk).2.2.1 (hR k hk).2.2.2⟩) ?_ ?_ ⟨O,h0,hlO,rfl,hl,Turn.refl _ _⟩).mono ?_
 ·intro pre
  refine ⟨?_,?_⟩
  ·rintro Oj W W' ⟨O1,hi,hn,rfl,hlw,ht⟩ h1 h2 h3 h4 h5
   exact ⟨O1,(hloc pre).keep O1 W W' hi h1 h2 h3 h4 (fun k hk => h5 k (hk.imp .inl fun h => by omega)),hn,rfl,(h5 l (.inl (.inr rfl))).trans hlw,
    ⟨h1.trans ht.os,h2.trans ht.tape,h3.trans ht.output,Nat.le_trans ht.size h4,fun k hk hno => (h5 k (.inr hk)).trans (ht.blk k hk hno),ht.own⟩⟩
  ·rintro Oj W ⟨O1,hi,hn,rfl,hlw,ht⟩
   refine ⟨ht.size,?_⟩
   rintro k (hk | rfl)
   ·exact ((hloc pre).lt O1 W hi).2 k hk
   ·exact (Array.getElem?_eq_some_iff.1 hlw).1
 ·rintro pre x Oj W ⟨O1,hi,hn,rfl,hlw,ht⟩ hx
  have hy:=run_yield (P:=P) (args:=encs x) hlw (hps x)
  refine ⟨_,_,_,_,hy,roundIn_of_wpIn hrf (hassign pre x O1 W _ hx hi ?_)⟩
  intro a' Wa hba hax
  have hlt:l < W.heap.size:=(Array.getElem?_eq_some_iff.1 hlw).1
  have hla:Wa.heap[l]? = some (.loop r):=(hba.block l hlt).trans hlw
  have hlta:l < Wa.heap.size:=(Array.getElem?_eq_some_iff.1 hla).1
  refine ⟨_,run_beginRound hla hrs,?_⟩
  have hl2:(Wa.putObj l (.loop { r with state:=.busy })).heap[l]? = some (.loop { r with state:=.busy }):=World.putObj_heap_same hlta
  have hi2:I pre O1 (Wa.putObj l (.loop { r with state:=.busy })):=(hloc pre).put ((hloc pre).below hi hba) hn hb _
  have ht2:Turn (fun k => O1 k∨k = l) W (Wa.putObj l (.loop { r with state:=.busy })) (fun k => O1 k∨k = l) :=
   ⟨hba.os,hba.tape,hba.output,by have:=hba.size;simpa using this,fun k hk hno => (World.putObj_heap_other (fun e => hno (.inr e))).trans (hba.block k hk),fun k hk => .inl hk⟩
  refine wpIn_mono (hbody pre x O1 a' Wa _ hx hn hax hla (Only.put _ _ _) hl2 hi2 (ht.trans ht2)) ?_
  rintro e a3 W3 hp
  cases e with
  | normal =>
   obtain ⟨O',hi3,ht3⟩:=hp
   have hl3:W3.heap[l]? = some (.loop { r with state:=.busy }):=(ht3.blk l (by simpa using hlta) hn).trans hl2
   have hn3:¬ O' l:=ht3.free (by simpa using hlta) hn
   have hlt3:l < W3.heap.size:=(Array.getElem?_eq_some_iff.1 hl3).1
   have he:=run_endRound (P:=P) none hl3
   have er:({ ({ r with state:=.busy }:Loop) with state:=if (none:Option Code).isNone then .ready else .done,pending:=none }:Loop) = r:=by
    cases r;simp at hrs hrp ⊢;exact ⟨hrs.symm,hrp.symm⟩
   rw [er] at he
   refine ⟨_,_,he,rfl,fun k => O' k∨k = l,⟨O',(hloc _).put hi3 hn3 hb _,hn3,rfl,World.putObj_heap_same hlt3,?_⟩,?_⟩
   all_goals
    have ht4:Turn (fun k => O1 k∨k = l) (Wa.putObj l (.loop { r with state:=.busy })) (W3.putObj l (.loop r)) (fun k => O' k∨k = l) :=
     ⟨ht3.os,ht3.tape,ht3.output,by have:=ht3.size;simpa using this,fun k hk hno => (World.putObj_heap_other (fun e => hno (.inr e))).trans (ht3.blk k hk (fun h => hno (.inl h))),fun k hk => hk.elim (fun h => (ht3.own k h).imp .inl id) (fun h => .inl (.inr h))⟩
   ·exact (ht.trans ht2).trans ht4
   ·exact ht2.trans ht4
  | ret => exact hp.elim
  | exit id => exact hp.elim
  | goto t => exact hp.elim
  | panic ch => exact hp.elim
  | outgrown => exact hp.elim
 ·rintro e W' ⟨hv,O',⟨O1,hi,hn,rfl,hlw,_⟩,ht⟩
  exact ⟨hv,O1,hi,hn,hlw,ht⟩

open Go.RowKit
theorem range_outer {α:Type} {P:Program} {n m:Nat} {g:Operand} {ps:Array Tmp} {assign body:Code} {Q:Exit→Act→World→Prop} {a:Act} {w:World} {gf:Nat} {lb:Array Value} (hg:a.eval g = .func (.func gf) #[] lb) (eg:∀ args w,(callFunc gf args).run P w = .ok (.enter gf args) w)
  {encs:α→Array Value} {xs:List α} {R:Nat→Prop} (hseq:SeqOf P gf lb encs xs R w) (hps:∀ x,(encs x).size = ps.size) (O:Nat→Prop) (hR:∀ k,R k→k < w.heap.size∧¬ O k)
  (I:List α→(Nat→Prop)→World→Prop) (hloc:∀ pre,Local w.heap.size (I pre)) (h0:I [] O w) (Ax:α→Act→World→Prop)
  (hassign:∀ l pre x O1 W (K:Act→World→Prop),pre ++ [x] <+: xs→I pre O1 W→(∀ a' W',Below W.heap.size W W'→Ax x a' W'→K a' W') →
   assign.wpIn (Fence.wide.inRound l) m P (Exit.then K (fun _ _ _ => False)) { tmps:=(ps.zip (encs x)).foldl (fun t (p,v) => t.setIfInBounds p v) a.tmps,defers:=[] } W)
  (hbody:∀ l r pre x O1 a' W' W2,w.heap.size ≤ l→pre ++ [x] <+: xs→¬ O1 l→Ax x a' W'→(∃ r0,W'.heap[l]? = some (.loop r0))→Only l W' W2→W2.heap[l]? = some (.loop r)→I pre O1 W2→Turn O w W2 O1 →
   body.wpIn (Fence.wide.inRound l) m P (goesOn I (pre ++ [x]) O1 W2) a' W2)
  (hdone:∀ D O' W',w.heap.size ≤ D→I xs O' W'→¬ O' D→Turn O w W' O'→W'.heap[D]? = some (.deferred (some []))→Q .normal { a with defers:={ target:=.collected D,args:=#[] } :: a.defers } W') :
  (Code.rangeFunc g ps assign body).wpIn Fence.wide n P Q a w:=by
 refine wpIn_rangeFunc ?_
 intro fn hfn
 obtain ⟨r,hr⟩ : ∃ r:Loop,r = { state:=.ready,pending:=none,fn,tmps:=a.tmps,params:=ps,assign,body,defers:=w.heap.size }:=⟨_,rfl⟩
 obtain ⟨W1,hW1⟩ : ∃ W1,(w.alloc (.deferred (some []))).alloc (.loop r) = W1:=⟨_,rfl⟩
 have hlt:∀ k,O k→k < w.heap.size:=((hloc []).lt O w h0).2
 have hL:W1.heap[w.heap.size + 1]? = some (.loop r):=by
  rw [← hW1];have:=World.alloc_heap_new (w.alloc (.deferred (some []))) (.loop r);rwa [World.size_alloc] at this
 have hD:W1.heap[w.heap.size]? = some (.deferred (some [])):=by
  rw [← hW1];exact (Below.heap_alloc _ _ _ (by simp)).trans (World.alloc_heap_new w _)
 have hb1:Below w.heap.size w W1:=by rw [← hW1];exact ((Below.refl _ w).alloc (Nat.le_refl _) _).alloc (by simp) _
 have hs1:W1.heap.size = w.heap.size + 2:=by rw [← hW1];simp
 have turn:∀ {W2 O1},Turn (fun k => O k∨k = w.heap.size + 1) W1 W2 (fun k => O1 k∨k = w.heap.size + 1)→Turn O w W2 O1:=fun h =>
  ⟨h.os.trans hb1.os,h.tape.trans hb1.tape,h.output.trans hb1.output,by have:=h.size;omega,fun k hk hn => (h.blk k (by omega) (fun h2 => h2.elim hn (by omega))).trans (hb1.block k hk),fun k hk => (h.own k (.inl hk)).elim (fun h2 => h2.imp id (by omega)) (fun h2 => .inr (by omega))⟩
 refine ⟨w.heap.size + 1,[{ target:=.collected w.heap.size,args:=#[] }],W1,{ target:=.fn (.func gf) lb,args:=#[.func (.yield (w.heap.size + 1)) #[] #[]] },W1,gf,#[.func (.yield (w.heap.size + 1)) #[] #[]] ++ lb,W1,?_,?_,?_,?_,fun h => (by cases h),?_⟩
 ·rw [← hW1,hr];exact run_enterLoop_outer _ _ _ _ _
 ·simp only [resolve,hg]
  simp [go_sem]
 ·intro f' _;trivial
 ·simp [invoke,go_sem,eg]
 ·refine (range_core hseq (n - 1) m (w.heap.size + 1) w.heap.size r hL (by rw [hr]) (by rw [hr]) trivial (by rw [hr];exact hps) O (by omega) (fun k hk => ⟨(hR k hk).1,hb1.block k (hR k hk).1,(hR k hk).2,by have:=(hR k hk).1;omega⟩) (fun h => by have:=hlt _ h;omega) (by omega) I hloc ((hloc []).below h0 hb1) Ax ?_ ?_).mono ?_
  ·intro pre x O1 W K hx hi hK
   rw [hr]
   exact hassign _ pre x O1 W K hx hi hK
  ·intro pre x O1 a' W' W2 h1 h2 h3 h3' h4 h5 h6 h7
   have:=hbody (w.heap.size + 1) _ pre x O1 a' W' W2 (by omega) h1 h2 h3 ⟨_,h3'⟩ h4 h5 h6 (turn h7)
   rw [hr]
   exact this
  ·rintro e W2 ⟨⟨v,rfl⟩,O',hi,hn,hl2,ht⟩
   refine ⟨none,_,by have:=run_endLoop (P:=P) hl2 (by rw [hr];simp);rw [hr] at this;exact this,?_⟩
   have hlt2:w.heap.size + 1 < W2.heap.size:=(Array.getElem?_eq_some_iff.1 hl2).1
   have hnD:¬ (O' w.heap.size):=fun h => by
    rcases ht.own _ (.inl h) with (h1 | h1) | h1
    ·have:=hlt _ h1;omega
    ·omega
    ·omega
   have hk2:W2.heap[w.heap.size]? = some (.deferred (some [])):=(ht.blk _ (by omega) (fun h => h.elim (fun h1 => by have:=hlt _ h1;omega) (by omega))).trans hD
   have t2:=turn ht
   refine hdone w.heap.size O' _ (Nat.le_refl _) ((hloc xs).put hi hn (by omega) _) hnD ?_ ((World.putObj_heap_other (by omega)).trans hk2)
   exact ⟨t2.os,t2.tape,t2.output,by have:=t2.size;simpa using this,fun k hk hno => (World.putObj_heap_other (by omega)).trans (t2.blk k hk hno),t2.own⟩
theorem range_inner {α:Type} {P:Program} {n m:Nat} {g:Operand} {ps:Array Tmp} {assign body:Code} {Q:Exit→Act→World→Prop} {a:Act} {w:World} {l₀:Nat} {r₀:Loop} (hl₀:w.heap[l₀]? = some (.loop r₀)) {gf:Nat} {lb:Array Value} (hg:a.eval g = .func (.func gf) #[] lb) (eg:∀ args w,(callFunc gf args).run P w = .ok (.enter gf args) w)
  {encs:α→Array Value} {xs:List α} {R:Nat→Prop} (hseq:SeqOf P gf lb encs xs R w) (hps:∀ x,(encs x).size = ps.size) (O:Nat→Prop) (hR:∀ k,R k→k < w.heap.size∧¬ O k)
  (I:List α→(Nat→Prop)→World→Prop) (hloc:∀ pre,Local w.heap.size (I pre)) (h0:I [] O w) (Ax:α→Act→World→Prop)
  (hassign:∀ l pre x O1 W (K:Act→World→Prop),pre ++ [x] <+: xs→I pre O1 W→(∀ a' W',Below W.heap.size W W'→Ax x a' W'→K a' W') →
   assign.wpIn (Fence.wide.inRound l) m P (Exit.then K (fun _ _ _ => False)) { tmps:=(ps.zip (encs x)).foldl (fun t (p,v) => t.setIfInBounds p v) a.tmps,defers:=[] } W)
  (hbody:∀ l r pre x O1 a' W' W2,w.heap.size ≤ l→pre ++ [x] <+: xs→¬ O1 l→Ax x a' W'→(∃ r0,W'.heap[l]? = some (.loop r0))→Only l W' W2→W2.heap[l]? = some (.loop r)→I pre O1 W2→Turn O w W2 O1 →
   body.wpIn (Fence.wide.inRound l) m P (goesOn I (pre ++ [x]) O1 W2) a' W2)
  (hdone:∀ O' W',I xs O' W'→Turn O w W' O'→Q .normal a W') :
  (Code.rangeFunc g ps assign body).wpIn (Fence.wide.inRound l₀) n P Q a w:=by
 refine wpIn_rangeFunc ?_
 intro fn hfn
 obtain ⟨r,hr⟩ : ∃ r:Loop,r = { state:=.ready,pending:=none,fn,tmps:=a.tmps,params:=ps,assign,body,defers:=r₀.defers }:=⟨_,rfl⟩
 obtain ⟨W1,hW1⟩ : ∃ W1,w.alloc (.loop r) = W1:=⟨_,rfl⟩
 have hlt:∀ k,O k→k < w.heap.size:=((hloc []).lt O w h0).2
 have hL:W1.heap[w.heap.size]? = some (.loop r):=by rw [← hW1];exact World.alloc_heap_new w _
 have hb1:Below w.heap.size w W1:=by rw [← hW1];exact (Below.refl _ w).alloc (Nat.le_refl _) _
 have hs1:W1.heap.size = w.heap.size + 1:=by rw [← hW1];simp
 have turn:∀ {W2 O1},Turn (fun k => O k∨k = w.heap.size) W1 W2 (fun k => O1 k∨k = w.heap.size)→Turn O w W2 O1:=fun h =>
  ⟨h.os.trans hb1.os,h.tape.trans hb1.tape,h.output.trans hb1.output,by have:=h.size;omega,fun k hk hn => (h.blk k (by omega) (fun h2 => h2.elim hn (by omega))).trans (hb1.block k hk),fun k hk => (h.own k (.inl hk)).elim (fun h2 => h2.imp id (by omega)) (fun h2 => .inr (by omega))⟩
 refine ⟨w.heap.size,[],W1,{ target:=.fn (.func gf) lb,args:=#[.func (.yield w.heap.size) #[] #[]] },W1,gf,#[.func (.yield w.heap.size) #[] #[]] ++ lb,W1,?_,?_,?_,?_,fun h => (by cases h),?_⟩
 ·rw [← hW1,hr];exact run_enterLoop_inner hl₀ _ _ _ _ _
 ·simp only [resolve,hg]
  simp [go_sem]
 ·intro f' _;trivial
 ·simp [invoke,go_sem,eg]
 ·refine CallsIn.mono (range_core hseq (n - 1) m w.heap.size w.heap.size r hL (by rw [hr]) (by rw [hr]) trivial (by rw [hr];exact hps) O (by omega) (fun k hk => ⟨(hR k hk).1,hb1.block k (hR k hk).1,(hR k hk).2,by have:=(hR k hk).1;omega⟩) (fun h => by have:=hlt _ h;omega) (Nat.le_refl _) I hloc ((hloc []).below h0 hb1) Ax ?_ ?_) ?_
  ·intro pre x O1 W K hx hi hK
   rw [hr]
   exact hassign _ pre x O1 W K hx hi hK
  ·intro pre x O1 a' W' W2 h1 h2 h3 h3' h4 h5 h6 h7
   have:=hbody w.heap.size _ pre x O1 a' W' W2 (Nat.le_refl _) h1 h2 h3 ⟨_,h3'⟩ h4 h5 h6 (turn h7)
   rw [hr]
   exact this
  ·rintro e W2 ⟨⟨v,rfl⟩,O',hi,hn,hl2,ht⟩
   refine ⟨none,_,by have:=run_endLoop (P:=P) hl2 (by rw [hr];simp);rw [hr] at this;exact this,?_⟩
   have t2:=turn ht
   refine hdone O' _ ((hloc xs).put hi hn (Nat.le_refl _) _) ?_
   exact ⟨t2.os,t2.tape,t2.output,by have:=t2.size;simpa using this,fun k hk hno => (World.putObj_heap_other (by omega)).trans (t2.blk k hk hno),t2.own⟩

open Go.RowKit
def joinS (p x:Str):Str:=if p = [] then x else p ++ 47 :: x
set_option maxHeartbeats 1000000 in
theorem join_any (p x:Str) (w:World) (hp:p.length ≤ 1000) (hx:x.length ≤ 1000) :
  Calls Tryz.prog 72 #[SV p,SV x] w fun e w' => e = .returned (SV (joinS p x))∧w' = w:=by
 have hap:=app_list
 by_cases h:p = []
 ·subst h
  go_enter Tryz.func72,Tryz.ntmps72
  go_wp2
  go_ret
  exact ⟨rfl,rfl⟩
 ·have hb:(p == []) = false:=by simp [h]
  have R:Hid (joinS p x = p ++ 47 :: x):=by rw [Hid,joinS,if_neg h]
  go_enter Tryz.func72,Tryz.ntmps72
  go_wp2
  go_ret
  refine ⟨?_,rfl⟩
  rw [R.out];rfl
set_option maxRecDepth 100000 in
theorem cmp_any (a b:Str) (w:World):Calls Tryz.prog 169 #[SV a,SV b] w fun e w' => e = .returned (.int .i64 (Lib.compareBytes a b))∧w' = w:=by
 go_enter Tryz.func169,Tryz.ntmps169
 go_wp2
 rw [run_callFunc_extern Tryz.func186 (by kernel_rfl) (by kernel_rfl) (by kernel_rfl) (e:=Extern.BytealgCompare.compare) (by kernel_rfl),Lib.run_compareString]
 simp only [Result.andThen]
 rw [Oper.upon_value]
 go_wp2
 go_ret
 exact ⟨rfl,rfl⟩
theorem compare_any (a b:Str) (w:World):Calls Tryz.prog 142 #[SV a,SV b] w fun e w' => e = .returned (.int .i64 (Lib.compareBytes a b))∧w' = w:=by
 go_enter Tryz.func142,Tryz.ntmps142
 go_wp2_with (go_at_call 169;refine (cmp_any _ _ _).mono ?_;rintro e w' ⟨rfl,rfl⟩)
 go_ret
 exact ⟨rfl,rfl⟩
def markN (a b:Option Nat):Nat:=if a = b then 0 else if b = none then 45 else if a = none then 43 else 126
abbrev ptrO (a:Option Nat):Value:=.pointer (a.map fun b => ⟨b,0,none⟩)
theorem ptr_nil (w:World) (b:Nat):(binOp .eql 131 (.pointer none) (ptrV b)).run Tryz.prog w = .ok (.bool false) w:=by
 have h:∀ d:Nat,(Op.equalIn (d + 1) 131 (.pointer none) (ptrV b)).run Tryz.prog w = .ok false w:=fun d => by
  simp [Op.equalIn,run_underlying Tryz.underlying131,sizeOf,typeInfo]
 simp only [binOp]
 simp [Op.equal,Op.maxDepth,h 9999]
theorem ptr_same (w:World) (b:Nat):(binOp .eql 131 (ptrV b) (ptrV b)).run Tryz.prog w = .ok (.bool true) w:=by
 obtain ⟨j,hj,_⟩:=info_size (P:=Tryz.prog) (t:=135) (n:=2) (by kernel_rfl)
 exact run_eql_ptr_same w _ Tryz.underlying131 hj
theorem ptr_ne {w:World} {b b' : Nat} {c c' : Array Value} (hne:b ≠ b') (hb:w.heap[b]? = some (.cells c 135 (0,0))) (hb' : w.heap[b']? = some (.cells c' 135 (0,0))):(binOp .eql 131 (ptrV b) (ptrV b')).run Tryz.prog w = .ok (.bool false) w:=by
 obtain ⟨j,hj,hs⟩:=info_size (P:=Tryz.prog) (t:=135) (n:=2) (by kernel_rfl)
 exact run_eql_ptr_other w Tryz.underlying131 hj (by omega) (fun h => hne (congrArg Addr.block h)) hb hb'
set_option maxHeartbeats 1000000 in
set_option maxRecDepth 100000 in
theorem markOf_any (a b:Option Nat) (w:World) (ha:∀ k,a = some k→∃ c,w.heap[k]? = some (.cells c 135 (0,0))) (hb:∀ k,b = some k→∃ c,w.heap[k]? = some (.cells c 135 (0,0))) :
  Calls Tryz.prog 74 #[ptrO a,ptrO b] w fun e w' => e = .returned (.int .u8 (markN a b))∧w' = w:=by
 cases a with
 | none =>
  cases b with
  | none =>
   simp only [ptrO,Option.map_none]
   go_enter Tryz.func74,Tryz.ntmps74
   go_wp2
   go_ret
   exact ⟨rfl,rfl⟩
  | some b =>
   have h1:=ptr_nil w b
   simp only [ptrO,Option.map_none,Option.map_some]
   go_enter Tryz.func74,Tryz.ntmps74
   go_wp2
   go_ret
   exact ⟨rfl,rfl⟩
 | some a =>
  cases b with
  | none =>
   simp only [ptrO,Option.map_none,Option.map_some]
   go_enter Tryz.func74,Tryz.ntmps74
   go_wp2
   go_ret
   exact ⟨rfl,rfl⟩
  | some b =>
   simp only [ptrO,Option.map_some]
   by_cases e:a = b
   ·subst e
    have h1:=ptr_same w a
    have R:Hid (markN (some a) (some a) = 0):=by simp [Hid,markN]
    go_enter Tryz.func74,Tryz.ntmps74
    go_wp2
    go_ret
    exact ⟨by rw [R.out];rfl,rfl⟩
   ·obtain ⟨c,hc⟩:=ha a rfl
    obtain ⟨c',hc'⟩:=hb b rfl
    have h1:=ptr_ne e hc hc'
    have R:Hid (markN (some a) (some b) = 126):=by simp [Hid,markN,e]
    clear ha hb hc hc'
    go_enter Tryz.func74,Tryz.ntmps74
    go_wp2
    go_ret
    exact ⟨by rw [R.out];rfl,rfl⟩
set_option maxRecDepth 100000 in
theorem apart_file (b:Nat) (w:World):Calls Tryz.prog 73 #[fileV b] w fun e w' => e = .returned (.tuple #[ptrV b,ptrV w.heap.size])∧w' = w.alloc (.cells (listCells []).toArray 147):=by
 have h1:=Tryz.assertFile b
 go_enter Tryz.func73,Tryz.ntmps73
 go_wp2
 go_ret2
 exact ⟨rfl,rfl⟩
set_option maxRecDepth 100000 in
theorem apart_nil (w:World):Calls Tryz.prog 73 #[.nilIface] w fun e w' => e = .returned (.tuple #[.pointer none,ptrV w.heap.size])∧w' = w.alloc (.cells (listCells []).toArray 147):=by
 have h1:=Tryz.assertNil1
 have h2:=Tryz.assertNil2
 go_enter Tryz.func73,Tryz.ntmps73
 go_wp2
 go_ret2
 exact ⟨rfl,rfl⟩
set_option maxRecDepth 100000 in
theorem apart_dir (b:Nat) (w:World):Calls Tryz.prog 73 #[dirV b] w fun e w' => e = .returned (.tuple #[.pointer none,.pointer (some ⟨b,1,none⟩)])∧Below w.heap.size w w':=by
 have h1:=Tryz.assertDir b
 have h2:=Tryz.assertDirNo b
 go_enter Tryz.func73,Tryz.ntmps73
 go_wp2
 go_quiet (fail)
 go_wp2
 go_ret2
 exact ⟨rfl,below_drewN (Below.refl _ _) _⟩

open Go.RowKit
abbrev Ent:=Str × Value
abbrev noEnt:Ent:=([],.nilIface)
abbrev entV (e:Ent):Value:=.agg #[SV e.1,e.2]
def nextP:List Ent→List Ent→Ent × Ent
 | [],[] => (noEnt,noEnt)
 | [],b :: _ => (noEnt,b)
 | a :: _,[] => (a,noEnt)
 | a :: _,b :: _ => if Lib.compareBytes a.1 b.1 = -1 then (a,noEnt) else if Lib.compareBytes a.1 b.1 = 1 then (noEnt,b) else (a,b)
def NextOut (w:World) (p:Ent × Ent) (e:Ending) (w' : World):Prop:=e = .returned (.tuple #[entV p.1,entV p.2])∧Below w.heap.size w w'
def Forms (vs:List Ent):Prop:=∀ e ∈ vs,∃ t n,e.2 = .iface t (.pointer (some ⟨n,0,none⟩))
theorem Tryz.sizeEntry:(Tryz.prog.info? 101).map (·.size) = some 2:=by kernel_rfl
theorem results_two {fn:Func} {p q:Tmp} (h:fn.results = #[.cell p 101,.cell q 101]) (tmps:Array Value) (w:World) {a b:Nat} {x y x' y' : Value} (hp:tmps.getD p undef = ptrV a) (hq:tmps.getD q undef = ptrV b)
  (ha:w.heap[a]? = some (.cells #[x,y] 101 (0,0))) (hb:w.heap[b]? = some (.cells #[x',y'] 101 (0,0))):(results fn tmps).run Tryz.prog w = .ok (.tuple #[.agg #[x,y],.agg #[x',y']]) w:=by
 have l1:=run_loadVar_row w a 101 101 #[x,y] (0,0) _ ha Tryz.underlying101 rfl Tryz.sizeEntry
 have l2:=run_loadVar_row w b 101 101 #[x',y'] (0,0) _ hb Tryz.underlying101 rfl Tryz.sizeEntry
 rw [Array.getD_eq_getD_getElem?] at hp hq
 simp only [results,h]
 simp [Sem.run_bind,Result.andThen,hp,hq,asAddr,l1,l2]
theorem two_blocks (w:World) (a b:Obj):((w.alloc a).alloc b).heap[w.heap.size]? = some a∧((w.alloc a).alloc b).heap[w.heap.size + 1]? = some b∧Below w.heap.size w ((w.alloc a).alloc b):=by
 refine ⟨?_,?_,((Below.refl _ _).alloc (Nat.le_refl _) _).alloc (by simp) _⟩
 ·rw [Below.heap_alloc _ _ _ (by simp)];exact heap_alloc_new _ _
 ·have:=heap_alloc_new (w.alloc a) b
  simpa using this
set_option maxHeartbeats 4000000 in
set_option maxRecDepth 100000 in
theorem next_right (ba oa bb ob i j:Nat) (vs ws:List Ent) (w:World) (ha:ListAt w ba oa vs) (hb:ListAt w bb ob ws) (hw:Forms ws) (hi:i = vs.length) (hj:j < ws.length) :
  Calls Tryz.prog 108 #[.pointer (some ⟨ba,oa,none⟩),.int .i64 i,.pointer (some ⟨bb,ob,none⟩),.int .i64 j] w fun e w' => NextOut w (noEnt,ws[j]) e w':=by
 have ca:=ha.count
 have few:=hb.few
 have n1:=hb.name hj
 have n2:=hb.node hj
 have hidx:(j:Int) < 20:=by omega
 have lb:bb < w.heap.size:=World.block_lt_of_cell? w _ n1
 have la:ba < w.heap.size:=World.block_lt_of_cell? w _ ca
 obtain ⟨kt,kn,hk⟩:=hw _ (List.getElem_mem hj)
 clear ha hb hw
 subst hi
 generalize hx:ws[j] = x at *
 obtain ⟨x1,x2⟩:=x
 simp only at n1 n2 hk
 subst hk
 go_enter Tryz.func108,Tryz.ntmps108
 go_wp2
 go_region
 go_wp2
 exact bodyPost_ret (results_two (p:=8) (q:=9) (by kernel_rfl) _ _ rfl rfl (two_blocks w _ _).1 (two_blocks w _ _).2.1) rfl ⟨rfl,by first | exact (two_blocks w _ _).2.2 | exact (two_blocks w _ _).2.2.drew⟩
set_option maxHeartbeats 4000000 in
set_option maxRecDepth 100000 in
theorem next_left (ba oa bb ob i j:Nat) (vs ws:List Ent) (w:World) (ha:ListAt w ba oa vs) (hb:ListAt w bb ob ws) (hw:Forms vs) (hi:i < vs.length) (hj:j = ws.length) :
  Calls Tryz.prog 108 #[.pointer (some ⟨ba,oa,none⟩),.int .i64 i,.pointer (some ⟨bb,ob,none⟩),.int .i64 j] w fun e w' => NextOut w (vs[i],noEnt) e w':=by
 have ca:=ha.count
 have cb:=hb.count
 have few:=ha.few
 have n1:=ha.name hi
 have n2:=ha.node hi
 have hidx:(i:Int) < 20:=by omega
 have hne:((i:Int) == (vs.length:Int)) = false:=by simp;omega
 have lb:bb < w.heap.size:=World.block_lt_of_cell? w _ cb
 have la:ba < w.heap.size:=World.block_lt_of_cell? w _ ca
 obtain ⟨kt,kn,hk⟩:=hw _ (List.getElem_mem hi)
 clear ha hb hw
 subst hj
 generalize hx:vs[i] = x at *
 obtain ⟨x1,x2⟩:=x
 simp only at n1 n2 hk
 subst hk
 go_enter Tryz.func108,Tryz.ntmps108
 go_wp2
 exact bodyPost_ret (results_two (p:=8) (q:=9) (by kernel_rfl) _ _ rfl rfl (two_blocks w _ _).1 (two_blocks w _ _).2.1) rfl ⟨rfl,by first | exact (two_blocks w _ _).2.2 | exact (two_blocks w _ _).2.2.drew⟩
set_option maxHeartbeats 4000000 in
set_option maxRecDepth 100000 in
theorem next_both (ba oa bb ob i j:Nat) (vs ws:List Ent) (w:World) (ha:ListAt w ba oa vs) (hb:ListAt w bb ob ws) (hv:Forms vs) (hw:Forms ws) (hi:i < vs.length) (hj:j < ws.length) :
  Calls Tryz.prog 108 #[.pointer (some ⟨ba,oa,none⟩),.int .i64 i,.pointer (some ⟨bb,ob,none⟩),.int .i64 j] w fun e w' => NextOut w (if Lib.compareBytes vs[i].1 ws[j].1 = -1 then (vs[i],noEnt) else if Lib.compareBytes vs[i].1 ws[j].1 = 1 then (noEnt,ws[j]) else (vs[i],ws[j])) e w':=by
 have ca:=ha.count
 have cb:=hb.count
 have few:=ha.few
 have few':=hb.few
 have n1:=ha.name hi
 have n2:=ha.node hi
 have m1:=hb.name hj
 have m2:=hb.node hj
 have hidx:(i:Int) < 20:=by omega
 have hjdx:(j:Int) < 20:=by omega
 have hne:((i:Int) == (vs.length:Int)) = false:=by simp;omega
 have hnf:((j:Int) == (ws.length:Int)) = false:=by simp;omega
 have lb:bb < w.heap.size:=World.block_lt_of_cell? w _ cb
 have la:ba < w.heap.size:=World.block_lt_of_cell? w _ ca
 obtain ⟨kt,kn,hk⟩:=hv _ (List.getElem_mem hi)
 obtain ⟨kt',kn',hk'⟩:=hw _ (List.getElem_mem hj)
 clear ha hb hv hw
 generalize hx:vs[i] = x at *
 generalize hy:ws[j] = y at *
 obtain ⟨x1,x2⟩:=x
 obtain ⟨y1,y2⟩:=y
 simp only at n1 n2 hk m1 m2 hk'
 subst hk
 subst hk'
 by_cases h1:Lib.compareBytes x1 y1 = -1
 ·simp only [h1,if_true]
  go_enter Tryz.func108,Tryz.ntmps108
  go_wp2
  go_region
  go_wp2_with (go_at_call 142;refine (compare_any _ _ _).mono ?_;rintro e w' ⟨rfl,rfl⟩;rw [h1])
  exact bodyPost_ret (results_two (p:=8) (q:=9) (by kernel_rfl) _ _ rfl rfl (two_blocks w _ _).1 (two_blocks w _ _).2.1) rfl ⟨rfl,by first | exact (two_blocks w _ _).2.2 | exact (two_blocks w _ _).2.2.drew | exact (two_blocks w _ _).2.2.drew.drew⟩
 ·by_cases h2:Lib.compareBytes x1 y1 = 1
  ·rw [if_neg h1,if_pos h2]
   go_enter Tryz.func108,Tryz.ntmps108
   go_wp2
   go_region
   go_wp2_with (go_at_call 142;refine (compare_any _ _ _).mono ?_;rintro e w' ⟨rfl,rfl⟩;rw [h2])
   go_region
   go_wp2
   exact bodyPost_ret (results_two (p:=8) (q:=9) (by kernel_rfl) _ _ rfl rfl (two_blocks w _ _).1 (two_blocks w _ _).2.1) rfl ⟨rfl,by first | exact (two_blocks w _ _).2.2 | exact (two_blocks w _ _).2.2.drew | exact (two_blocks w _ _).2.2.drew.drew⟩
  ·rw [if_neg h1,if_neg h2]
   have hc1:(Lib.compareBytes x1 y1 == -1) = false:=by simp [h1]
   have hc2:(Lib.compareBytes x1 y1 == 1) = false:=by simp [h2]
   clear h1 h2
   generalize hcc:Lib.compareBytes x1 y1 = cc at *
   go_enter Tryz.func108,Tryz.ntmps108
   go_wp2
   go_region
   go_wp2_with (go_at_call 142;refine (compare_any _ _ _).mono ?_;rintro e w' ⟨rfl,rfl⟩;rw [hcc])
   go_region
   go_wp2
   exact bodyPost_ret (results_two (p:=8) (q:=9) (by kernel_rfl) _ _ rfl rfl (two_blocks w _ _).1 (two_blocks w _ _).2.1) rfl ⟨rfl,by first | exact (two_blocks w _ _).2.2 | exact (two_blocks w _ _).2.2.drew | exact (two_blocks w _ _).2.2.drew.drew⟩
theorem next_any (ba oa bb ob i j:Nat) (vs ws:List Ent) (w:World) (ha:ListAt w ba oa vs) (hb:ListAt w bb ob ws) (hv:Forms vs) (hw:Forms ws) (hi:i ≤ vs.length) (hj:j ≤ ws.length) (hij:i < vs.length∨j < ws.length) :
  Calls Tryz.prog 108 #[.pointer (some ⟨ba,oa,none⟩),.int .i64 i,.pointer (some ⟨bb,ob,none⟩),.int .i64 j] w fun e w' => NextOut w (nextP (vs.drop i) (ws.drop j)) e w':=by
 by_cases h1:i < vs.length
 ·by_cases h2:j < ws.length
  ·have:=next_both ba oa bb ob i j vs ws w ha hb hv hw h1 h2
   rw [List.drop_eq_getElem_cons h1,List.drop_eq_getElem_cons h2]
   exact this
  ·have:=next_left ba oa bb ob i j vs ws w ha hb hv h1 (by omega)
   rw [List.drop_eq_getElem_cons h1,List.drop_eq_nil_of_le (by omega:ws.length ≤ j)]
   exact this
 ·have h2:j < ws.length:=by omega
  have:=next_right ba oa bb ob i j vs ws w ha hb hw (by omega) h2
  rw [List.drop_eq_nil_of_le (by omega:vs.length ≤ i),List.drop_eq_getElem_cons h2]
  exact this
end Go.Proofs.YtdcbgfhkfmohiaaGreatDoor

namespace Go.Proofs.YtdcbgfhkfmohiaaGreatDoor
open Go.RowKit Go.Shelf
def pairsL:List Ent→List Ent→List (Ent × Ent)
 | [],[] => []
 | [],b :: ws => (noEnt,b) :: pairsL [] ws
 | a :: vs,[] => (a,noEnt) :: pairsL vs []
 | a :: vs,b :: ws => if Lib.compareBytes a.1 b.1 = -1 then (a,noEnt) :: pairsL vs (b :: ws) else if Lib.compareBytes a.1 b.1 = 1 then (noEnt,b) :: pairsL (a :: vs) ws else (a,b) :: pairsL vs ws
termination_by vs ws => vs.length + ws.length
theorem pairs_step {vs ws:List Ent} (hv:Forms vs) (hw:Forms ws) (h:vs ≠ []∨ws ≠ []) :
  (∃ t n,(nextP vs ws).1.2 = .iface t (.pointer (some ⟨n,0,none⟩))∧(nextP vs ws).2 = noEnt∧pairsL vs ws = nextP vs ws :: pairsL (vs.drop 1) ws∧vs ≠ []) ∨
  (∃ t n,(nextP vs ws).2.2 = .iface t (.pointer (some ⟨n,0,none⟩))∧(nextP vs ws).1 = noEnt∧pairsL vs ws = nextP vs ws :: pairsL vs (ws.drop 1)∧ws ≠ []) ∨
  (∃ t n t' n',(nextP vs ws).1.2 = .iface t (.pointer (some ⟨n,0,none⟩))∧(nextP vs ws).2.2 = .iface t' (.pointer (some ⟨n',0,none⟩))∧pairsL vs ws = nextP vs ws :: pairsL (vs.drop 1) (ws.drop 1)∧vs ≠ []∧ws ≠ []):=by
 cases vs with
 | nil =>
  cases ws with
  | nil => simp at h
  | cons b ws =>
   obtain ⟨t,n,e⟩:=hw b (by simp)
   right;left
   exact ⟨t,n,e,rfl,by rw [pairsL];rfl,by simp⟩
 | cons a vs =>
  obtain ⟨t,n,e⟩:=hv a (by simp)
  cases ws with
  | nil =>
   left
   exact ⟨t,n,e,rfl,by rw [pairsL];rfl,by simp⟩
  | cons b ws =>
   obtain ⟨t',n',e'⟩:=hw b (by simp)
   simp only [nextP]
   rw [pairsL]
   by_cases h1:Lib.compareBytes a.1 b.1 = -1
   ·left
    rw [if_pos h1,if_pos h1]
    exact ⟨t,n,e,rfl,rfl,by simp⟩
   ·by_cases h2:Lib.compareBytes a.1 b.1 = 1
    ·right;left
     rw [if_neg h1,if_pos h2,if_neg h1,if_pos h2]
     exact ⟨t',n',e',rfl,rfl,by simp⟩
    ·right;right
     rw [if_neg h1,if_neg h2,if_neg h1,if_neg h2]
     exact ⟨t,n,t',n',e,e',rfl,by simp,by simp⟩
theorem pairs_any (pa pb:Addr) (w:World) :
  Calls Tryz.prog 75 #[.pointer (some pa),.pointer (some pb)] w fun e w' => e = .returned (.func (.func 107) #[] #[ptrV w.heap.size,ptrV (w.heap.size + 1)])∧w' = (w.alloc (.cells #[.pointer (some pa)] 151)).alloc (.cells #[.pointer (some pb)] 151):=by
 go_enter Tryz.func75,Tryz.ntmps75
 go_wp2
 go_ret
 exact ⟨rfl,rfl⟩
theorem iface_someN (k:Nat) (x:Value) (w:World):(binOp .neq 99 (.iface k x) .nilIface).run Tryz.prog w = .ok (.bool true) w:=by
 have h:(Op.equalIn 10000 99 (.iface k x) .nilIface).run Tryz.prog w = .ok false w:=by
  rw [show (10000:Nat) = 9999 + 1 from rfl,Op.equalIn];simp only [Sem.run_bind,run_underlying Tryz.underlying99,Result.andThen_ok];rfl
 simp only [binOp]
 simp [Op.equal,Op.maxDepth,h]
theorem iface_noneN (w:World):(binOp .neq 99 .nilIface .nilIface).run Tryz.prog w = .ok (.bool false) w:=by
 have h:(Op.equalIn 10000 99 .nilIface .nilIface).run Tryz.prog w = .ok true w:=by
  rw [show (10000:Nat) = 9999 + 1 from rfl,Op.equalIn];simp only [Sem.run_bind,run_underlying Tryz.underlying99,Result.andThen_ok];rfl
 simp only [binOp]
 simp [Op.equal,Op.maxDepth,h]
abbrev encP (p:Ent × Ent):Array Value:=#[entV p.1,entV p.2]
theorem ListAt.kept {W W' : World} {b o:Nat} {vs:List Ent} (h:ListAt W b o vs) (he:W'.heap[b]? = W.heap[b]?):ListAt W' b o vs :=
 ⟨h.few,fun i u hu => by
  have:=h.cell i u hu
  unfold World.cell? at this ⊢
  simp only [he];exact this⟩
set_option maxHeartbeats 8000000 in
set_option maxRecDepth 100000 in
theorem pairs_seq (x1 x2 ba oa bb ob:Nat) (vs ws:List Ent) (w:World) (h1:w.heap[x1]? = some (.cells #[.pointer (some ⟨ba,oa,none⟩)] 151 (0,0))) (h2:w.heap[x2]? = some (.cells #[.pointer (some ⟨bb,ob,none⟩)] 151 (0,0)))
  (ha:ListAt w ba oa vs) (hb:ListAt w bb ob ws) (hv:Forms vs) (hw:Forms ws) :
  SeqOf Tryz.prog 107 #[ptrV x1,ptrV x2] encP (pairsL vs ws) (fun k => k = x1∨k = x2∨k = ba∨k = bb) w:=by
 intro n m l J O W hsz hR hloc hY h0
 have few:=ha.few
 have few':=hb.few
 have RR:Hid (∀ W' O',Turn O W W' O'→W'.heap[x1]? = w.heap[x1]?∧W'.heap[x2]? = w.heap[x2]?∧ListAt W' ba oa vs∧ListAt W' bb ob ws):=by
  intro W' O' ht
  have hk:∀ k,(k = x1∨k = x2∨k = ba∨k = bb)→W'.heap[k]? = w.heap[k]?:=fun k hk => (ht.blk k (Nat.lt_of_lt_of_le (hR k hk).1 hsz) (hR k hk).2.2).trans (hR k hk).2.1
  exact ⟨hk _ (.inl rfl),hk _ (.inr (.inl rfl)),ha.kept (hk _ (.inr (.inr (.inl rfl)))),hb.kept (hk _ (.inr (.inr (.inr rfl))))⟩
 have HY:Hid _:=hY
 have HL:Hid _:=hloc
 have HV:Hid _:=hv
 have HW:Hid _:=hw
 have HX:Hid (w.heap[x1]? = some (.cells #[.pointer (some ⟨ba,oa,none⟩)] 151 (0,0))∧w.heap[x2]? = some (.cells #[.pointer (some ⟨bb,ob,none⟩)] 151 (0,0))):=⟨h1,h2⟩
 clear hY hloc hR h1 h2 ha hb hv hw
 refine callsIn_of_wp Tryz.func107 rfl trivial ?_ rfl
 simp only [Tryz.ntmps107,List.size_toArray,List.length_cons,List.length_nil,Nat.reduceAdd,Nat.reduceSub,Array.replicate_succ,Array.replicate_zero,List.push_toArray,List.append_toArray,List.nil_append,List.cons_append]
 gi_wp2
 gi_loopw [4,5] (fun i j wr => ∃ (ki kj:Nat) (pre:List (Ent × Ent)) (O1:Nat→Prop),i = .int .i64 ki∧j = .int .i64 kj∧ki ≤ vs.length∧kj ≤ ws.length∧pre ++ pairsL (vs.drop ki) (ws.drop kj) = pairsL vs ws∧J pre O1 wr∧Turn O W wr O1)
  (fun i j _ => (vs.length - (intOf i).toNat) + (ws.length - (intOf j).toNat))
 case atStart => exact ⟨0,0,[],O,rfl,rfl,Nat.zero_le _,Nat.zero_le _,by simp,h0,Turn.refl _ _⟩
 case round =>
  obtain ⟨ki,kj,pre,O1,rfl,rfl,hki,hkj,hpre,hj,ht⟩:=hrel
  obtain ⟨hx1,hx2,hla,hlb⟩:=RR.out wr O1 ht
  have c1:wr.cell? ⟨x1,0,none⟩ = some (.pointer (some ⟨ba,oa,none⟩)):=(blk_cell (hx1.trans HX.out.1) 0).trans rfl
  have c2:wr.cell? ⟨x2,0,none⟩ = some (.pointer (some ⟨bb,ob,none⟩)):=(blk_cell (hx2.trans HX.out.2) 0).trans rfl
  have na:=hla.count
  have nb:=hlb.count
  have HT:Hid _:=ht
  have HJ:Hid _:=hj
  have HP:Hid _:=hpre
  have HLA:Hid _:=hla
  have HLB:Hid _:=hlb
  clear ht hj hpre hla hlb hx1 hx2
  by_cases hend:ki = vs.length∧kj = ws.length
  ·obtain ⟨rfl,rfl⟩:=hend
   gi_wp2
   go_end0
   have e:pre = pairsL vs ws:=by rw [← HP.out];simp [pairsL]
   exact ⟨⟨_,rfl⟩,O1,e ▸ HJ.out,HT.out⟩
  ·have C:Hid (Calls Tryz.prog 108 #[.pointer (some ⟨ba,oa,none⟩),.int .i64 ki,.pointer (some ⟨bb,ob,none⟩),.int .i64 kj] wr fun e w' => NextOut wr (nextP (vs.drop ki) (ws.drop kj)) e w') :=
    next_any ba oa bb ob ki kj vs ws wr HLA.out HLB.out HV.out HW.out hki hkj (by omega)
   have hg:(decide (ki < vs.length) = true)∨(decide (ki < vs.length) = false∧decide (kj < ws.length) = true):=by
    by_cases h:ki < vs.length
    ·left;simpa using h
    ·right;simp;omega
   have hst:=pairs_step (vs:=vs.drop ki) (ws:=ws.drop kj) (fun e he => HV.out e (List.mem_of_mem_drop he)) (fun e he => HW.out e (List.mem_of_mem_drop he)) (by
    by_cases h:ki < vs.length
    ·left;intro h2;have:=congrArg List.length h2;simp at this;omega
    ·right;intro h2;have:=congrArg List.length h2;simp at this;omega)
   have HG:Hid _:=hg
   generalize nextP (vs.drop ki) (ws.drop kj) = p at *
   obtain ⟨⟨a1,v1⟩,⟨a2,v2⟩⟩:=p
   have fin:∀ (ki' kj' : Nat),ki' ≤ vs.length→kj' ≤ ws.length→pairsL (vs.drop ki) (ws.drop kj) = ((a1,v1),(a2,v2)) :: pairsL (vs.drop ki') (ws.drop kj')→∀ w1,Below wr.heap.size wr w1 →
     YieldAt Fence.wide m Tryz.prog l (encP ((a1,v1),(a2,v2))) ((w1.alloc (.cells #[SV a1,v1] 101)).alloc (.cells #[SV a2,v2] 101)) fun e W4 => e = .returned (.bool true) ∧
      W4.cell? ⟨w1.heap.size,1,none⟩ = some v1∧W4.cell? ⟨w1.heap.size + 1,1,none⟩ = some v2∧∃ pre' O',pre' ++ pairsL (vs.drop ki') (ws.drop kj') = pairsL vs ws∧J pre' O' W4∧Turn O W W4 O':=by
    intro ki' kj' h1 h2 hp w1 hb1
    have hsz1:=hb1.size
    have hb3:Below wr.heap.size wr ((w1.alloc (.cells #[SV a1,v1] 101)).alloc (.cells #[SV a2,v2] 101)):=(hb1.alloc hsz1 _).alloc (by simp;omega) _
    have tb:=two_blocks w1 (.cells #[SV a1,v1] 101) (.cells #[SV a2,v2] 101)
    generalize hW3:(w1.alloc (.cells #[SV a1,v1] 101)).alloc (.cells #[SV a2,v2] 101) = W3 at *
    have hlt:=((HL.out pre).lt O1 wr HJ.out).2
    have hpx:pre ++ [((a1,v1),(a2,v2))] <+: pairsL vs ws:=⟨pairsL (vs.drop ki') (ws.drop kj'),by rw [← HP.out,hp];simp⟩
    refine YieldAt.mono (HY.out pre ((a1,v1),(a2,v2)) O1 W3 ((HL.out pre).below HJ.out hb3) hpx) ?_
    rintro e W4 ⟨he,O',hJ',ht'⟩
    have k1:W4.heap[w1.heap.size]? = some (.cells #[SV a1,v1] 101 (0,0)):=(ht'.blk _ (Array.getElem?_eq_some_iff.1 tb.1).1 (fun h => by have:=hlt _ h;omega)).trans tb.1
    have k2:W4.heap[w1.heap.size + 1]? = some (.cells #[SV a2,v2] 101 (0,0)):=(ht'.blk _ (Array.getElem?_eq_some_iff.1 tb.2.1).1 (fun h => by have:=hlt _ h;omega)).trans tb.2.1
    exact ⟨he,(blk_cell k1 1).trans rfl,(blk_cell k2 1).trans rfl,_,O',by rw [← HP.out,hp];simp,hJ',HT.out.trans ((Turn.of_below hb3).trans ht')⟩
   rcases hst with ⟨t,q,h1,h2,h3,h4⟩ | ⟨t,q,h1,h2,h3,h4⟩ | ⟨t,q,t',q',h1,h2,h3,h4,h5⟩
   ·simp only [Prod.mk.injEq] at h1 h2
    obtain ⟨rfl,rfl⟩:=h2
    subst h1
    have hlt1:ki < vs.length:=by
     refine Classical.byContradiction fun h => h4 ?_
     rw [List.drop_eq_nil_of_le (by omega)]
    rw [List.drop_drop] at h3
    have F1:Hid _:=fin (ki + 1) kj (by omega) hkj h3
    clear fin h3 h4
    rcases HG.out with hg | ⟨hg,hg'⟩
    all_goals
     gi_wp2_with fail
     refine ⟨trivial,fun h => (by cases h),(callsIn_wide.2 C.out).mono ?_⟩
     rintro e w1 ⟨rfl,hb1⟩
     obtain ⟨fn,tmps,assign,body,hy,hR⟩:=F1.out w1 hb1
     gi_wp2
     refine ⟨fun h => (by cases h),(round_any hR).mono ?_⟩
     clear hy hR
     rintro e W4 ⟨rfl,cL,cR,pre',O',hp',hJ',ht'⟩
     have HR4:Hid _:=And.intro hp' (And.intro hJ' ht')
     clear hp' hJ' ht'
     have hin:=iface_someN
     have hi0:=iface_noneN
     gi_wp2
     go_roundw
     case rel => exact ⟨ki + 1,kj,pre',O',by go_num,by go_num,by omega,by omega,HR4.out.1,HR4.out.2.1,HR4.out.2.2⟩
     case measure => simp [intOf];omega
   ·simp only [Prod.mk.injEq] at h1 h2
    obtain ⟨rfl,rfl⟩:=h2
    subst h1
    have hlt1:kj < ws.length:=by
     refine Classical.byContradiction fun h => h4 ?_
     rw [List.drop_eq_nil_of_le (by omega)]
    rw [List.drop_drop] at h3
    have F1:Hid _:=fin ki (kj + 1) hki (by omega) h3
    clear fin h3 h4
    rcases HG.out with hg | ⟨hg,hg'⟩
    all_goals
     gi_wp2_with fail
     refine ⟨trivial,fun h => (by cases h),(callsIn_wide.2 C.out).mono ?_⟩
     rintro e w1 ⟨rfl,hb1⟩
     obtain ⟨fn,tmps,assign,body,hy,hR⟩:=F1.out w1 hb1
     gi_wp2
     refine ⟨fun h => (by cases h),(round_any hR).mono ?_⟩
     clear hy hR
     rintro e W4 ⟨rfl,cL,cR,pre',O',hp',hJ',ht'⟩
     have HR4:Hid _:=And.intro hp' (And.intro hJ' ht')
     clear hp' hJ' ht'
     have hin:=iface_someN
     have hi0:=iface_noneN
     gi_wp2
     go_roundw
     case rel => exact ⟨ki,kj + 1,pre',O',by go_num,by go_num,by omega,by omega,HR4.out.1,HR4.out.2.1,HR4.out.2.2⟩
     case measure => simp [intOf];omega
   ·simp only at h1 h2
    subst h1
    subst h2
    have hlt1:ki < vs.length:=by
     refine Classical.byContradiction fun h => h4 ?_
     rw [List.drop_eq_nil_of_le (by omega)]
    have hlt2:kj < ws.length:=by
     refine Classical.byContradiction fun h => h5 ?_
     rw [List.drop_eq_nil_of_le (by omega)]
    rw [List.drop_drop,List.drop_drop] at h3
    have F1:Hid _:=fin (ki + 1) (kj + 1) (by omega) (by omega) h3
    clear fin h3 h4 h5
    rcases HG.out with hg | ⟨hg,hg'⟩
    all_goals
     gi_wp2_with fail
     refine ⟨trivial,fun h => (by cases h),(callsIn_wide.2 C.out).mono ?_⟩
     rintro e w1 ⟨rfl,hb1⟩
     obtain ⟨fn,tmps,assign,body,hy,hR⟩:=F1.out w1 hb1
     gi_wp2
     refine ⟨fun h => (by cases h),(round_any hR).mono ?_⟩
     clear hy hR
     rintro e W4 ⟨rfl,cL,cR,pre',O',hp',hJ',ht'⟩
     have HR4:Hid _:=And.intro hp' (And.intro hJ' ht')
     clear hp' hJ' ht'
     have hin:=iface_someN
     have hi0:=iface_noneN
     gi_wp2
     go_roundw
     case rel => exact ⟨ki + 1,kj + 1,pre',O',by go_num,by go_num,by omega,by omega,HR4.out.1,HR4.out.2.1,HR4.out.2.2⟩
     case measure => simp [intOf];omega
end Go.Proofs.YtdcbgfhkfmohiaaGreatDoor

namespace Go.Proofs.YtdcbgfhkfmohiaaGreatDoor
open Go.RowKit
def entO (ad:Tree→Nat) (x:Str):Option Tree→Ent
 | none => noEnt
 | some t => (x,valT ad t)
def Bank.hasO (B:Bank):Option Tree→Prop
 | none => True
 | some t => B.has t
def entsO:Option Tree→Ents
 | some (.dir es) => es
 | _ => []
def fileO:Option Tree→Option Str
 | some (.file d) => some d
 | _ => none
def pairsT:Ents→Ents→List (Str × Option Tree × Option Tree)
 | [],[] => []
 | [],(y,u) :: fs => (y,none,some u) :: pairsT [] fs
 | (x,t) :: es,[] => (x,some t,none) :: pairsT es []
 | (x,t) :: es,(y,u) :: fs => if Lib.compareBytes x y = -1 then (x,some t,none) :: pairsT es ((y,u) :: fs) else if Lib.compareBytes x y = 1 then (y,none,some u) :: pairsT ((x,t) :: es) fs else (x,some t,some u) :: pairsT es fs
termination_by es fs => es.length + fs.length
theorem cmp_eq:∀ {a b:Str},Lib.compareBytes a b ≠ -1→Lib.compareBytes a b ≠ 1→a = b
 | [],[],_,_ => rfl
 | [],_ :: _,h,_ => by simp [Lib.compareBytes] at h
 | _ :: _,[],_,h => by simp [Lib.compareBytes] at h
 | a :: xs,b :: ys,h,h' => by
  unfold Lib.compareBytes at h h'
  by_cases h1:a < b
  ·rw [if_pos h1] at h;exact absurd rfl h
  ·by_cases h2:b < a
   ·rw [if_neg h1,if_pos h2] at h';exact absurd rfl h'
   ·rw [if_neg h1,if_neg h2] at h h'
    have e1:a = b:=by
     have h3:¬ a.toNat < b.toNat:=h1
     have h4:¬ b.toNat < a.toNat:=h2
     exact UInt8.toNat_inj.1 (by omega)
    rw [e1,cmp_eq h h']
theorem pairs_vals (ad:Tree→Nat) (n:Nat):∀ es fs:Ents,es.length + fs.length ≤ n→pairsL (valsE ad es) (valsE ad fs) = (pairsT es fs).map fun p => (entO ad p.1 p.2.1,entO ad p.1 p.2.2):=by
 induction n with
 | zero =>
  intro es fs h
  obtain rfl:es = []:=List.length_eq_zero_iff.1 (by omega)
  obtain rfl:fs = []:=List.length_eq_zero_iff.1 (by omega)
  simp [valsE,pairsL,pairsT]
 | succ n ih =>
  intro es fs h
  cases es with
  | nil =>
   cases fs with
   | nil => simp [valsE,pairsL,pairsT]
   | cons f fs =>
    have:=ih [] fs (by simp at h ⊢;omega)
    simp only [valsE,List.map_nil,List.map_cons] at this ⊢
    rw [pairsL,pairsT,this];rfl
  | cons e es =>
   cases fs with
   | nil =>
    have:=ih es [] (by simp at h ⊢;omega)
    simp only [valsE,List.map_nil,List.map_cons] at this ⊢
    rw [pairsL,pairsT,this];rfl
   | cons f fs =>
    have i1:=ih es (f :: fs) (by simp at h ⊢;omega)
    have i2:=ih (e :: es) fs (by simp at h ⊢;omega)
    have i3:=ih es fs (by simp at h ⊢;omega)
    simp only [valsE,List.map_cons] at i1 i2 i3 ⊢
    rw [pairsL,pairsT]
    by_cases h1:Lib.compareBytes e.1 f.1 = -1
    ·simp only [h1,if_true];rw [i1];rfl
    ·by_cases h2:Lib.compareBytes e.1 f.1 = 1
     ·rw [if_neg h1,if_pos h2,if_neg h1,if_pos h2,i2];rfl
     ·rw [if_neg h1,if_neg h2,if_neg h1,if_neg h2,i3]
      simp only [List.map_cons,entO]
      rw [cmp_eq h1 h2]
theorem pairs_mem {n:Nat}:∀ {es fs:Ents},es.length + fs.length ≤ n→∀ p ∈ pairsT es fs,(∀ t,p.2.1 = some t→(p.1,t) ∈ es)∧(∀ t,p.2.2 = some t→∃ y,(y,t) ∈ fs∧(p.1 = y))∧(p.2.1 = none→p.2.2 ≠ none):=by
 induction n with
 | zero =>
  intro es fs h p hp
  obtain rfl:es = []:=List.length_eq_zero_iff.1 (by omega)
  obtain rfl:fs = []:=List.length_eq_zero_iff.1 (by omega)
  simp [pairsT] at hp
 | succ n ih =>
  intro es fs h p hp
  cases es with
  | nil =>
   cases fs with
   | nil => simp [pairsT] at hp
   | cons f fs =>
    rw [pairsT] at hp
    simp only [List.mem_cons] at hp
    rcases hp with rfl | hp
    ·simp
    ·obtain ⟨h1,h2,h3⟩:=ih (es:=[]) (fs:=fs) (by simp at h ⊢;omega) p hp
     exact ⟨h1,fun t ht => by obtain ⟨y,hy,e⟩:=h2 t ht;exact ⟨y,by simp [hy],e⟩,h3⟩
  | cons e es =>
   cases fs with
   | nil =>
    rw [pairsT] at hp
    simp only [List.mem_cons] at hp
    rcases hp with rfl | hp
    ·simp
    ·obtain ⟨h1,h2,h3⟩:=ih (es:=es) (fs:=[]) (by simp at h ⊢;omega) p hp
     exact ⟨fun t ht => by simp [h1 t ht],h2,h3⟩
   | cons f fs =>
    rw [pairsT] at hp
    by_cases c1:Lib.compareBytes e.1 f.1 = -1
    ·rw [if_pos c1] at hp
     simp only [List.mem_cons] at hp
     rcases hp with rfl | hp
     ·simp
     ·obtain ⟨h1,h2,h3⟩:=ih (es:=es) (fs:=f :: fs) (by simp at h ⊢;omega) p hp
      exact ⟨fun t ht => by simp [h1 t ht],h2,h3⟩
    ·by_cases c2:Lib.compareBytes e.1 f.1 = 1
     ·rw [if_neg c1,if_pos c2] at hp
      simp only [List.mem_cons] at hp
      rcases hp with rfl | hp
      ·simp
      ·obtain ⟨h1,h2,h3⟩:=ih (es:=e :: es) (fs:=fs) (by simp at h ⊢;omega) p hp
       exact ⟨h1,fun t ht => by obtain ⟨y,hy,e⟩:=h2 t ht;exact ⟨y,by simp [hy],e⟩,h3⟩
     ·rw [if_neg c1,if_neg c2] at hp
      simp only [List.mem_cons] at hp
      rcases hp with rfl | hp
      ·refine ⟨by simp,?_,by simp⟩
       intro t ht
       simp only [Option.some.injEq] at ht
       subst ht
       exact ⟨f.1,by simp,cmp_eq c1 c2⟩
      ·obtain ⟨h1,h2,h3⟩:=ih (es:=es) (fs:=fs) (by simp at h ⊢;omega) p hp
       exact ⟨fun t ht => by simp [h1 t ht],fun t ht => by obtain ⟨y,hy,e⟩:=h2 t ht;exact ⟨y,by simp [hy],e⟩,h3⟩
def fitsT:Nat→Option Tree→Prop
 | _,none => True
 | 0,some _ => False
 | _ + 1,some (.file _) => True
 | n + 1,some (.dir es) => ∀ e ∈ es,e.1 ≠ []∧e.1.length ≤ 8∧fitsT n (some e.2)
def markT (a b:Option Tree):Nat:=match fileO a,fileO b with
 | none,none => 0
 | some _,none => 45
 | none,some _ => 43
 | some d,some e => if d = e then 0 else 126
open Classical in
noncomputable def chgS:Nat→Str→Option Tree→Option Tree→List (Str × Nat)
 | 0,_,_,_ => []
 | n + 1,path,a,b => if a = b then [] else (if markT a b = 0 then [] else [(path,markT a b)]) ++ (pairsT (entsO a) (entsO b)).flatMap fun p => chgS n (joinS path p.1) p.2.1 p.2.2
theorem changes_any (e1 e2:Ent) (s:Str) (w:World) (h1:e1.2.oneCell' = true) (h2:e2.2.oneCell' = true) :
  Calls Tryz.prog 46 #[entV e1,entV e2,SV s] w fun e w' => e = .returned (.func (.func 71) #[] #[ptrV w.heap.size,ptrV (w.heap.size + 1),ptrV (w.heap.size + 2)]) ∧
   w' = ((w.alloc (.cells #[SV e1.1,e1.2] 101)).alloc (.cells #[SV e2.1,e2.2] 101)).alloc (.cells #[SV s] 9):=by
 obtain ⟨a1,v1⟩:=e1
 obtain ⟨a2,v2⟩:=e2
 go_enter Tryz.func46,Tryz.ntmps46
 go_wp2
 go_ret
 exact ⟨rfl,rfl⟩
end Go.Proofs.YtdcbgfhkfmohiaaGreatDoor

namespace Go.Proofs.YtdcbgfhkfmohiaaGreatDoor
open Go.RowKit
theorem list_empty (w:World):ListAt (w.alloc (.cells (listCells []).toArray 147)) w.heap.size 0 [] :=
 ⟨by simp,fun i u hu => by
  have:=blk_cell (heap_alloc_new w (.cells (listCells []).toArray 147)) i
  rw [Nat.zero_add]
  rw [this]
  simpa using hu⟩
def ApartOut (W:World) (B:Bank) (a:Option Tree) (e:Ending) (w' : World):Prop :=
 ∃ lb lo,e = .returned (.tuple #[ptrO ((fileO a).map fun d => B.ad (.file d)),.pointer (some ⟨lb,lo,none⟩)])∧Below W.heap.size W w'∧ListAt w' lb lo (valsE B.ad (entsO a))∧(B.own lb∨W.heap.size ≤ lb)∧lb < w'.heap.size
theorem apart_any (B:Bank) (a:Option Tree) (x:Str) (W:World) (hB:BankAt W B) (ha:B.hasO a):Calls Tryz.prog 73 #[(entO B.ad x a).2] W fun e w' => ApartOut W B a e w':=by
 cases a with
 | none =>
  refine (apart_nil W).mono ?_
  rintro e w' ⟨rfl,rfl⟩
  exact ⟨_,0,rfl,(Below.refl _ _).alloc (Nat.le_refl _) _,list_empty W,.inr (Nat.le_refl _),by simp⟩
 | some t =>
  cases t with
  | file d =>
   refine (apart_file (B.ad (.file d)) W).mono ?_
   rintro e w' ⟨rfl,rfl⟩
   exact ⟨_,0,rfl,(Below.refl _ _).alloc (Nat.le_refl _) _,list_empty W,.inr (Nat.le_refl _),by simp⟩
  | dir es =>
   have hd:=hB.dirs es ha
   refine (apart_dir (B.ad (.dir es)) W).mono ?_
   rintro e w' ⟨rfl,hb⟩
   exact ⟨_,1,rfl,hb,(hd.below hb (Nat.le_refl _)).list,.inl (.inr (.inr (.inr (.inr ⟨.dir es,ha,rfl⟩)))),Nat.lt_of_lt_of_le (Array.getElem?_eq_some_iff.1 hd.2).1 hb.size⟩
theorem mark_same {W:World} {B:Bank} (hB:BankAt W B) {a b:Option Tree} (ha:B.hasO a) (hb:B.hasO b):markN ((fileO a).map fun d => B.ad (.file d)) ((fileO b).map fun d => B.ad (.file d)) = markT a b:=by
 unfold markT markN
 cases hfa:fileO a with
 | none => cases fileO b <;> simp
 | some d =>
  cases hfb:fileO b with
  | none => simp
  | some e =>
   have h1:B.has (.file d):=by cases a with | none => simp [fileO] at hfa | some t => cases t <;> simp [fileO] at hfa;subst hfa;exact ha
   have h2:B.has (.file e):=by cases b with | none => simp [fileO] at hfb | some t => cases t <;> simp [fileO] at hfb;subst hfb;exact hb
   simp only [Option.map_some,Option.some.injEq]
   by_cases he:d = e
   ·subst he;simp
   ·rw [if_neg he,if_neg (fun h => he (by have:=hB.same h1 h2 h;simpa using this)),if_neg (by simp),if_neg (by simp)]
theorem file_block {W:World} {B:Bank} (hB:BankAt W B) {a:Option Tree} (ha:B.hasO a):∀ k,(fileO a).map (fun d => B.ad (.file d)) = some k→∃ c,W.heap[k]? = some (.cells c 135 (0,0)):=by
 intro k hk
 cases a with
 | none => simp [fileO] at hk
 | some t =>
  cases t with
  | dir es => simp [fileO] at hk
  | file d =>
   simp only [fileO,Option.map_some,Option.some.injEq] at hk
   subst hk
   exact ⟨_,hB.files d ha⟩

open Go.RowKit
theorem guard_ok {w:World} (o1 o2:Operand) {n1 n2:Str} {v1 v2:Value} (h:¬ (v1 = .nilIface∧v2 = .nilIface)):(eqGuard .eql 101 o1 o2 (.agg #[SV n1,v1]) (.agg #[SV n2,v2])).run Tryz.prog w = .ok () w:=by
 have p1:(part 9 #[SV n1,v1] 0).run Tryz.prog w = .ok (SV n1) w:=run_part_one Tryz.underlying9 rfl rfl
 have p2:(part 9 #[SV n2,v2] 0).run Tryz.prog w = .ok (SV n2) w:=run_part_one Tryz.underlying9 rfl rfl
 have p3:(part 99 #[SV n1,v1] 1).run Tryz.prog w = .ok v1 w:=run_part_one Tryz.underlying99 rfl rfl
 have p4:(part 99 #[SV n2,v2] 1).run Tryz.prog w = .ok v2 w:=run_part_one Tryz.underlying99 rfl rfl
 have g1:(Op.eqGuardIn 9999 9 (SV n1) (SV n2)).run Tryz.prog w = .ok false w:=by
  rw [show (9999:Nat) = 9998 + 1 from rfl,Op.eqGuardIn]
  simp only [Sem.run_bind,run_underlying Tryz.underlying9,Result.andThen_ok,Sem.run_pure]
 have g2:(Op.eqGuardIn 9999 99 v1 v2).run Tryz.prog w = .ok false w:=by
  rw [show (9999:Nat) = 9998 + 1 from rfl,Op.eqGuardIn]
  simp only [Sem.run_bind,run_underlying Tryz.underlying99,Result.andThen_ok]
  clear p3 p4 p1 p2 g1
  cases v1 <;> first | rfl | (cases v2 <;> first | rfl | exact absurd ⟨rfl,rfl⟩ h)
 have hg:(Op.eqGuardIn 10000 101 (.agg #[SV n1,v1]) (.agg #[SV n2,v2])).run Tryz.prog w = .ok false w:=by
  rw [show (10000:Nat) = 9999 + 1 from rfl,Op.eqGuardIn]
  simp only [Sem.run_bind,run_underlying Tryz.underlying101,Result.andThen_ok]
  simp [p1,p2,p3,p4,g1,g2]
 unfold eqGuard
 simp [run_program,Op.maxDepth,hg]

open Go.RowKit
theorem range_boxed {n m:Nat} {g:Operand} {ps:Array Tmp} {assign body:Code} {Q:Exit→Act→World→Prop} {a:Act} {w:World} {gf:Nat} {lb:Array Value} (hg:a.eval g = .func (.func gf) #[] lb) (eg:∀ args w,(callFunc gf args).run Tryz.prog w = .ok (.enter gf args) w)
  {xs:List (Ent × Ent)} {R:Nat→Prop} (hseq:SeqOf Tryz.prog gf lb encP xs R w) (hps:∀ x,(encP x).size = ps.size) (O:Nat→Prop) (hR:∀ k,R k→k < w.heap.size∧¬ O k)
  (I:List (Ent × Ent)→(Nat→Prop)→World→Prop) (hloc:∀ pre,Local w.heap.size (I pre)) (h0:I [] O w) (ins:Array Value→Ent × Ent→Nat→Nat→Array Value)
  (hassign:∀ l x W (K:Act→World→Prop),x ∈ xs→K { tmps:=ins a.tmps x W.heap.size (W.heap.size + 1),defers:=[] } ((W.alloc (.cells #[SV x.1.1,x.1.2] 101)).alloc (.cells #[SV x.2.1,x.2.2] 101)) →
   assign.wpIn (Fence.wide.inRound l) m Tryz.prog (Exit.then K (fun _ _ _ => False)) { tmps:=(ps.zip (encP x)).foldl (fun t (p,v) => t.setIfInBounds p v) a.tmps,defers:=[] } W)
  (hbody:∀ l r pre x O1 b1 b2 W2,w.heap.size ≤ l→pre ++ [x] <+: xs→W2.heap[b1]? = some (.cells #[SV x.1.1,x.1.2] 101 (0,0))→W2.heap[b2]? = some (.cells #[SV x.2.1,x.2.2] 101 (0,0))→W2.heap[l]? = some (.loop r)→I pre O1 W2→Turn O w W2 O1 →
   body.wpIn (Fence.wide.inRound l) m Tryz.prog (goesOn I (pre ++ [x]) O1 W2) { tmps:=ins a.tmps x b1 b2,defers:=[] } W2)
  (hdone:∀ D O' W',w.heap.size ≤ D→I xs O' W'→¬ O' D→Turn O w W' O'→W'.heap[D]? = some (.deferred (some []))→Q .normal { a with defers:={ target:=.collected D,args:=#[] } :: a.defers } W') :
  (Code.rangeFunc g ps assign body).wpIn Fence.wide n Tryz.prog Q a w:=by
 refine range_outer (m:=m) hg eg hseq hps O hR I hloc h0 (fun x a' W' => ∃ b1 b2,W'.heap[b1]? = some (.cells #[SV x.1.1,x.1.2] 101 (0,0))∧W'.heap[b2]? = some (.cells #[SV x.2.1,x.2.2] 101 (0,0))∧a' = { tmps:=ins a.tmps x b1 b2,defers:=[] }) ?_ ?_ hdone
 ·intro l pre x O1 W K hx _ hK
  obtain ⟨r,hr⟩:=hx
  have tb:=two_blocks W (.cells #[SV x.1.1,x.1.2] 101) (.cells #[SV x.2.1,x.2.2] 101)
  exact hassign l x W K (by rw [← hr];simp) (hK _ _ tb.2.2 ⟨_,_,tb.1,tb.2.1,rfl⟩)
 ·rintro l r pre x O1 a' W' W2 h1 h2 h3 ⟨b1,b2,k1,k2,rfl⟩ ⟨r0,h5⟩ h6 h7 h8 h9
  refine hbody l r pre x O1 b1 b2 W2 h1 h2 ?_ ?_ h7 h8 h9
  ·exact (h6.blk _ (fun e => by rw [e,h5] at k1;cases k1)).trans k1
  ·exact (h6.blk _ (fun e => by rw [e,h5] at k2;cases k2)).trans k2
theorem range_plain {α:Type} {n m:Nat} {g:Operand} {ps:Array Tmp} {assign body:Code} {Q:Exit→Act→World→Prop} {a:Act} {w:World} {l₀:Nat} {r₀:Loop} (hl₀:w.heap[l₀]? = some (.loop r₀)) {gf:Nat} {lb:Array Value} (hg:a.eval g = .func (.func gf) #[] lb) (eg:∀ args w,(callFunc gf args).run Tryz.prog w = .ok (.enter gf args) w)
  {encs:α→Array Value} {xs:List α} {R:Nat→Prop} (hseq:SeqOf Tryz.prog gf lb encs xs R w) (hps:∀ x,(encs x).size = ps.size) (O:Nat→Prop) (hR:∀ k,R k→k < w.heap.size∧¬ O k)
  (I:List α→(Nat→Prop)→World→Prop) (hloc:∀ pre,Local w.heap.size (I pre)) (h0:I [] O w) (ins:Array Value→α→Array Value)
  (hassign:∀ l x W (K:Act→World→Prop),K { tmps:=ins a.tmps x,defers:=[] } W →
   assign.wpIn (Fence.wide.inRound l) m Tryz.prog (Exit.then K (fun _ _ _ => False)) { tmps:=(ps.zip (encs x)).foldl (fun t (p,v) => t.setIfInBounds p v) a.tmps,defers:=[] } W)
  (hbody:∀ l pre x O1 W2,w.heap.size ≤ l→pre ++ [x] <+: xs→I pre O1 W2→Turn O w W2 O1 →
   body.wpIn (Fence.wide.inRound l) m Tryz.prog (goesOn I (pre ++ [x]) O1 W2) { tmps:=ins a.tmps x,defers:=[] } W2)
  (hdone:∀ O' W',I xs O' W'→Turn O w W' O'→Q .normal a W') :
  (Code.rangeFunc g ps assign body).wpIn (Fence.wide.inRound l₀) n Tryz.prog Q a w:=by
 refine range_inner (m:=m) hl₀ hg eg hseq hps O hR I hloc h0 (fun x a' _ => a' = { tmps:=ins a.tmps x,defers:=[] }) ?_ ?_ hdone
 ·intro l pre x O1 W K _ _ hK
  exact hassign l x W K (hK _ _ (Below.refl _ _) rfl)
 ·rintro l r pre x O1 a' W' W2 h1 h2 h3 rfl _ _ _ h8 h9
  exact hbody l pre x O1 W2 h1 h2 h8 h9
end Go.Proofs.YtdcbgfhkfmohiaaGreatDoor
