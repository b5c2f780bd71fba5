/- A range over a function whose rounds never leave early: a law told by who may turn which blocks. -/
import Derived.Test.YtdcbgfhkfmohiaaGreatDoorAl01
import Derived.Test.YtdcbgfhkfmohiaaGreatDoorProg
import Derived.RangeFuncNested
import Derived.RangeFuncBound
import Derived.RangeFuncCalls
import Derived.RangeFuncLeaves
import Derived.Shelf.Abstract
import Derived.Shelf.RegionOpen
import Derived.OwnWalkIn
import Derived.TacticsInMore
import Derived.LoopNIn
import Derived.LoopIn
import Derived.Lib.Builder
import Derived.Lib.AppendStr
import Derived.Lib.UnsafeStr
import Derived.Lib.Strings
import Derived.Lib.Walk
import Derived.Laws.Externs
namespace Go.Proofs.YtdcbgfhkfmohiaaGreatDoor
open Go.RowKit
structure Turn (O:Nat→Prop) (W W' : World) (O' : Nat→Prop):Prop where
 os:W'.os = W.os
 tape:W'.tape = W.tape
 output:W'.output = W.output
 size:W.heap.size ≤ W'.heap.size
 blk:∀ k,k < W.heap.size→¬ O k→W'.heap[k]? = W.heap[k]?
 own:∀ k,O' k→O k∨W.heap.size ≤ k
theorem Turn.refl (O:Nat→Prop) (W:World):Turn O W W O:=⟨rfl,rfl,rfl,Nat.le_refl _,fun _ _ _ => rfl,fun _ h => .inl h⟩
theorem Turn.trans {O O1 O2:Nat→Prop} {A B C:World} (h:Turn O A B O1) (k:Turn O1 B C O2):Turn O A C O2 where
 os:=k.os.trans h.os
 tape:=k.tape.trans h.tape
 output:=k.output.trans h.output
 size:=Nat.le_trans h.size k.size
 blk:=fun i hi hn => (k.blk i (Nat.lt_of_lt_of_le hi h.size) (fun ho => (h.own i ho).elim hn (fun h2 => by omega))).trans (h.blk i hi hn)
 own:=fun i hi => (k.own i hi).elim (fun h2 => h.own i h2) (fun h2 => .inr (Nat.le_trans h.size h2))
theorem Turn.of_below {O:Nat→Prop} {A B:World} (h:Below A.heap.size A B):Turn O A B O:=⟨h.os,h.tape,h.output,h.size,fun k hk _ => h.block k hk,fun _ h => .inl h⟩
theorem Turn.free {O O' : Nat→Prop} {A B:World} (h:Turn O A B O') {k:Nat} (hk:k < A.heap.size) (hn:¬ O k):¬ O' k:=fun ho => (h.own k ho).elim hn (fun h2 => by omega)
structure Local (b:Nat) (J:(Nat→Prop)→World→Prop):Prop where
 keep:∀ O W W',J O W→W'.os = W.os→W'.tape = W.tape→W'.output = W.output→W.heap.size ≤ W'.heap.size→(∀ k,O k∨k < b→W'.heap[k]? = W.heap[k]?)→J O W'
 lt:∀ O W,J O W→b ≤ W.heap.size∧∀ k,O k→k < W.heap.size
theorem Local.mono {b b' : Nat} {J:(Nat→Prop)→World→Prop} (h:Local b J) (hb:b ≤ b'):Local b' fun O W => J O W∧b' ≤ W.heap.size :=
 ⟨fun O W W' hj h1 h2 h3 h4 h5 => ⟨h.keep O W W' hj.1 h1 h2 h3 h4 (fun k hk => h5 k (hk.imp id fun h => by omega)),by omega⟩,fun O W hj => ⟨hj.2,(h.lt O W hj.1).2⟩⟩
theorem Local.below {b:Nat} {J:(Nat→Prop)→World→Prop} (h:Local b J) {O:Nat→Prop} {A B:World} (hj:J O A) (hb:Below A.heap.size A B):J O B :=
 h.keep O A B hj hb.os hb.tape hb.output hb.size fun k hk => hb.block k (hk.elim (fun h1 => (h.lt O A hj).2 k h1) (fun h1 => Nat.lt_of_lt_of_le h1 (h.lt O A hj).1))
theorem Local.put {b:Nat} {J:(Nat→Prop)→World→Prop} (h:Local b J) {O:Nat→Prop} {A:World} (hj:J O A) {l:Nat} (hl:¬ O l) (hb:b ≤ l) (o:Obj):J O (A.putObj l o) :=
 h.keep O A _ hj rfl rfl rfl (by simp) fun k hk => World.putObj_heap_other (fun e => hk.elim (fun h1 => hl (e ▸ h1)) (fun h1 => by omega))
theorem roomW (k:Nat):Fence.wide.room k:=fun d h => by cases h
theorem round_any {m m' : Nat} {P:Program} {l:Nat} {f:FuncId} {tmps:Array Value} {assign body:Code} {w:World} {R:Ending→World→Prop}
  (h:RoundIn Fence.wide m P l f tmps assign body w R):RoundIn Fence.wide m' P l f tmps assign body w R:=⟨h.1,fun c cs _ => h.2 c cs (roomW _)⟩
def SeqOf {α:Type} (P:Program) (g:Nat) (lb:Array Value) (encs:α→Array Value) (xs:List α) (R:Nat→Prop) (w:World):Prop :=
 ∀ (n m l:Nat) (J:List α→(Nat→Prop)→World→Prop) (O:Nat→Prop) (W:World),w.heap.size ≤ W.heap.size→(∀ k,R k→k < w.heap.size∧W.heap[k]? = w.heap[k]?∧¬ O k)→(∀ pre,Local W.heap.size (J pre)) →
  (∀ pre x O1 W1,J pre O1 W1→pre ++ [x] <+: xs→YieldAt Fence.wide m P l (encs x) W1 fun e W' => e = .returned (.bool true)∧∃ O',J (pre ++ [x]) O' W'∧Turn O1 W1 W' O') →
  J [] O W→CallsIn Fence.wide n P g (#[.func (.yield l) #[] #[]] ++ lb) W fun e W' => (∃ v,e = .returned v)∧∃ O',J xs O' W'∧Turn O W W' O'
structure Only (l:Nat) (A B:World):Prop where
 os:B.os = A.os
 tape:B.tape = A.tape
 output:B.output = A.output
 size:B.heap.size = A.heap.size
 blk:∀ k,k ≠ l→B.heap[k]? = A.heap[k]?
theorem Only.put (l:Nat) (A:World) (o:Obj):Only l A (A.putObj l o):=⟨rfl,rfl,rfl,by simp,fun _ hk => World.putObj_heap_other hk⟩
def goesOn {α:Type} (I:List α→(Nat→Prop)→World→Prop) (xs:List α) (O:Nat→Prop) (W:World):Exit→Act→World→Prop
 | .normal,_,W' => ∃ O',I xs O' W'∧Turn O W W' O'
 | _,_,_ => False
theorem range_core {α:Type} {P:Program} {gf:Nat} {lb:Array Value} {encs:α→Array Value} {xs:List α} {R:Nat→Prop} {w0 W1:World} (hseq:SeqOf P gf lb encs xs R w0) (n m l b:Nat) (r:Loop)
  (hl:W1.heap[l]? = some (.loop r)) (hrs:r.state = .ready) (hrp:r.pending = none) (hrf:Fence.wide.fn r.fn) (hps:∀ x,(encs x).size = r.params.size) (O:Nat→Prop) (hsz:w0.heap.size ≤ W1.heap.size) (hR:∀ k,R k→k < w0.heap.size∧W1.heap[k]? = w0.heap[k]?∧¬ O k∧k ≠ l) (hlO:¬ O l)
  (hb:b ≤ l) (I:List α→(Nat→Prop)→World→Prop) (hloc:∀ pre,Local b (I pre)) (h0:I [] O W1) (Ax:α→Act→World→Prop)
  (hassign:∀ pre x O1 W (K:Act→World→Prop),pre ++ [x] <+: xs→I pre O1 W→(∀ a' W',Below W.heap.size W W'→Ax x a' W'→K a' W') →
   r.assign.wpIn (Fence.wide.inRound l) m P (Exit.then K (fun _ _ _ => False)) { tmps:=(r.params.zip (encs x)).foldl (fun t (p,v) => t.setIfInBounds p v) r.tmps,defers:=[] } W)
  (hbody:∀ pre x O1 a' W' W2,pre ++ [x] <+: xs→¬ O1 l→Ax x a' W'→W'.heap[l]? = some (.loop r)→Only l W' W2→W2.heap[l]? = some (.loop { r with state:=.busy })→I pre O1 W2→Turn (fun k => O k∨k = l) W1 W2 (fun k => O1 k∨k = l) →
   r.body.wpIn (Fence.wide.inRound l) m P (goesOn I (pre ++ [x]) O1 W2) a' W2) :
  CallsIn Fence.wide n P gf (#[.func (.yield l) #[] #[]] ++ lb) W1 fun e W' => (∃ v,e = .returned v)∧∃ O',I xs O' W'∧¬ O' l∧W'.heap[l]? = some (.loop r)∧Turn (fun k => O k∨k = l) W1 W' (fun k => O' k∨k = l):=by
 have hl1:l < W1.heap.size:=(Array.getElem?_eq_some_iff.1 hl).1
 refine (hseq n m l (fun pre Oj W => ∃ O1,I pre O1 W∧¬ O1 l∧Oj = (fun k => O1 k∨k = l)∧W.heap[l]? = some (.loop r)∧Turn (fun k => O k∨k = l) W1 W Oj) (fun k => O k∨k = l) W1 hsz
  (fun k hk => ⟨(hR k hk).1,(hR k hk).2.1,fun h => h.elim (hR k hk).2.2.1 (hR k hk).2.2.2⟩) ?_ ?_ ⟨O,h0,hlO,rfl,hl,Turn.refl _ _⟩).mono ?_
 ·intro pre
  refine ⟨?_,?_⟩
  ·rintro Oj W W' ⟨O1,hi,hn,rfl,hlw,ht⟩ h1 h2 h3 h4 h5
   exact ⟨O1,(hloc pre).keep O1 W W' hi h1 h2 h3 h4 (fun k hk => h5 k (hk.imp .inl fun h => by omega)),hn,rfl,(h5 l (.inl (.inr rfl))).trans hlw,
    ⟨h1.trans ht.os,h2.trans ht.tape,h3.trans ht.output,Nat.le_trans ht.size h4,fun k hk hno => (h5 k (.inr hk)).trans (ht.blk k hk hno),ht.own⟩⟩
  ·rintro Oj W ⟨O1,hi,hn,rfl,hlw,ht⟩
   refine ⟨ht.size,?_⟩
   rintro k (hk | rfl)
   ·exact ((hloc pre).lt O1 W hi).2 k hk
   ·exact (Array.getElem?_eq_some_iff.1 hlw).1
 ·rintro pre x Oj W ⟨O1,hi,hn,rfl,hlw,ht⟩ hx
  have hy:=run_yield (P:=P) (args:=encs x) hlw (hps x)
  refine ⟨_,_,_,_,hy,roundIn_of_wpIn hrf (hassign pre x O1 W _ hx hi ?_)⟩
  intro a' Wa hba hax
  have hlt:l < W.heap.size:=(Array.getElem?_eq_some_iff.1 hlw).1
  have hla:Wa.heap[l]? = some (.loop r):=(hba.block l hlt).trans hlw
  have hlta:l < Wa.heap.size:=(Array.getElem?_eq_some_iff.1 hla).1
  refine ⟨_,run_beginRound hla hrs,?_⟩
  have hl2:(Wa.putObj l (.loop { r with state:=.busy })).heap[l]? = some (.loop { r with state:=.busy }):=World.putObj_heap_same hlta
  have hi2:I pre O1 (Wa.putObj l (.loop { r with state:=.busy })):=(hloc pre).put ((hloc pre).below hi hba) hn hb _
  have ht2:Turn (fun k => O1 k∨k = l) W (Wa.putObj l (.loop { r with state:=.busy })) (fun k => O1 k∨k = l) :=
   ⟨hba.os,hba.tape,hba.output,by have:=hba.size;simpa using this,fun k hk hno => (World.putObj_heap_other (fun e => hno (.inr e))).trans (hba.block k hk),fun k hk => .inl hk⟩
  refine wpIn_mono (hbody pre x O1 a' Wa _ hx hn hax hla (Only.put _ _ _) hl2 hi2 (ht.trans ht2)) ?_
  rintro e a3 W3 hp
  cases e with
  | normal =>
   obtain ⟨O',hi3,ht3⟩:=hp
   have hl3:W3.heap[l]? = some (.loop { r with state:=.busy }):=(ht3.blk l (by simpa using hlta) hn).trans hl2
   have hn3:¬ O' l:=ht3.free (by simpa using hlta) hn
   have hlt3:l < W3.heap.size:=(Array.getElem?_eq_some_iff.1 hl3).1
   have he:=run_endRound (P:=P) none hl3
   have er:({ ({ r with state:=.busy }:Loop) with state:=if (none:Option Code).isNone then .ready else .done,pending:=none }:Loop) = r:=by
    cases r;simp at hrs hrp ⊢;exact ⟨hrs.symm,hrp.symm⟩
   rw [er] at he
   refine ⟨_,_,he,rfl,fun k => O' k∨k = l,⟨O',(hloc _).put hi3 hn3 hb _,hn3,rfl,World.putObj_heap_same hlt3,?_⟩,?_⟩
   all_goals
    have ht4:Turn (fun k => O1 k∨k = l) (Wa.putObj l (.loop { r with state:=.busy })) (W3.putObj l (.loop r)) (fun k => O' k∨k = l) :=
     ⟨ht3.os,ht3.tape,ht3.output,by have:=ht3.size;simpa using this,fun k hk hno => (World.putObj_heap_other (fun e => hno (.inr e))).trans (ht3.blk k hk (fun h => hno (.inl h))),fun k hk => hk.elim (fun h => (ht3.own k h).imp .inl id) (fun h => .inl (.inr h))⟩
   ·exact (ht.trans ht2).trans ht4
   ·exact ht2.trans ht4
  | ret => exact hp.elim
  | exit id => exact hp.elim
  | goto t => exact hp.elim
  | panic ch => exact hp.elim
  | outgrown => exact hp.elim
 ·rintro e W' ⟨hv,O',⟨O1,hi,hn,rfl,hlw,_⟩,ht⟩
  exact ⟨hv,O1,hi,hn,hlw,ht⟩

open Go.RowKit
theorem range_outer {α:Type} {P:Program} {n m:Nat} {g:Operand} {ps:Array Tmp} {assign body:Code} {Q:Exit→Act→World→Prop} {a:Act} {w:World} {gf:Nat} {lb:Array Value} (hg:a.eval g = .func (.func gf) #[] lb) (eg:∀ args w,(callFunc gf args).run P w = .ok (.enter gf args) w)
  {encs:α→Array Value} {xs:List α} {R:Nat→Prop} (hseq:SeqOf P gf lb encs xs R w) (hps:∀ x,(encs x).size = ps.size) (O:Nat→Prop) (hR:∀ k,R k→k < w.heap.size∧¬ O k)
  (I:List α→(Nat→Prop)→World→Prop) (hloc:∀ pre,Local w.heap.size (I pre)) (h0:I [] O w) (Ax:α→Act→World→Prop)
  (hassign:∀ l pre x O1 W (K:Act→World→Prop),pre ++ [x] <+: xs→I pre O1 W→(∀ a' W',Below W.heap.size W W'→Ax x a' W'→K a' W') →
   assign.wpIn (Fence.wide.inRound l) m P (Exit.then K (fun _ _ _ => False)) { tmps:=(ps.zip (encs x)).foldl (fun t (p,v) => t.setIfInBounds p v) a.tmps,defers:=[] } W)
  (hbody:∀ l r pre x O1 a' W' W2,w.heap.size ≤ l→pre ++ [x] <+: xs→¬ O1 l→Ax x a' W'→(∃ r0,W'.heap[l]? = some (.loop r0))→Only l W' W2→W2.heap[l]? = some (.loop r)→I pre O1 W2→Turn O w W2 O1 →
   body.wpIn (Fence.wide.inRound l) m P (goesOn I (pre ++ [x]) O1 W2) a' W2)
  (hdone:∀ D O' W',w.heap.size ≤ D→I xs O' W'→¬ O' D→Turn O w W' O'→W'.heap[D]? = some (.deferred (some []))→Q .normal { a with defers:={ target:=.collected D,args:=#[] } :: a.defers } W') :
  (Code.rangeFunc g ps assign body).wpIn Fence.wide n P Q a w:=by
 refine wpIn_rangeFunc ?_
 intro fn hfn
 obtain ⟨r,hr⟩ : ∃ r:Loop,r = { state:=.ready,pending:=none,fn,tmps:=a.tmps,params:=ps,assign,body,defers:=w.heap.size }:=⟨_,rfl⟩
 obtain ⟨W1,hW1⟩ : ∃ W1,(w.alloc (.deferred (some []))).alloc (.loop r) = W1:=⟨_,rfl⟩
 have hlt:∀ k,O k→k < w.heap.size:=((hloc []).lt O w h0).2
 have hL:W1.heap[w.heap.size + 1]? = some (.loop r):=by
  rw [← hW1];have:=World.alloc_heap_new (w.alloc (.deferred (some []))) (.loop r);rwa [World.size_alloc] at this
 have hD:W1.heap[w.heap.size]? = some (.deferred (some [])):=by
  rw [← hW1];exact (Below.heap_alloc _ _ _ (by simp)).trans (World.alloc_heap_new w _)
 have hb1:Below w.heap.size w W1:=by rw [← hW1];exact ((Below.refl _ w).alloc (Nat.le_refl _) _).alloc (by simp) _
 have hs1:W1.heap.size = w.heap.size + 2:=by rw [← hW1];simp
 have turn:∀ {W2 O1},Turn (fun k => O k∨k = w.heap.size + 1) W1 W2 (fun k => O1 k∨k = w.heap.size + 1)→Turn O w W2 O1:=fun h =>
  ⟨h.os.trans hb1.os,h.tape.trans hb1.tape,h.output.trans hb1.output,by have:=h.size;omega,fun k hk hn => (h.blk k (by omega) (fun h2 => h2.elim hn (by omega))).trans (hb1.block k hk),fun k hk => (h.own k (.inl hk)).elim (fun h2 => h2.imp id (by omega)) (fun h2 => .inr (by omega))⟩
 refine ⟨w.heap.size + 1,[{ target:=.collected w.heap.size,args:=#[] }],W1,{ target:=.fn (.func gf) lb,args:=#[.func (.yield (w.heap.size + 1)) #[] #[]] },W1,gf,#[.func (.yield (w.heap.size + 1)) #[] #[]] ++ lb,W1,?_,?_,?_,?_,fun h => (by cases h),?_⟩
 ·rw [← hW1,hr];exact run_enterLoop_outer _ _ _ _ _
 ·simp only [resolve,hg]
  simp [go_sem]
 ·intro f' _;trivial
 ·simp [invoke,go_sem,eg]
 ·refine (range_core hseq (n - 1) m (w.heap.size + 1) w.heap.size r hL (by rw [hr]) (by rw [hr]) trivial (by rw [hr];exact hps) O (by omega) (fun k hk => ⟨(hR k hk).1,hb1.block k (hR k hk).1,(hR k hk).2,by have:=(hR k hk).1;omega⟩) (fun h => by have:=hlt _ h;omega) (by omega) I hloc ((hloc []).below h0 hb1) Ax ?_ ?_).mono ?_
  ·intro pre x O1 W K hx hi hK
   rw [hr]
   exact hassign _ pre x O1 W K hx hi hK
  ·intro pre x O1 a' W' W2 h1 h2 h3 h3' h4 h5 h6 h7
   have:=hbody (w.heap.size + 1) _ pre x O1 a' W' W2 (by omega) h1 h2 h3 ⟨_,h3'⟩ h4 h5 h6 (turn h7)
   rw [hr]
   exact this
  ·rintro e W2 ⟨⟨v,rfl⟩,O',hi,hn,hl2,ht⟩
   refine ⟨none,_,by have:=run_endLoop (P:=P) hl2 (by rw [hr];simp);rw [hr] at this;exact this,?_⟩
   have hlt2:w.heap.size + 1 < W2.heap.size:=(Array.getElem?_eq_some_iff.1 hl2).1
   have hnD:¬ (O' w.heap.size):=fun h => by
    rcases ht.own _ (.inl h) with (h1 | h1) | h1
    ·have:=hlt _ h1;omega
    ·omega
    ·omega
   have hk2:W2.heap[w.heap.size]? = some (.deferred (some [])):=(ht.blk _ (by omega) (fun h => h.elim (fun h1 => by have:=hlt _ h1;omega) (by omega))).trans hD
   have t2:=turn ht
   refine hdone w.heap.size O' _ (Nat.le_refl _) ((hloc xs).put hi hn (by omega) _) hnD ?_ ((World.putObj_heap_other (by omega)).trans hk2)
   exact ⟨t2.os,t2.tape,t2.output,by have:=t2.size;simpa using this,fun k hk hno => (World.putObj_heap_other (by omega)).trans (t2.blk k hk hno),t2.own⟩
theorem range_inner {α:Type} {P:Program} {n m:Nat} {g:Operand} {ps:Array Tmp} {assign body:Code} {Q:Exit→Act→World→Prop} {a:Act} {w:World} {l₀:Nat} {r₀:Loop} (hl₀:w.heap[l₀]? = some (.loop r₀)) {gf:Nat} {lb:Array Value} (hg:a.eval g = .func (.func gf) #[] lb) (eg:∀ args w,(callFunc gf args).run P w = .ok (.enter gf args) w)
  {encs:α→Array Value} {xs:List α} {R:Nat→Prop} (hseq:SeqOf P gf lb encs xs R w) (hps:∀ x,(encs x).size = ps.size) (O:Nat→Prop) (hR:∀ k,R k→k < w.heap.size∧¬ O k)
  (I:List α→(Nat→Prop)→World→Prop) (hloc:∀ pre,Local w.heap.size (I pre)) (h0:I [] O w) (Ax:α→Act→World→Prop)
  (hassign:∀ l pre x O1 W (K:Act→World→Prop),pre ++ [x] <+: xs→I pre O1 W→(∀ a' W',Below W.heap.size W W'→Ax x a' W'→K a' W') →
   assign.wpIn (Fence.wide.inRound l) m P (Exit.then K (fun _ _ _ => False)) { tmps:=(ps.zip (encs x)).foldl (fun t (p,v) => t.setIfInBounds p v) a.tmps,defers:=[] } W)
  (hbody:∀ l r pre x O1 a' W' W2,w.heap.size ≤ l→pre ++ [x] <+: xs→¬ O1 l→Ax x a' W'→(∃ r0,W'.heap[l]? = some (.loop r0))→Only l W' W2→W2.heap[l]? = some (.loop r)→I pre O1 W2→Turn O w W2 O1 →
   body.wpIn (Fence.wide.inRound l) m P (goesOn I (pre ++ [x]) O1 W2) a' W2)
  (hdone:∀ O' W',I xs O' W'→Turn O w W' O'→Q .normal a W') :
  (Code.rangeFunc g ps assign body).wpIn (Fence.wide.inRound l₀) n P Q a w:=by
 refine wpIn_rangeFunc ?_
 intro fn hfn
 obtain ⟨r,hr⟩ : ∃ r:Loop,r = { state:=.ready,pending:=none,fn,tmps:=a.tmps,params:=ps,assign,body,defers:=r₀.defers }:=⟨_,rfl⟩
 obtain ⟨W1,hW1⟩ : ∃ W1,w.alloc (.loop r) = W1:=⟨_,rfl⟩
 have hlt:∀ k,O k→k < w.heap.size:=((hloc []).lt O w h0).2
 have hL:W1.heap[w.heap.size]? = some (.loop r):=by rw [← hW1];exact World.alloc_heap_new w _
 have hb1:Below w.heap.size w W1:=by rw [← hW1];exact (Below.refl _ w).alloc (Nat.le_refl _) _
 have hs1:W1.heap.size = w.heap.size + 1:=by rw [← hW1];simp
 have turn:∀ {W2 O1},Turn (fun k => O k∨k = w.heap.size) W1 W2 (fun k => O1 k∨k = w.heap.size)→Turn O w W2 O1:=fun h =>
  ⟨h.os.trans hb1.os,h.tape.trans hb1.tape,h.output.trans hb1.output,by have:=h.size;omega,fun k hk hn => (h.blk k (by omega) (fun h2 => h2.elim hn (by omega))).trans (hb1.block k hk),fun k hk => (h.own k (.inl hk)).elim (fun h2 => h2.imp id (by omega)) (fun h2 => .inr (by omega))⟩
 refine ⟨w.heap.size,[],W1,{ target:=.fn (.func gf) lb,args:=#[.func (.yield w.heap.size) #[] #[]] },W1,gf,#[.func (.yield w.heap.size) #[] #[]] ++ lb,W1,?_,?_,?_,?_,fun h => (by cases h),?_⟩
 ·rw [← hW1,hr];exact run_enterLoop_inner hl₀ _ _ _ _ _
 ·simp only [resolve,hg]
  simp [go_sem]
 ·intro f' _;trivial
 ·simp [invoke,go_sem,eg]
 ·refine CallsIn.mono (range_core hseq (n - 1) m w.heap.size w.heap.size r hL (by rw [hr]) (by rw [hr]) trivial (by rw [hr];exact hps) O (by omega) (fun k hk => ⟨(hR k hk).1,hb1.block k (hR k hk).1,(hR k hk).2,by have:=(hR k hk).1;omega⟩) (fun h => by have:=hlt _ h;omega) (Nat.le_refl _) I hloc ((hloc []).below h0 hb1) Ax ?_ ?_) ?_
  ·intro pre x O1 W K hx hi hK
   rw [hr]
   exact hassign _ pre x O1 W K hx hi hK
  ·intro pre x O1 a' W' W2 h1 h2 h3 h3' h4 h5 h6 h7
   have:=hbody w.heap.size _ pre x O1 a' W' W2 (Nat.le_refl _) h1 h2 h3 ⟨_,h3'⟩ h4 h5 h6 (turn h7)
   rw [hr]
   exact this
  ·rintro e W2 ⟨⟨v,rfl⟩,O',hi,hn,hl2,ht⟩
   refine ⟨none,_,by have:=run_endLoop (P:=P) hl2 (by rw [hr];simp);rw [hr] at this;exact this,?_⟩
   have t2:=turn ht
   refine hdone O' _ ((hloc xs).put hi hn (Nat.le_refl _) _) ?_
   exact ⟨t2.os,t2.tape,t2.output,by have:=t2.size;simpa using this,fun k hk hno => (World.putObj_heap_other (by omega)).trans (t2.blk k hk hno),t2.own⟩

open Go.RowKit
theorem append_block_string {P:Program} (w:World) (t u ty e:TypeId) (i:TypeInfo) (ht:P.underlying t = some (.slice e)) (hu:P.underlying u = some .string) (hi:P.info? e = some i) (hz:i.zero = some (.int .u8 0))
  (hsize:i.size = 1) (hby:i.bytes = 1) (base:Nat) (v:Value) (n:Nat) (xs:List Value) (hown:w.ownsRow base e 1 v n xs) (s:ByteArray)
  (h63:n + s.size ≤ maxLen) (hbytes:n + s.size ≤ 140737488355328) {v' : Value} {w' : World}
  (hr:(Builtin.append_ #[t,u] ty #[v,.string s]).run P w = .ok v' w'):∀ k,v'.ownBlock = some k→v.ownBlock = some k∨w.heap.size ≤ k:=by
 intro k hk
 have hxl:xs.length = n:=by simpa using hown.1
 have hm:n + s.size ≤ 9223372036854775807:=by simp only [maxLen] at h63;omega
 rcases hown.2 with ⟨rfl,rfl⟩ | ⟨g,cap,cur,rfl,hbg,hg,hnc,hcm,hcs,htake⟩
 ·obtain ⟨v2,w2,hr2,ho,_⟩:=Lib.run_append_own_string (P:=P) w w.heap.size t u ty e i ht hu hi hz hsize hby (.slice none 0 0) 0 [] (World.ownsRow_nil w _ e 1) s h63 hbytes (Nat.le_refl _)
  rw [hr] at hr2
  injection hr2 with h1 h2
  subst h1
  exact .inr (ho.lt k hk).1
 ·by_cases hroom:n + s.size ≤ cap
  ·have hr2:=Lib.run_append_room_string (P:=P) w t u ty e i ht hu hi hsize g n cap cur hg s hroom (by omega)
   rw [hr] at hr2
   injection hr2 with h1 h2
   subst h1
   exact .inl hk
  ·have holds:∀ j u,xs[j]? = some u→w.cell? ((⟨g,0,none⟩ : Addr).add j) = some u:=hown.cells (g:=g) rfl
   have hr2:=Lib.run_append_grow_string (P:=P) w t u ty e i (.int .u8 0) ht hu hi hz ⟨g,0,none⟩ n cap xs (by rw [hsize];simpa using hxl) holds s (by omega) (by omega) (by rw [hby];exact growslice_fits (by omega) (by omega))
   rw [hr] at hr2
   injection hr2 with h1 h2
   subst h1
   simp [Value.ownBlock] at hk
   exact .inr (by omega)
theorem append_block {P:Program} (w:World) (t ty e:TypeId) (i:TypeInfo) (z:Value) (ht:P.underlying t = some (.slice e)) (hi:P.info? e = some i) (hz:i.zero = some z)
  (hsize:i.size = 1) (hby:i.bytes = 1) (hzs:z.cells.size = 1) (base:Nat) (v:Value) (n:Nat) (xs:List Value) (hown:w.ownsRow base e 1 v n xs)
  (a:Addr) (m c:Nat) (news:List Value) (hl:news.length = m) (hnews:∀ j u,news[j]? = some u→w.cell? (a.add j) = some u) (h1:∀ u ∈ news,u.oneCell' = true)
  (h63:n + m ≤ maxLen) (hbytes:n + m ≤ 140737488355328) {v' : Value} {w' : World}
  (hr:(Builtin.append_ #[t,t] ty #[v,.slice (some a) m c]).run P w = .ok v' w'):∀ k,v'.ownBlock = some k→v.ownBlock = some k∨w.heap.size ≤ k:=by
 intro k hk
 have hxl:xs.length = n:=by simpa using hown.1
 have hm:n + m ≤ 9223372036854775807:=by simp only [maxLen] at h63;omega
 rcases hown.2 with ⟨rfl,rfl⟩ | ⟨g,cap,cur,rfl,hbg,hg,hnc,hcm,hcs,htake⟩
 ·obtain ⟨v2,w2,hr2,ho,_⟩:=run_append_own (P:=P) w w.heap.size t ty e i z 1 1 ht hi hz hsize hby hzs (by omega) (.slice none 0 0) 0 [] (World.ownsRow_nil w _ e 1) a m c news (by omega) hnews h1 h63 (by omega) (Nat.le_refl _)
  rw [hr] at hr2
  injection hr2 with h1 h2
  subst h1
  exact .inr (ho.lt k hk).1
 ·by_cases hroom:n + m ≤ cap
  ·have hr2:=run_append_room (P:=P) w t ty e i ht hi g n cap cur hg a m c news (by rw [hsize];omega) hnews h1 hroom (by rw [hsize];omega)
   rw [hr] at hr2
   injection hr2 with h1 h2
   subst h1
   exact .inl hk
  ·have holds:∀ j u,xs[j]? = some u→w.cell? ((⟨g,0,none⟩ : Addr).add j) = some u:=hown.cells (g:=g) rfl
   have hr2:=run_append_grow (P:=P) w t ty e i z ht hi hz ⟨g,0,none⟩ n cap xs (by rw [hsize];omega) holds a m c news (by rw [hsize];omega) hnews (by omega) (by omega) (by rw [hby];exact growslice_fits (by omega) (by omega))
   rw [hr] at hr2
   injection hr2 with h1 h2
   subst h1
   simp [Value.ownBlock] at hk
   exact .inr (by omega)
theorem wpList_append_bytes {P:Program} {w:World} {ops:Array Oper} {rest:List Oper} {o:Oper} {a:Act} {Q:Exit→Act→World→Prop} (hgd:o.guard = none) (sl x:Operand) (t u:TypeId)
  (ho:o.op = .call { callee:=.builtin .append,args:=#[sl,x],argTypes:=#[t,u] })
  (base:Nat) (e:TypeId) (i:TypeInfo) (ht:P.underlying t = some (.slice e)) (hu:P.underlying u = some .string) (hi:P.info? e = some i) (hz:i.zero = some (.int .u8 0))
  (hsize:i.size = 1) (hby:i.bytes = 1)
  (v:Value) (n:Nat) (xs:List Value) (hs:a.eval sl = v) (hown:w.ownsRow base e 1 v n xs) (s:ByteArray) (hx:a.eval x = .string s)
  (h63:n + s.size ≤ maxLen) (hbytes:n + s.size ≤ 140737488355328) (hbase:base ≤ w.heap.size)
  (h:∀ v' w',w'.ownsRow base e 1 v' (n + s.size) (xs ++ Lib.strCells s)→w.grownBy w' v.ownBlock→(v' = .slice none 0 0 ↔ v = .slice none 0 0∧s.size = 0)→(∀ k,v'.ownBlock = some k→v.ownBlock = some k∨w.heap.size ≤ k)→wpList P ops Q rest (a.put o.dst v') w'):wpList P ops Q (o :: rest) a w:=by
 refine wpList_plain hgd fun K hK => ?_
 obtain ⟨v',w',hr,h2,h3,h4⟩:=Lib.run_append_own_string (P:=P) w base t u o.type e i ht hu hi hz hsize hby v n xs hown s h63 hbytes hbase
 have h5:=append_block_string w t u o.type e i ht hu hi hz hsize hby base v n xs hown s h63 hbytes hr
 unfold Oper.wp execOp
 simp only [ho,resolve,invoke,builtin,Sem.run_bind,Sem.run_pure,Result.andThen_ok,List.map_toArray,List.map_cons,List.map_nil,hs,hx,hr]
 exact hK _ _ (h v' w' h2 h3 h4 h5)
theorem wpList_append_one {P:Program} {w:World} {ops:Array Oper} {rest:List Oper} {o:Oper} {a:Act} {Q:Exit→Act→World→Prop} (hgd:o.guard = none) (s x:Operand) (t:TypeId)
  (ho:o.op = .call { callee:=.builtin .append,args:=#[s,x],argTypes:=#[t,t] })
  (base:Nat) (e:TypeId) (i:TypeInfo) (z:Value) (ht:P.underlying t = some (.slice e)) (hi:P.info? e = some i) (hz:i.zero = some z)
  (hsize:i.size = 1) (hby:i.bytes = 1) (hzs:z.cells.size = 1)
  (v:Value) (n:Nat) (xs:List Value) (hs:a.eval s = v) (hown:w.ownsRow base e 1 v n xs)
  (ad:Addr) (m c:Nat) (news:List Value) (hx:a.eval x = .slice (some ad) m c) (hl:news.length = m) (hnews:∀ j u,news[j]? = some u→w.cell? (ad.add j) = some u) (h1:∀ u ∈ news,u.oneCell' = true)
  (h63:n + m ≤ maxLen) (hbytes:n + m ≤ 140737488355328) (hbase:base ≤ w.heap.size)
  (h:∀ v' w',w'.ownsRow base e 1 v' (n + m) (xs ++ news)→w.grownBy w' v.ownBlock→(v' = .slice none 0 0 ↔ v = .slice none 0 0∧m = 0)→(∀ k,v'.ownBlock = some k→v.ownBlock = some k∨w.heap.size ≤ k)→wpList P ops Q rest (a.put o.dst v') w'):wpList P ops Q (o :: rest) a w:=by
 refine wpList_plain hgd fun K hK => ?_
 obtain ⟨v',w',hr,h2,h3,h4⟩:=run_append_own (P:=P) w base t o.type e i z 1 1 ht hi hz hsize hby hzs (by omega) v n xs hown ad m c news (by omega) hnews h1 h63 (by omega) hbase
 have h5:=append_block w t o.type e i z ht hi hz hsize hby hzs base v n xs hown ad m c news hl hnews h1 h63 hbytes hr
 unfold Oper.wp execOp
 simp only [ho,resolve,invoke,builtin,Sem.run_bind,Sem.run_pure,Result.andThen_ok,List.map_toArray,List.map_cons,List.map_nil,hs,hx,hr]
 exact hK _ _ (h v' w' h2 h3 h4 h5)

open Go.RowKit
theorem Tryz.sizeBuilder:(Tryz.prog.info? 94).map (·.size) = some 2:=by kernel_rfl
theorem Tryz.liesBuilder:liesAt Tryz.prog Tryz.prog.depth 94 (2 / Tryz.prog.cellsOf 94) 0 94 1 = true:=by kernel_rfl
theorem Tryz.infoByte:(Tryz.prog.info? 5).map (fun i => (i.zero,i.size,i.bytes)) = some (some (.int .u8 0),1,1):=by kernel_rfl
theorem Tryz.cellsByte:Tryz.prog.cellsOf 5 = 1:=by kernel_rfl
def Bld (b:Nat) (l:Str) (O:Nat→Prop) (w:World):Prop :=
 ∃ p v,w.heap[b]? = some (.cells #[p,v] 94 (0,0))∧(p = .pointer none∨p = .pointer (some ⟨b,0,none⟩))∧w.ownsRow b 5 1 v l.length (Lib.byteCells l)∧(l = []→v = .slice none 0 0)∧O = (fun k => k = b∨v.ownBlock = some k)
theorem Bld.lt {b:Nat} {l:Str} {O:Nat→Prop} {w:World} (h:Bld b l O w):∀ k,O k→b ≤ k∧k < w.heap.size:=by
 obtain ⟨p,v,hb,_,hown,_,rfl⟩:=h
 rintro k (rfl | hk)
 ·exact ⟨Nat.le_refl _,(Array.getElem?_eq_some_iff.1 hb).1⟩
 ·exact hown.lt k hk
theorem Bld.keep {b:Nat} {l:Str} {O:Nat→Prop} {w w' : World} (h:Bld b l O w) (hk:∀ k,O k→w'.heap[k]? = w.heap[k]?):Bld b l O w':=by
 obtain ⟨p,v,hb,hp,hown,h0,rfl⟩:=h
 refine ⟨p,v,(hk b (.inl rfl)).trans hb,hp,⟨hown.1,?_⟩,h0,rfl⟩
 rcases hown.2 with hn | ⟨g,cap,cur,hv,hbg,hg,rest⟩
 ·exact .inl hn
 ·exact .inr ⟨g,cap,cur,hv,hbg,(hk g (.inr (by rw [hv];rfl))).trans hg,rest⟩
theorem Bld.local (B b:Nat) (l:Str) (hB:B ≤ b):Local B fun O w => Bld b l O w :=
 ⟨fun O W W' h _ _ _ _ hk => h.keep fun k ho => hk k (.inl ho),fun O W h => ⟨by have:=h.lt b (by obtain ⟨p,v,_,_,_,_,rfl⟩:=h;exact .inl rfl);omega,fun k hk => (h.lt k hk).2⟩⟩
theorem Bld.new {b:Nat} {w:World} (hb:w.heap[b]? = some (.cells #[.pointer none,.slice none 0 0] 94 (0,0))):Bld b [] (fun k => k = b) w :=
 ⟨_,_,hb,.inl rfl,World.ownsRow_nil w b 5 1,fun _ => rfl,by simp [Value.ownBlock]⟩
set_option maxHeartbeats 1000000 in
set_option maxRecDepth 100000 in
theorem copyCheck_any (b:Nat) (p v:Value) (w:World) (hb:w.heap[b]? = some (.cells #[p,v] 94 (0,0))) (hp:p = .pointer none∨p = .pointer (some ⟨b,0,none⟩)) :
  Calls Tryz.prog 76 #[.pointer (some ⟨b,0,none⟩)] w fun e w' => e = .returned (.tuple #[])∧((p = .pointer none∧w' = w.setCell ⟨b,0,none⟩ (.pointer (some ⟨b,0,none⟩)))∨(p = .pointer (some ⟨b,0,none⟩)∧w' = w)):=by
 obtain ⟨j,hj,hjs⟩:=Option.map_eq_some_iff.1 Tryz.sizeBuilder
 have hc:w.cell? ⟨b,0,none⟩ = some p:=by rw [Lib.cell_of_heap hb];rfl
 rcases hp with rfl | rfl
 ·have hsh:w.shape? b = some (94,2):=by simp [World.shape?,hb]
  have hfz:w.frozen? ⟨b,0,none⟩ = false:=Lib.frozen_of_heap hb 0
  clear hb
  go_enter Tryz.func76,Tryz.ntmps76
  go_wp2
  rw [Lib.run_to_unsafe w ⟨b,0,none⟩ (by kernel_rfl) (by kernel_rfl) hj (by rw [hjs];decide) hsh (Nat.zero_lt_succ 1)]
  simp only [Result.andThen]
  rw [Oper.upon_value]
  go_wp2
  rw [run_callFunc_extern Tryz.func109 (by kernel_rfl) (by kernel_rfl) (by kernel_rfl) (e:=Extern.AbiNoEscape.same) (by kernel_rfl)]
  rw [Lib.run_noEscape]
  simp only [Result.andThen]
  rw [Oper.upon_value]
  go_wp2
  rw [Lib.run_from_unsafe w ⟨b,0,none⟩ (by kernel_rfl) (by kernel_rfl) hj hsh Tryz.liesBuilder]
  simp only [Result.andThen]
  rw [Oper.upon_value]
  go_wp2
  go_end0
  exact ⟨rfl,.inl ⟨trivial,rfl⟩⟩
 ·clear hb
  go_enter Tryz.func76,Tryz.ntmps76
  go_wp2
  rw [Lib.run_neq_ptr_same w _ (by kernel_rfl) hj]
  go_wp2
  go_end0
  exact ⟨rfl,.inr ⟨trivial,rfl⟩⟩
theorem Bld.checked {b:Nat} {l:Str} {O:Nat→Prop} {w:World} (h:Bld b l O w) :
  Calls Tryz.prog 76 #[.pointer (some ⟨b,0,none⟩)] w fun e w' => e = .returned (.tuple #[])∧Turn O w w' O ∧
   ∃ v,w'.heap[b]? = some (.cells #[.pointer (some ⟨b,0,none⟩),v] 94 (0,0))∧w'.ownsRow b 5 1 v l.length (Lib.byteCells l)∧(l = []→v = .slice none 0 0)∧O = (fun k => k = b∨v.ownBlock = some k):=by
 obtain ⟨p,v,hb,hp,hown,h0,rfl⟩:=h
 refine (copyCheck_any b p v w hb hp).mono ?_
 rintro e w' ⟨rfl,⟨rfl,rfl⟩ | ⟨rfl,rfl⟩⟩
 ·refine ⟨rfl,?_⟩
  have hne:=Lib.ownBlock_ne hown hb (by decide)
  refine ⟨⟨rfl,rfl,rfl,by simp [World.setCell],fun k hk hn => Below.heap_setCell _ _ _ _ (fun e => hn (.inl e)),fun k hk => .inl hk⟩,v,?_,?_,h0,rfl⟩
  ·simp [World.setCell,Array.getElem?_modify,hb]
  ·refine hown.kept (row:=some b) ⟨rfl,rfl,rfl,by simp [World.setCell],fun k _ hk => Below.heap_setCell _ _ _ _ (fun e => hk (by simp [e]))⟩ (Or.inr hne)
 ·refine ⟨rfl,?_⟩
  exact ⟨Turn.refl _ _,v,hb,hown,h0,rfl⟩
theorem Bld.put {b:Nat} {l' : Str} {v v' : Value} {A w:World} {O:Nat→Prop} (hO:O = (fun k => k = b∨v.ownBlock = some k)) (hA:b < A.heap.size)
  (hb:w.heap[b]? = some (.cells #[.pointer (some ⟨b,0,none⟩),v] 94 (0,0))) (hown:w.ownsRow b 5 1 v' l'.length (Lib.byteCells l')) (h0:l' = []→v' = .slice none 0 0)
  (hg:∀ k,k < A.heap.size→k ≠ b→v.ownBlock ≠ some k→w.heap[k]? = A.heap[k]?) (hsz:A.heap.size ≤ w.heap.size) (h1:w.os = A.os) (h2:w.tape = A.tape) (h3:w.output = A.output)
  (hk:∀ k,v'.ownBlock = some k→v.ownBlock = some k∨A.heap.size ≤ k):∃ O',Bld b l' O' (w.setCell ⟨b,1,none⟩ v')∧Turn O A (w.setCell ⟨b,1,none⟩ v') O':=by
 subst hO
 have hne:=Lib.ownBlock_ne hown hb (by decide)
 refine ⟨fun k => k = b∨v'.ownBlock = some k,⟨.pointer (some ⟨b,0,none⟩),v',?_,.inr rfl,?_,h0,rfl⟩,h1,h2,h3,by simpa [World.setCell] using hsz,?_,?_⟩
 ·simp [World.setCell,Array.getElem?_modify,hb]
 ·exact hown.kept (row:=some b) ⟨rfl,rfl,rfl,by simp [World.setCell],fun k _ hk => Below.heap_setCell _ _ _ _ (fun e => hk (by simp [e]))⟩ (Or.inr hne)
 ·intro k hk hn
  rw [Below.heap_setCell _ _ _ _ (fun e => hn (.inl e))]
  exact hg k hk (fun e => hn (.inl e)) (fun e => hn (.inr e))
 ·rintro k (rfl | h)
  ·exact .inl (.inl rfl)
  ·exact (hk k h).imp .inr id
set_option maxHeartbeats 2000000 in
set_option maxRecDepth 100000 in
theorem writeByte_any (b:Nat) (l:Str) (c:UInt8) (O:Nat→Prop) (w:World) (h:Bld b l O w) (hlen:l.length + 1 ≤ 140737488355328) :
  Calls Tryz.prog 47 #[.pointer (some ⟨b,0,none⟩),.int .u8 c.toNat] w fun e w' => e = .returned .nilIface∧∃ O',Bld b (l ++ [c]) O' w'∧Turn O w w' O':=by
 obtain ⟨i0,hi,hz0,hz1,hz2⟩:=info_parts Tryz.infoByte
 have C:=h.checked
 clear h
 go_enter Tryz.func47,Tryz.ntmps47
 go_wp2_with (go_at_call 76;refine C.mono ?_)
 rintro e w1 ⟨rfl,ht1,v,hbk,hown,h0,hO⟩
 have c0:w1.cell? ⟨b,0,none⟩ = some (.pointer (some ⟨b,0,none⟩)):=by rw [Lib.cell_of_heap hbk];rfl
 have c1:w1.cell? ⟨b,1,none⟩ = some v:=by rw [Lib.cell_of_heap hbk];rfl
 have hlt:b < w1.heap.size:=(Array.getElem?_eq_some_iff.1 hbk).1
 have hne:=Lib.ownBlock_ne hown hbk (by decide)
 go_wp2_with (at_builtin;refine wpList_append_one rfl _ _ 92 rfl b 5 i0 (.int .u8 0) (by kernel_rfl) hi hz0 hz1 hz2 rfl _ _ _ rfl (hown.alloc _) ⟨w1.heap.size,0,none⟩ 1 1 [.int .u8 c.toNat] rfl rfl ?c1 ?c2 ?c3 ?c4 ?c5 ?_)
 case c1 =>
  intro j u hj
  match j,hj with
  | 0,hj => simp at hj;subst hj;simp [Addr.add]
 case c2 => intro u hu;simp at hu;subst hu;rfl
 case c3 => unfold maxLen;omega
 case c4 => omega
 case c5 => simp;omega
 intro v' w2 hown' hgrow hnil hblk
 have hb2:w2.heap[b]? = some (.cells #[.pointer (some ⟨b,0,none⟩),v] 94 (0,0)):=by
  rw [hgrow.block b (by simp;omega) (fun e => hne e.symm),Lib.alloc_old w1 _ b hlt]
  exact hbk
 have d0:w2.cell? ⟨b,0,none⟩ = some (.pointer (some ⟨b,0,none⟩)):=by rw [Lib.cell_of_heap hb2];rfl
 have d1:w2.cell? ⟨b,1,none⟩ = some v:=by rw [Lib.cell_of_heap hb2];rfl
 have f1:w2.frozen? ⟨b,1,none⟩ = false:=Lib.frozen_of_heap hb2 1
 have HP:Hid (∃ O',Bld b (l ++ [c]) O' (w2.setCell ⟨b,1,none⟩ v')∧Turn O w (w2.setCell ⟨b,1,none⟩ v') O'):=by
  obtain ⟨O',hB,hT⟩:=Bld.put (l':=l ++ [c]) (v':=v') (A:=w1) hO hlt hb2 (by simpa [Lib.byteCells] using hown') (by simp)
   (fun k hk hkb hkv => (hgrow.block k (by simp;omega) (fun e => hkv e.symm)).trans (Lib.alloc_old w1 _ k hk)) (by have:=hgrow.size;simp at this;omega) hgrow.os hgrow.tape hgrow.output
   (fun k hk => (hblk k hk).imp id (fun h => by first | omega | (simp at h;omega)))
  exact ⟨O',hB,ht1.trans hT⟩
 obtain ⟨g,cap,rfl⟩ : ∃ g cap,v' = .slice (some ⟨g,0,none⟩) (l.length + 1) cap:=by
  rcases hown'.2 with ⟨_,h0⟩ | ⟨g,cap,cur,hv,_⟩
  ·omega
  ·exact ⟨g,cap,hv⟩
 clear hnil hblk hgrow hown' hown hO hne hb2 hbk ht1
 go_wp2
 go_ret
 exact ⟨rfl,HP.out⟩
set_option maxHeartbeats 2000000 in
set_option maxRecDepth 100000 in
theorem writeString_any (b:Nat) (l s:Str) (O:Nat→Prop) (w:World) (h:Bld b l O w) (hlen:l.length + s.length ≤ 140737488355328) :
  Calls Tryz.prog 48 #[.pointer (some ⟨b,0,none⟩),.string ⟨s.toArray⟩] w fun e w' => e = .returned (.tuple #[.int .i64 s.length,.nilIface])∧∃ O',Bld b (l ++ s) O' w'∧Turn O w w' O':=by
 obtain ⟨i0,hi,hz0,hz1,hz2⟩:=info_parts Tryz.infoByte
 have C:=h.checked
 clear h
 have hss:(ByteArray.mk s.toArray).size = s.length:=by simp [ByteArray.size]
 go_enter Tryz.func48,Tryz.ntmps48
 go_wp2_with (go_at_call 76;refine C.mono ?_)
 rintro e w1 ⟨rfl,ht1,v,hbk,hown,h0,hO⟩
 have c0:w1.cell? ⟨b,0,none⟩ = some (.pointer (some ⟨b,0,none⟩)):=by rw [Lib.cell_of_heap hbk];rfl
 have c1:w1.cell? ⟨b,1,none⟩ = some v:=by rw [Lib.cell_of_heap hbk];rfl
 have hlt:b < w1.heap.size:=(Array.getElem?_eq_some_iff.1 hbk).1
 have hne:=Lib.ownBlock_ne hown hbk (by decide)
 go_wp2_with (at_builtin;refine wpList_append_bytes rfl _ _ 92 9 rfl b 5 i0 (by kernel_rfl) (by kernel_rfl) hi hz0 hz1 hz2 _ _ _ rfl hown ⟨s.toArray⟩ rfl ?c3 ?c4 ?c5 ?_)
 case c3 => rw [hss];unfold maxLen;omega
 case c4 => rw [hss];omega
 case c5 => omega
 intro v' w2 hown' hgrow hnil hblk
 have hb2:w2.heap[b]? = some (.cells #[.pointer (some ⟨b,0,none⟩),v] 94 (0,0)):=by
  rw [hgrow.block b hlt (fun e => hne e.symm)]
  exact hbk
 have d0:w2.cell? ⟨b,0,none⟩ = some (.pointer (some ⟨b,0,none⟩)):=by rw [Lib.cell_of_heap hb2];rfl
 have d1:w2.cell? ⟨b,1,none⟩ = some v:=by rw [Lib.cell_of_heap hb2];rfl
 have f1:w2.frozen? ⟨b,1,none⟩ = false:=Lib.frozen_of_heap hb2 1
 have HP:Hid (∃ O',Bld b (l ++ s) O' (w2.setCell ⟨b,1,none⟩ v')∧Turn O w (w2.setCell ⟨b,1,none⟩ v') O'):=by
  obtain ⟨O',hB,hT⟩:=Bld.put (l':=l ++ s) (v':=v') (A:=w1) hO hlt hb2 (by simpa [Lib.byteCells,Lib.strCells] using hown')
   (fun h => by simp at h;exact hnil.2 ⟨h0 h.1,by simp [h.2]⟩)
   (fun k hk hkb hkv => hgrow.block k hk (fun e => hkv e.symm)) hgrow.size hgrow.os hgrow.tape hgrow.output hblk
  exact ⟨O',hB,ht1.trans hT⟩
 obtain ⟨ao,n',cap,rfl⟩ : ∃ ao n' cap,v' = .slice ao n' cap:=by
  rcases hown'.2 with ⟨hv,_⟩ | ⟨g,cap,cur,hv,_⟩
  ·exact ⟨_,_,_,hv⟩
  ·exact ⟨_,_,_,hv⟩
 clear hnil hblk hgrow hown' hown hO hne hb2 hbk ht1 h0
 go_wp2
 go_ret2
 exact ⟨rfl,HP.out⟩

open Go.RowKit
theorem freeze_other {w:World} {g k:Nat} (n:Nat) (h:k ≠ g):(w.freeze ⟨g,0,none⟩ n).heap[k]? = w.heap[k]?:=by
 unfold World.freeze
 split
 ·rfl
 ·simp only [Array.getElem?_modify]
  rw [if_neg (fun e => h e.symm)]
set_option maxHeartbeats 2000000 in
set_option maxRecDepth 100000 in
theorem string_any (b:Nat) (l:Str) (O:Nat→Prop) (w:World) (h:Bld b l O w) :
  Calls Tryz.prog 49 #[.pointer (some ⟨b,0,none⟩)] w fun e w' => e = .returned (.string ⟨l.toArray⟩)∧Below b w w'∧∀ k,¬ O k→w'.heap[k]? = w.heap[k]?:=by
 obtain ⟨p,v,hbk,_,hown,hnil,hO⟩:=h
 have HO:Hid _:=hO
 clear hO
 by_cases h0:l = []
 ·have hv:=hnil h0
  subst h0 hv
  have hUS:∀ (W:World) (q:Option Addr),(Builtin.unsafeString_ #[158,3] 9 #[.pointer q,.int .i64 0]).run Tryz.prog W = .ok (.string .empty) W:=fun W q => Lib.run_unsafeString_none W _ _ _ q
  have c1:w.drew.cell? ⟨b,1,none⟩ = some (.slice none 0 0):=by
   have:w.drew.heap[b]? = some (.cells #[p,.slice none 0 0] 94 (0,0)):=hbk
   rw [Lib.cell_of_heap this];rfl
  have hSD:(Builtin.unsafeSliceData_ #[92] 158 #[.slice none 0 0]).run Tryz.prog w.drew = .ok (.pointer none) w.drew:=rfl
  clear hbk hown hnil
  go_enter Tryz.func49,Tryz.ntmps49
  go_wp2
  go_region
  all_goals (go_wp2;go_ret;exact ⟨rfl,Below.drew (Below.refl b w),fun _ _ => rfl⟩)
 have hl0:l.length ≠ 0:=by simpa using h0
 obtain ⟨g,cap,cur,rfl,hbg,hg,hnc,hcm,hcs,htake⟩ : ∃ g cap cur,v = .slice (some ⟨g,0,none⟩) l.length cap∧b ≤ g∧w.heap[g]? = some (.cells cur 5 (0,0))∧l.length ≤ cap∧cap ≤ maxLen∧cur.size = cap * 1∧cur.toList.take (l.length * 1) = Lib.byteCells l:=by
  rcases hown.2 with ⟨_,hz⟩ | ⟨g,cap,cur,hv,r⟩
  ·exact absurd hz hl0
  ·exact ⟨g,cap,cur,hv,r⟩
 have c1:w.drew.cell? ⟨b,1,none⟩ = some (.slice (some ⟨g,0,none⟩) l.length cap):=by
  have:w.drew.heap[b]? = some (.cells #[p,.slice (some ⟨g,0,none⟩) l.length cap] 94 (0,0)):=hbk
  rw [Lib.cell_of_heap this];rfl
 have hSD:(Builtin.unsafeSliceData_ #[92] 158 #[.slice (some ⟨g,0,none⟩) l.length cap]).run Tryz.prog w.drew = .ok (.pointer (some ⟨g,0,none⟩)) w.drew :=
  Lib.run_unsafeSliceData_row _ _ _ _ _ _ (by omega)
 have hUS:(Builtin.unsafeString_ #[158,3] 9 #[.pointer (some ⟨g,0,none⟩),.int .i64 l.length]).run Tryz.prog w.drew = .ok (.string ⟨l.toArray⟩) (w.drew.freeze ⟨g,0,none⟩ l.length):=by
  refine Lib.run_unsafeString_row w.drew 158 3 9 5 (by kernel_rfl) Tryz.cellsByte g cur.size (by have hg' : w.drew.heap[g]? = some (.cells cur 5 (0,0)):=hg;simp [World.shape?,hg']) l h0 (by omega) (by unfold maxLen at hcm;omega) ?_
  intro j x hx
  have:=hown.cells (g:=g) rfl j (.int .u8 x.toNat) (by simp [Lib.byteCells,hx])
  exact this
 clear hbk hown hnil htake hcs
 go_enter Tryz.func49,Tryz.ntmps49
 go_wp2
 go_region
 all_goals (go_wp2;go_ret;exact ⟨rfl,Lib.below_freeze (Below.drew (Below.refl b w)) (p:=⟨g,0,none⟩) hbg _,fun k hk => freeze_other _ (fun e => hk (by rw [HO.out];exact .inr (by rw [e];rfl)))⟩)
end Go.Proofs.YtdcbgfhkfmohiaaGreatDoor
