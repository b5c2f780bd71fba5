/- Contracts of the document's answer (package canopyref): add, spell. -/
import Derived.Test.YtdcbgfhkfmohiaaGreatDoorAl01
import Derived.RegionTactic
import Derived.Maps.AppendAt
import Derived.Deep.RegionLaw
namespace Go.Proofs.YtdcbgfhkfmohiaaGreatDoor
open Go.RowKit
def addL (set:List Str) (s:Str):List Str:=if s ∈ set then set else set ++ [s]
theorem addL_hit {set:List Str} {s:Str} {k:Nat} (hk:k < set.length) (h:(set[k] == s) = true):addL set s = set:=by
 unfold addL;rw [if_pos];simp at h;rw [← h];exact List.getElem_mem hk
theorem addL_miss {set:List Str} {s:Str} (hall:∀ j (hj:j < set.length),(set[j] == s) = false):addL set s = set ++ [s]:=by
 unfold addL;rw [if_neg]
 intro h;obtain ⟨j,hj,rfl⟩:=List.getElem_of_mem h;have:=hall j hj;simp at this
theorem str_step {l:List Str} {q:Str→Bool} {b:Bool} {k:Nat} (hk:k < l.length) (hall:∀ j (hj:j < l.length),j < k→q l[j] = b) (h:q l[k] = b):∀ j (hj:j < l.length),j < k + 1→q l[j] = b:=by
 intro j hj hjk
 by_cases e:j = k
 ·subst e;exact h
 ·exact hall j hj (by omega)
def Moved (w:World) (v v' : Value):Prop:=∀ k,v'.ownBlock = some k→v.ownBlock = some k∨w.heap.size ≤ k
theorem Moved.refl (w:World) (v:Value):Moved w v v:=fun _ h => .inl h
theorem wp_app_at {W wr:World} {ops:Array Oper} {rest:List Oper} {o:Oper} {a:Act} {Q:Exit→Act→World→Prop} (t e:TypeId) (z:Value) (size bytes:Nat)
  (hinf:(Tryz.prog.info? e).map (fun i => (i.zero,i.size,i.bytes)) = some (some z,size,bytes)) (ht:Tryz.prog.underlying t = some (.slice e)) (hzs:z.cells.size = size) (hsz:0 < size)
  (hgd:o.guard = none) (s x:Operand) (ho:o.op = .call { callee:=.builtin .append,args:=#[s,x],argTypes:=#[t,t] })
  {base:Nat} {v:Value} {n:Nat} {xs:List Value} (hown:wr.ownsRow base e size v n xs) (cs:List Value) (hcs:cs.length = size) (h1:∀ u ∈ cs,u.oneCell' = true)
  (hW:Like W (wr.alloc (.cells cs.toArray e)))
  (hs:a.eval s = v) (hx:a.eval x = .slice (some ⟨wr.heap.size,0,none⟩) 1 1)
  (hm:n + 1 ≤ maxLen) (hby:(n + 1) * bytes ≤ 140737488355328) (hbase:base ≤ wr.heap.size)
  (h:∀ v' w',w'.ownsRow base e size v' (n + 1) (xs ++ cs)→wr.grownBy w' v.ownBlock→Moved wr v v'→wpList Tryz.prog ops Q rest (a.put o.dst v') w'):wpList Tryz.prog ops Q (o :: rest) a W:=by
 obtain ⟨i0,hi,hz0,hz1,hz2⟩:=info_parts hinf
 have hz:(wr.alloc (.cells cs.toArray e)).heap.size = wr.heap.size + 1:=by simp
 refine wpList_append_own_at _ hgd s x t ho base e i0 z size bytes ht hi hz0 hz1 hz2 hzs hsz v n xs hs (hW.ownsRow (hown.alloc _)) ⟨wr.heap.size,0,none⟩ 1 1 cs hx (by omega) ?_ h1 hm hby (by rw [hW.heap,hz];omega) ?_
 ·intro j u hj
  have hjl:j < cs.length:=(List.getElem?_eq_some_iff.1 hj).1
  have ha:(Addr.mk wr.heap.size 0 none).add j = ⟨wr.heap.size,j,none⟩:=by simp only [Addr.add];split <;> simp_all
  rw [ha];simp only [World.cell?,hW.heap,heap_alloc_new];simpa using hj
 ·intro v' w' h1 h2 _ h4
  refine h v' w' h1 ⟨h2.os.trans hW.os,h2.tape.trans hW.tape,h2.output.trans hW.output,?_,?_⟩ ?_
  ·have:=h2.size;rw [hW.heap,hz] at this;omega
  ·intro k hk hne
   rw [h2.block k (by rw [hW.heap,hz];omega) hne,hW.heap]
   exact Below.heap_alloc wr _ k hk
  ·intro k hk
   rcases h4 with h4 | h4
   ·exact .inl (h4.symm.trans hk)
   ·right;rw [h4,hW.heap,hz] at hk;simp at hk;omega
theorem wp_app_str_at {W wr:World} {ops:Array Oper} {rest:List Oper} {o:Oper} {a:Act} {Q:Exit→Act→World→Prop} (hgd:o.guard = none) (s x:Operand)
  (ho:o.op = .call { callee:=.builtin .append,args:=#[s,x],argTypes:=#[48,48] })
  {base:Nat} {v:Value} {n:Nat} {xs:List Str} (hown:wr.ownsRow base 9 1 v n (xs.map SV)) (t:Str) (hW:Like W (wr.alloc (.cells #[SV t] 9)))
  (hs:a.eval s = v) (hx:a.eval x = .slice (some ⟨wr.heap.size,0,none⟩) 1 1)
  (hb:n ≤ 100000) (hbase:base ≤ wr.heap.size)
  (h:∀ v' w',w'.ownsRow base 9 1 v' (n + 1) ((xs ++ [t]).map SV)→wr.grownBy w' v.ownBlock→Moved wr v v'→wpList Tryz.prog ops Q rest (a.put o.dst v') w'):wpList Tryz.prog ops Q (o :: rest) a W:=by
 refine wp_app_at 48 9 (.string ⟨#[]⟩) 1 16 Tryz.infoStr Tryz.underlying48 rfl (by decide) hgd s x ho hown [SV t] rfl ?_ hW hs hx (by unfold maxLen;omega) (by omega) hbase ?_
 ·intro u hu;simp at hu;subst hu;rfl
 ·intro v' w' h1 h2 h3
  exact h v' w' (by simpa using h1) h2 h3
theorem grownBy_refl (w:World) (r:Option Nat):w.grownBy w r:=⟨rfl,rfl,rfl,Nat.le_refl _,fun _ _ _ => rfl⟩
theorem str_len {w:World} {base:Nat} {v:Value} {n:Nat} {xs:List Str} (h:w.ownsRow base 9 1 v n (xs.map SV)):w.ownsRow base 9 1 v xs.length (xs.map SV):=by
 have h1:=h.1;simp at h1
 rw [show xs.length = n from by omega];exact h
set_option maxHeartbeats 1000000 in
theorem add_any (base:Nat) (set:List Str) (v:Value) (n:Nat) (s:Str) (w:World) (hown:w.ownsRow base 9 1 v n (set.map SV)) (hn:n ≤ 100000) (hbase:base ≤ w.heap.size) :
  Calls Tryz.prog 165 #[v,SV s] w fun e w' => ∃ v',e = .returned v'∧w'.ownsRow base 9 1 v' (addL set s).length ((addL set s).map SV)∧w.grownBy w' v.ownBlock∧Moved w v v':=by
 rcases strs_cells hown with ⟨rfl,rfl,rfl⟩ | ⟨g,cap,rfl,rfl,hg,hgb,hc,hm,hp⟩
 ·go_enter Tryz.func165,Tryz.ntmps165
  go_wp2
  refine wp_loop_rounds 1 ?_;rw [rounds_succ]
  go_wp2_with (at_builtin;go_loud (refine wp_app_str_at rfl (.tmp 19) (.tmp 21) rfl hown s ⟨rfl,rfl,rfl,rfl⟩ rfl rfl (by omega) hbase ?_))
  intro v' w1 hown1 hb1 hm1
  go_wp2
  go_ret
  exact ⟨_,rfl,hown1,hb1,hm1⟩
 ·unfold maxLen at hm
  have Hown:Hid _:=hown
  clear hown
  go_enter Tryz.func165,Tryz.ntmps165
  go_wp2
  go_loop [5] (fun i => ∃ k:Nat,k ≤ set.length∧i = .int .i64 k∧∀ j (hj:j < set.length),j < k→(set[j] == s) = false) (fun i => set.length - (intOf i).toNat)
  case atStart => exact ⟨0,Nat.zero_le _,rfl,fun j _ h => by omega⟩
  case round =>
   obtain ⟨k,hk,rfl,hall⟩:=hrel
   by_cases hlt:k < set.length
   ·cases he:(set[k] == s)
    ·have R:=str_step (q:=fun x => x == s) hlt hall he
     clear hall
     go_wp2
     go_round
     case rel => exact ⟨k + 1,by omega,by go_num,R⟩
     case measure => simp [intOf];omega
    ·have R:Hid _:=addL_hit hlt he
     clear hall
     go_wp2
     go_ret
     exact ⟨_,rfl,by rw [R.out];exact Hown.out,grownBy_refl _ _,Moved.refl _ _⟩
   ·have R:Hid _:=addL_miss (s:=s) (fun j hj => hall j hj (by omega))
    clear hall
    have hown:=Hown.out
    go_wp2_with (at_builtin;go_loud (refine wp_app_str_at rfl (.tmp 19) (.tmp 21) rfl hown s ⟨rfl,rfl,rfl,rfl⟩ rfl rfl (by omega) hbase ?_))
    intro v' w1 hown1 hb1 hm1
    go_wp2
    go_ret
    exact ⟨_,rfl,by rw [R.out];exact str_len (n:=set.length + 1) (by simpa using hown1),hb1,hm1⟩
def spellF (f:Fl):Str:=f.1 ++ 61 :: (48 + UInt8.ofNat (f.2.length / 10)) :: (48 + UInt8.ofNat (f.2.length % 10)) :: (f.2 ++ [10])
def spellL (l:List Fl):Str:=l.flatMap spellF
theorem app_list (x y:List UInt8):(ByteArray.mk x.toArray) ++ (ByteArray.mk y.toArray) = ByteArray.mk (x ++ y).toArray:=ByteArray.mk_append_mk ..
theorem conv2 (w:World) (a b:Int):(convert 92 9 (.slice (some ⟨w.heap.size,0,none⟩) 2 2)).run Tryz.prog (w.alloc (.cells #[.int .u8 a,.int .u8 b] 5)).drew = .ok (.string ⟨[UInt8.ofNat a.toNat,UInt8.ofNat b.toNat].toArray⟩) (w.alloc (.cells #[.int .u8 a,.int .u8 b] 5)).drew:=by
 refine run_convert_bytes_arg _ 92 5 Tryz.underlying92 Tryz.underlying5 w.heap.size 0 2 2 [a,b] rfl ?_ 9 Tryz.underlying9
 intro i hi
 match i,hi with
 | 0,_ => simp
 | 1,_ => simp
theorem spellL_take {l:List Fl} {k:Nat} (hk:k < l.length):spellL (l.take (k + 1)) = spellL (l.take k) ++ spellF l[k]:=by
 unfold spellL;rw [List.take_succ_eq_append_getElem hk,List.flatMap_append];simp
theorem spellL_len {l:List Fl} (hs:Small l) (k:Nat):(spellL (l.take k)).length ≤ 2100 * k:=by
 induction k with
 | zero => simp [spellL]
 | succ k ih =>
  by_cases hk:k < l.length
  ·have:=hs.2 l[k] (List.getElem_mem hk)
   rw [spellL_take hk];simp [spellF];omega
  ·rw [List.take_of_length_le (by omega)];rw [List.take_of_length_le (by omega)] at ih;omega
set_option maxHeartbeats 2000000 in
theorem spell_any (l:List Fl) (v:Value) (w:World) (hl:FilesAt w v l) (hs:Small l) (hd99:∀ f ∈ l,f.2.length ≤ 99) :
  Calls Tryz.prog 137 #[v] w fun e w' => e = .returned (SV (spellL l))∧Below w.heap.size w w':=by
 rcases files_cells hl with ⟨rfl,rfl⟩ | ⟨g,cap,rfl,hg,hc,hm,hp,hd⟩
 ·go_enter Tryz.func137,Tryz.ntmps137
  go_wp2
  refine wp_loop_rounds 1 ?_;rw [rounds_succ];go_wp2
  go_ret
  exact ⟨rfl,Below.refl _ _⟩
 ·have hnl:=hs.1
  clear hl
  unfold maxLen at hm
  go_enter Tryz.func137,Tryz.ntmps137
  go_wp2
  go_loopw [3,4] (fun s i wr => ∃ k:Nat,k ≤ l.length∧i = .int .i64 k∧s = SV (spellL (l.take k))∧Below w.heap.size w wr) (fun _ i _ => l.length - (intOf i).toNat)
  case atStart => exact ⟨0,Nat.zero_le _,rfl,rfl,Below.refl _ _⟩
  case round =>
   obtain ⟨k,hk,rfl,rfl,hbel⟩:=hrel
   have hz:=hbel.size
   by_cases hlt:k < l.length
   ·have hkl:=(hs.2 l[k] (List.getElem_mem hlt))
    have hpk:wr.cell? ⟨g,k * 2,none⟩ = some (SV l[k].1):=(hbel.cell hg).trans (hp k hlt)
    have hdk:wr.cell? ⟨g,k * 2 + 1,none⟩ = some (SV l[k].2):=(hbel.cell hg).trans (hd k hlt)
    have hlen:=spellL_len hs k
    have h1:=hkl.1
    have h2:=hkl.2
    have h99:=hd99 l[k] (List.getElem_mem hlt)
    have R:Hid (spellL (l.take (k + 1)) = spellL (l.take k) ++ spellF l[k]):=spellL_take hlt
    have hgw:g < wr.heap.size:=by omega
    have hApp:=app_list
    have hConv:=conv2
    clear hp hd hkl hs hd99
    go_wp2
    go_region
    go_wp2
    go_roundw
    case rel => exact ⟨k + 1,by omega,by go_num,by rw [R.out];rfl,(hbel.alloc hz _).drew⟩
    case measure => simp [intOf];omega
   ·have R:Hid (spellL (l.take k) = spellL l):=by rw [Hid,List.take_of_length_le (by omega)]
    clear hp hd
    go_wp2
    go_ret
    exact ⟨by rw [← R.out];rfl,hbel⟩

open Go.RowKit
def dirStep (l:List Fl) (p:Str) (t:List Str) (n:Nat):List Str:=if p[n]? = some 47 then addL t (spellL (inL l (p.take n))) else t
def fileStep (l:List Fl) (st:List Str × List Str) (f:Fl):List Str × List Str:=((List.range f.1.length).foldl (dirStep l f.1) st.1,addL st.2 f.2)
def snapStep (st:List Str × List Str) (l:List Fl):List Str × List Str:=l.foldl (fileStep l) (addL st.1 (spellL l),st.2)
def cellsSt (all:List (List Fl)):List Str × List Str:=all.foldl snapStep ([],[])
def cellsL (all:List (List Fl)):Nat:=(cellsSt all).1.length + (cellsSt all).2.length
def ListsAt (w:World) (v:Value) (all:List (List Fl)):Prop:=∃ vs:List Value,w.ownsRow 0 194 1 v all.length vs∧∀ (k:Nat) (u:Value) (l:List Fl),vs[k]? = some u→all[k]? = some l→FilesAt w u l
theorem addL_len (t:List Str) (s:Str):(addL t s).length ≤ t.length + 1:=by unfold addL;split <;> simp
theorem dirStep_len (l:List Fl) (p:Str) (t:List Str) (n:Nat):(dirStep l p t n).length ≤ t.length + 1:=by
 unfold dirStep;split
 ·exact addL_len _ _
 ·omega
theorem foldl_len {α:Type} {f:List Str→α→List Str} {c:Nat} (h:∀ t x,(f t x).length ≤ t.length + c) (xs:List α) (t:List Str):(xs.foldl f t).length ≤ t.length + c * xs.length:=by
 induction xs generalizing t with
 | nil => simp
 | cons x xs ih => have:=ih (f t x);have:=h t x;simp [Nat.mul_add];omega
structure Two (w:World) (vt vd:Value) (st:List Str × List Str) (wr:World):Prop where
 t:wr.ownsRow w.heap.size 9 1 vt st.1.length (st.1.map SV)
 d:wr.ownsRow w.heap.size 9 1 vd st.2.length (st.2.map SV)
 apart:vt.ownBlock = none∨vt.ownBlock ≠ vd.ownBlock
 bel:Below w.heap.size w wr
theorem Two.size {w:World} {vt vd:Value} {st:List Str × List Str} {wr:World} (h:Two w vt vd st wr):w.heap.size ≤ wr.heap.size:=h.bel.size
theorem Two.later {w:World} {vt vd:Value} {st:List Str × List Str} {wr w' : World} (h:Two w vt vd st wr) (hb:Below wr.heap.size wr w'):Two w vt vd st w' :=
 ⟨ownsRow_below h.t hb (Nat.le_refl _),ownsRow_below h.d hb (Nat.le_refl _),h.apart,h.bel.trans (hb.mono h.bel.size)⟩
theorem Two.left {w:World} {vt vd:Value} {st:List Str × List Str} {wr w' : World} {v' : Value} {s:Str} (h:Two w vt vd st wr)
  (h1:w'.ownsRow w.heap.size 9 1 v' (addL st.1 s).length ((addL st.1 s).map SV)) (h2:wr.grownBy w' vt.ownBlock) (h3:Moved wr vt v'):Two w v' vd (addL st.1 s,st.2) w':=by
 refine ⟨h1,h.d.kept h2 ?_,?_,h.bel.grown h2 h.size fun k hk => (h.t.lt k hk).1⟩
 ·rcases h.apart with ha | ha
  ·rw [ha];cases hv:vd.ownBlock
   ·exact .inl rfl
   ·exact .inr (by simp)
  ·exact .inr (Ne.symm ha)
 ·cases hv:v'.ownBlock with
  | none => exact .inl rfl
  | some k =>
   right;intro e
   rcases h3 k hv with h4 | h4
   ·rcases h.apart with ha | ha
    ·rw [ha] at h4;simp at h4
    ·exact ha (h4.trans e)
   ·have:=(h.d.lt k e.symm).2;omega
theorem Two.right {w:World} {vt vd:Value} {st:List Str × List Str} {wr w' : World} {v' : Value} {s:Str} (h:Two w vt vd st wr)
  (h1:w'.ownsRow w.heap.size 9 1 v' (addL st.2 s).length ((addL st.2 s).map SV)) (h2:wr.grownBy w' vd.ownBlock) (h3:Moved wr vd v'):Two w vt v' (st.1,addL st.2 s) w':=by
 refine ⟨h.t.kept h2 h.apart,h1,?_,h.bel.grown h2 h.size fun k hk => (h.d.lt k hk).1⟩
 cases hv:vt.ownBlock with
 | none => exact .inl rfl
 | some k =>
  right;intro e
  rcases h3 k e.symm with h4 | h4
  ·rcases h.apart with ha | ha
   ·rw [ha] at hv;simp at hv
   ·exact ha (hv.trans h4.symm)
  ·have:=(h.t.lt k hv).2;omega
def Tiny (l:List Fl):Prop:=l.length ≤ 20∧∀ f ∈ l,f.1.length ≤ 100∧f.2.length ≤ 30
theorem Tiny.small {l:List Fl} (h:Tiny l):Small l:=⟨by have:=h.1;omega,fun f hf => by have:=h.2 f hf;omega⟩
theorem files_view {w:World} {v:Value} {l:List Fl} (h:FilesAt w v l) :
  ∃ ao cap,v = .slice ao l.length cap∧cap ≤ maxLen∧l.length ≤ cap∧∀ k (hk:k < l.length),∃ g,ao = some ⟨g,0,none⟩∧g < w.heap.size∧w.cell? ⟨g,k * 2,none⟩ = some (SV l[k].1)∧w.cell? ⟨g,k * 2 + 1,none⟩ = some (SV l[k].2):=by
 rcases files_cells h with ⟨rfl,rfl⟩ | ⟨g,cap,rfl,hg,hc,hm,hp,hd⟩
 ·exact ⟨none,0,rfl,by unfold maxLen;omega,by simp,fun k hk => by simp at hk⟩
 ·exact ⟨_,cap,rfl,hm,hc,fun k hk => ⟨g,rfl,hg,hp k hk,hd k hk⟩⟩
theorem files_below {w w' : World} {B:Nat} {v:Value} {l:List Fl} (h:FilesAt w v l) (hb:Below B w w') (hB:w.heap.size ≤ B):FilesAt w' v l:=ownsRow_below h hb hB
theorem files_kept {w w' : World} {v:Value} {l:List Fl} (h:FilesAt w v l) (hb:∀ k,v.ownBlock = some k→w'.heap[k]? = w.heap[k]?):FilesAt w' v l:=by
 refine ⟨h.1,?_⟩
 rcases h.2 with h | ⟨g,cap,cur,rfl,h2,h3,h4⟩
 ·exact .inl h
 ·exact .inr ⟨g,cap,cur,rfl,h2,(hb g rfl).trans h3,h4⟩
theorem in_len (l:List Fl) (d:Str):(inL l d).length ≤ l.length:=by
 unfold inL;induction l with
 | nil => simp
 | cons f t ih => simp only [List.flatMap_cons,List.length_append];split <;> simp only [List.length_nil,List.length_cons] <;> omega
theorem belowL_len (p d:Str):(belowL p d).length ≤ p.length:=by
 unfold belowL;split
 ·omega
 ·split <;> simp <;> omega
theorem in_tiny {l:List Fl} (h:Tiny l) (d:Str):Tiny (inL l d):=by
 refine ⟨Nat.le_trans (in_len l d) h.1,?_⟩
 intro f hf
 unfold inL at hf
 rw [List.mem_flatMap] at hf
 obtain ⟨x,hx,hf⟩:=hf
 have h1:=h.2 x hx
 split at hf
 ·simp at hf
 ·simp at hf;subst hf;have:=belowL_len x.1 d;simp only;omega
theorem cellsSt_succ {all:List (List Fl)} {k:Nat} (hk:k < all.length):cellsSt (all.take (k + 1)) = all[k].foldl (fileStep all[k]) (addL (cellsSt (all.take k)).1 (spellL all[k]),(cellsSt (all.take k)).2):=by
 unfold cellsSt;rw [List.take_succ_eq_append_getElem hk,List.foldl_append];rfl
theorem fold_succ {l:List Fl} {st:List Str × List Str} {j:Nat} (hj:j < l.length):(l.take (j + 1)).foldl (fileStep l) st = fileStep l ((l.take j).foldl (fileStep l) st) l[j]:=by
 rw [List.take_succ_eq_append_getElem hj,List.foldl_append];rfl
theorem range_succ {l:List Fl} {p:Str} {t:List Str} (n:Nat):(List.range (n + 1)).foldl (dirStep l p) t = dirStep l p ((List.range n).foldl (dirStep l p) t) n:=by
 rw [List.range_succ,List.foldl_append];rfl
theorem range_len (l:List Fl) (p:Str) (t:List Str) (n:Nat):((List.range n).foldl (dirStep l p) t).length ≤ t.length + n:=by
 have:=foldl_len (c:=1) (dirStep_len l p) (List.range n) t
 simp at this;omega
theorem file_len {l:List Fl} (hl:Tiny l) (st:List Str × List Str) (j:Nat):((l.take j).foldl (fileStep l) st).1.length ≤ st.1.length + 100 * j∧((l.take j).foldl (fileStep l) st).2.length ≤ st.2.length + j:=by
 induction j with
 | zero => simp
 | succ j ih =>
  by_cases hj:j < l.length
  ·rw [fold_succ hj]
   have h1:=range_len l l[j].1 ((l.take j).foldl (fileStep l) st).1 l[j].1.length
   have h2:=(hl.2 l[j] (List.getElem_mem hj)).1
   have h3:=addL_len ((l.take j).foldl (fileStep l) st).2 l[j].2
   simp only [fileStep];omega
  ·rw [List.take_of_length_le (by omega)];rw [List.take_of_length_le (by omega)] at ih;omega
theorem cells_len {all:List (List Fl)} (h:∀ l ∈ all,Tiny l) (k:Nat):(cellsSt (all.take k)).1.length ≤ 2001 * k∧(cellsSt (all.take k)).2.length ≤ 20 * k:=by
 induction k with
 | zero => simp [cellsSt]
 | succ k ih =>
  by_cases hk:k < all.length
  ·have hl:=h all[k] (List.getElem_mem hk)
   have h1:=file_len hl (addL (cellsSt (all.take k)).1 (spellL all[k]),(cellsSt (all.take k)).2) all[k].length
   have h2:=addL_len (cellsSt (all.take k)).1 (spellL all[k])
   have h3:=hl.1
   rw [cellsSt_succ hk];rw [List.take_length] at h1;simp only at h1;omega
  ·rw [List.take_of_length_le (by omega)];rw [List.take_of_length_le (by omega)] at ih;omega
set_option maxHeartbeats 4000000 in
theorem cells_any (all:List (List Fl)) (v:Value) (w:World) (hl:ListsAt w v all) (ht:∀ l ∈ all,Tiny l) (hn:all.length ≤ 20) :
  Calls Tryz.prog 135 #[v] w fun e w' => e = .returned (.int .i64 (cellsL all))∧Below w.heap.size w w':=by
 obtain ⟨vs,hrow,hvs⟩:=hl
 have hlen:vs.length = all.length:=by have:=hrow.1;omega
 obtain ⟨ao,cap,rfl⟩:=row_form hrow
 have hcell:∀ k (hk:k < all.length),∃ g,ao = some ⟨g,0,none⟩∧g < w.heap.size∧w.cell? ⟨g,k,none⟩ = some (vs[k]'(by omega)):=by
  intro k hk
  rcases row_cells hrow with ⟨h1,h2⟩ | ⟨g,cap',h1,h2,_,_,_,h5⟩
  ·omega
  ·refine ⟨g,by simp at h1;exact h1.1,h2,h5 _ _ ?_⟩
   rw [List.getElem?_eq_getElem]
 have Hrow:Hid _:=hrow
 have Hvs:Hid _:=hvs
 clear hrow hvs
 go_enter Tryz.func135,Tryz.ntmps135
 go_wp2
 go_loopw [3,4,5] (fun vt vd i wr => ∃ k:Nat,k ≤ all.length∧i = .int .i64 k∧Two w vt vd (cellsSt (all.take k)) wr) (fun _ _ i _ => all.length - (intOf i).toNat)
 case atStart => exact ⟨0,Nat.zero_le _,rfl,⟨World.ownsRow_nil _ _ _ _,World.ownsRow_nil _ _ _ _,.inl rfl,Below.refl _ _⟩⟩
 case round =>
  obtain ⟨k,hk,rfl,hT⟩:=hrel
  have hL:=cells_len ht k
  by_cases hlt:k < all.length
  ·obtain ⟨g,rfl,hg,hck⟩:=hcell k hlt
   have hck' : wr.cell? ⟨g,k,none⟩ = some (vs[k]'(by omega)):=(hT.bel.cell hg).trans hck
   have hF0:FilesAt w (vs[k]'(by omega)) all[k]:=Hvs.out k _ _ (List.getElem?_eq_getElem (by omega)) (List.getElem?_eq_getElem hlt)
   have hti:=ht all[k] (List.getElem_mem hlt)
   have HS:Hid _:=cellsSt_succ hlt
   obtain ⟨l,hle⟩ : ∃ l,all[k] = l:=⟨_,rfl⟩
   rw [hle] at hF0 hti HS
   obtain ⟨u,hu⟩ : ∃ u,vs[k]'(by omega) = u:=⟨_,rfl⟩
   rw [hu] at hF0 hck'
   clear hcell hck hu hle
   have hX:=extract_list
   have hG:=get_list
   have hFr:=files_below hF0 hT.bel (Nat.le_refl _)
   obtain ⟨ao2,cap2,rfl,hm2,hc2,hF⟩:=files_view hF0
   have hsm:=hti.small
   have h99:∀ f ∈ l,f.2.length ≤ 99:=fun f hf => by have:=hti.2 f hf;omega
   have hl20:=hti.1
   generalize cellsSt (all.take k) = S at *
   go_wp2_with fail
   refine (spell_any l _ _ hFr hsm h99).mono ?_
   rintro e w1 ⟨rfl,hb1⟩
   have hT1:=hT.later hb1
   clear hT hb1 hFr
   go_wp2_with fail
   refine (add_any w.heap.size S.1 _ _ (spellL l) _ hT1.t (by omega) hT1.size).mono ?_
   rintro e w2 ⟨v',rfl,h1,h2,h3⟩
   have hT2:=hT1.left h1 h2 h3
   clear h1 h2 h3 hT1
   have hA:=addL_len S.1 (spellL l)
   generalize hS1:(addL S.1 (spellL l),S.2) = S1 at *
   have HS1:Hid _:=hS1
   have hS1a:S1.1.length ≤ 2001 * k + 1:=by rw [← hS1];simp only;omega
   have hS1b:S1.2.length ≤ 20 * k:=by rw [← hS1];simp only;omega
   clear hS1
   go_wp2
   go_loopw [3,4,7] (fun vt vd j wr => ∃ m:Nat,m ≤ l.length∧j = .int .i64 m∧Two w vt vd ((l.take m).foldl (fileStep l) S1) wr) (fun _ _ j _ => l.length - (intOf j).toNat)
   case atStart => exact ⟨0,Nat.zero_le _,rfl,hT2⟩
   case round =>
    clear hT2
    obtain ⟨m,hm,rfl,hT⟩:=hrel
    have hL2:=file_len hti S1 m
    by_cases hmt:m < l.length
    ·obtain ⟨g2,rfl,hg2,hp,hd⟩:=hF m hmt
     have HF:Hid _:=fold_succ (l:=l) (st:=S1) hmt
     have hfl:=hti.2 l[m] (List.getElem_mem hmt)
     obtain ⟨p,d,hpd⟩ : ∃ p d,l[m] = (p,d):=⟨_,_,rfl⟩
     rw [hpd] at hp hd HF hfl
     simp only at hp hd hfl
     generalize (l.take m).foldl (fileStep l) S1 = S2 at *
     have hp':=(hT.bel.cell hg2).trans hp
     have hd':=(hT.bel.cell hg2).trans hd
     clear hF hpd
     go_wp2_with fail
     refine (add_any w.heap.size S2.2 _ _ d _ hT.d (by omega) hT.size).mono ?_
     rintro e w3 ⟨v3,rfl,h1,h2,h3⟩
     have hT3:=hT.right h1 h2 h3
     clear h1 h2 h3 hT hp' hd'
     have hp':=(hT3.bel.cell hg2).trans hp
     have hd':=(hT3.bel.cell hg2).trans hd
     have hA2:=addL_len S2.2 d
     go_wp2
     go_loopw [3,9] (fun vt n wr => ∃ q:Nat,q ≤ p.length∧n = .int .i64 q∧Two w vt v3 ((List.range q).foldl (dirStep l p) S2.1,addL S2.2 d) wr) (fun _ n _ => p.length - (intOf n).toNat)
     case atStart => exact ⟨0,Nat.zero_le _,rfl,hT3⟩
     case round =>
      clear hT3 hp' hd'
      obtain ⟨q,hq,rfl,hT⟩:=hrel
      have hL3:=range_len l p S2.1 q
      by_cases hqt:q < p.length
      ·have HR:Hid _:=range_succ (l:=l) (p:=p) (t:=S2.1) q
       generalize (List.range q).foldl (dirStep l p) S2.1 = S3 at *
       cases hc:((p[q].toNat:Int) == 47)
       ·have R:Hid ((List.range (q + 1)).foldl (dirStep l p) S2.1 = S3):=by
         rw [Hid,HR.out,dirStep,if_neg]
         intro h;rw [List.getElem?_eq_getElem hqt] at h;simp at h;rw [h] at hc;simp at hc
        go_wp2
        go_roundw
        case rel => exact ⟨q + 1,by omega,by go_num,by rw [R.out];exact hT⟩
        case measure => simp [intOf];omega
       ·have R:Hid ((List.range (q + 1)).foldl (dirStep l p) S2.1 = addL S3 (spellL (inL l (p.take q)))):=by
         rw [Hid,HR.out,dirStep,if_pos]
         rw [List.getElem?_eq_getElem hqt,byte_eq _ 47 hc (by omega)];rfl
        have hFr:=files_below hF0 hT.bel (Nat.le_refl _)
        have hti2:=in_tiny hti (p.take q)
        have h99b:∀ f ∈ inL l (p.take q),f.2.length ≤ 99:=fun f hf => by have:=hti2.2 f hf;omega
        have hpq:(p.take q).length < maxLen:=by unfold maxLen;simp;omega
        go_wp2_with fail
        refine (in_any l _ (p.take q) _ hFr hsm hpq).mono ?_
        rintro e w4 ⟨v4,rfl,hown4,hb4⟩
        have hT4:=hT.later hb4
        have hF4:FilesAt w4 v4 (inL l (p.take q)):=ownsRow_le hown4 (Nat.zero_le _)
        clear hT hb4 hown4 hFr
        go_wp2_with fail
        refine (spell_any _ v4 _ hF4 hti2.small h99b).mono ?_
        rintro e w5 ⟨rfl,hb5⟩
        have hT5:=hT4.later hb5
        clear hT4 hb5 hF4
        go_wp2_with fail
        refine (add_any w.heap.size S3 _ _ (spellL (inL l (p.take q))) _ hT5.t (by simp only;omega) hT5.size).mono ?_
        rintro e w6 ⟨v6,rfl,h1,h2,h3⟩
        have hT6:=hT5.left h1 h2 h3
        clear h1 h2 h3 hT5
        go_wp2
        go_roundw
        case rel => exact ⟨q + 1,by omega,by go_num,by rw [R.out];exact hT6⟩
        case measure => simp [intOf];omega
      ·have R:Hid ((l.take (m + 1)).foldl (fileStep l) S1 = ((List.range q).foldl (dirStep l p) S2.1,addL S2.2 d)):=by
        rw [Hid,HF.out,fileStep];simp only;rw [show q = p.length from by omega]
       go_wp2
       go_roundw
       case rel => exact ⟨m + 1,by omega,by go_num,by rw [R.out];exact hT⟩
       case measure => simp [intOf];omega
    ·have R:Hid (cellsSt (all.take (k + 1)) = (l.take m).foldl (fileStep l) S1):=by
      rw [Hid,HS.out,List.take_of_length_le (by omega)]
     clear hF
     go_wp2
     go_roundw
     case rel => exact ⟨k + 1,by omega,by go_num,by rw [R.out];exact hT⟩
     case measure => simp [intOf];omega
  ·have R:Hid (cellsSt (all.take k) = cellsSt all):=by rw [Hid,List.take_of_length_le (by omega)]
   clear hcell
   obtain ⟨a1,c1,rfl⟩:=row_form hT.t
   obtain ⟨a2,c2,rfl⟩:=row_form hT.d
   generalize hC:cellsSt (all.take k) = S at *
   have HC:Hid _:=hC
   clear hC
   go_wp2
   go_ret
   refine ⟨?_,hT.bel⟩
   rw [cellsL,← R.out]
   exact ret_int (by simp)

open Go.RowKit
structure RSt where
 limit:Nat
 made:Nat
 all:List (Nat × List Fl)
def flatS (s:List (Nat × Value)):List Value:=s.flatMap fun x => [.int .i64 x.1,x.2]
theorem flatS_len (l:List (Nat × Value)):(flatS l).length = l.length * 2:=by
 induction l with
 | nil => rfl
 | cons f t ih => simp [flatS] at *;omega
theorem flatS_app (l:List (Nat × Value)) (x:Nat × Value):flatS (l ++ [x]) = flatS l ++ [.int .i64 x.1,x.2]:=by simp [flatS]
theorem flatS_get (l:List (Nat × Value)) (k:Nat) (h:k < l.length):(flatS l)[2 * k]? = some (.int .i64 l[k].1)∧(flatS l)[2 * k + 1]? = some l[k].2:=by
 induction l generalizing k with
 | nil => simp at h
 | cons f t ih =>
  cases k with
  | zero => simp [flatS]
  | succ k =>
   have:=ih k (by simpa using h)
   simp only [flatS,List.flatMap_cons,List.getElem_cons_succ] at *
   rw [show 2 * (k + 1) = 2 * k + 2 from by omega,show 2 * k + 2 + 1 = (2 * k + 1) + 2 from by omega]
   simpa using this
structure RefAt (w:World) (b:Nat) (r:RSt) (va vr:Value) (sn:List (Nat × Value)):Prop where
 blk:w.heap[b]? = some (.cells #[.int .i64 r.limit,.int .i64 r.made,va,vr] 193 (0,0))
 row:w.ownsRow 0 196 2 va sn.length (flatS sn)
 len:sn.length = r.all.length
 num:∀ k (h:k < sn.length) (h' : k < r.all.length),sn[k].1 = r.all[k].1
 fil:∀ k (h:k < sn.length) (h' : k < r.all.length),FilesAt w sn[k].2 r.all[k].2
 tiny:∀ x ∈ r.all,Tiny x.2
 few:r.all.length ≤ 12
 lim:r.limit ≤ 200
def findL (all:List (Nat × List Fl)) (n:Int):Option (List Fl):=(all.find? fun x => (x.1:Int) == n).map (·.2)
theorem snaps_view {w:World} {v:Value} {l:List (Nat × Value)} (h:w.ownsRow 0 196 2 v l.length (flatS l)) :
  ∃ ao cap,v = .slice ao l.length cap∧cap ≤ maxLen∧l.length ≤ cap∧∀ k (hk:k < l.length),∃ g,ao = some ⟨g,0,none⟩∧g < w.heap.size∧w.cell? ⟨g,k * 2,none⟩ = some (.int .i64 l[k].1)∧w.cell? ⟨g,k * 2 + 1,none⟩ = some l[k].2:=by
 rcases row_cells h with ⟨h1,h2⟩ | ⟨g,cap,h1,h2,_,h3,h4,h5⟩
 ·exact ⟨none,0,by rw [h1,h2],by unfold maxLen;omega,by omega,fun k hk => by omega⟩
 ·refine ⟨_,cap,h1,h4,h3,fun k hk => ⟨g,rfl,h2,h5 _ _ ?_,h5 _ _ ?_⟩⟩
  ·rw [Nat.mul_comm];exact (flatS_get l k hk).1
  ·rw [Nat.mul_comm];exact (flatS_get l k hk).2
theorem blk_cell {w:World} {b:Nat} {cs:Array Value} {t:TypeId} (h:w.heap[b]? = some (.cells cs t (0,0))) (i:Nat):w.cell? ⟨b,i,none⟩ = cs[i]?:=by simp [World.cell?,h]
theorem blk_free {w:World} {b:Nat} {cs:Array Value} {t:TypeId} (h:w.heap[b]? = some (.cells cs t (0,0))) (i:Nat):w.frozen? ⟨b,i,none⟩ = false:=by simp [World.frozen?,h]
theorem findL_hit {all:List (Nat × List Fl)} {n:Int} {k:Nat} (hk:k < all.length) (h:((all[k].1:Int) == n) = true) (hall:∀ j (hj:j < all.length),j < k→((all[j].1:Int) == n) = false):findL all n = some all[k].2:=by
 have:all.find? (fun x => (x.1:Int) == n) = some all[k]:=by
  rw [List.find?_eq_some_iff_getElem]
  exact ⟨h,k,hk,rfl,fun j hj => by simpa using hall j (by omega) hj⟩
 simp [findL,this]
theorem findL_miss {all:List (Nat × List Fl)} {n:Int} (hall:∀ j (hj:j < all.length),((all[j].1:Int) == n) = false):findL all n = none:=by
 have:all.find? (fun x => (x.1:Int) == n) = none:=by
  rw [List.find?_eq_none]
  intro x hx;obtain ⟨j,hj,rfl⟩:=List.getElem_of_mem hx;simpa using hall j hj
 simp [findL,this]
def FindOut (r:RSt) (sn:List (Nat × Value)) (n:Int) (e:Ending):Prop :=
 (∃ k,∃ (h1:k < sn.length) (h2:k < r.all.length),findL r.all n = some r.all[k].2∧e = .returned (.tuple #[sn[k].2,.bool true]))∨(findL r.all n = none∧e = .returned (.tuple #[.slice none 0 0,.bool false]))
set_option maxHeartbeats 1000000 in
theorem find_any (b:Nat) (r:RSt) (va vr:Value) (sn:List (Nat × Value)) (n:Int) (w:World) (h:RefAt w b r va vr sn) :
  Calls Tryz.prog 125 #[.pointer (some ⟨b,0,none⟩),.int .i64 n] w fun e w' => w' = w ∧
   FindOut r sn n e:=by
 have h0:=blk_cell h.blk 0
 have h1:=blk_cell h.blk 1
 have h2:=blk_cell h.blk 2
 simp at h0 h1 h2
 obtain ⟨ao,cap,rfl,hm,hc,hsn⟩:=snaps_view h.row
 have hlen:=h.len
 have hnum:=h.num
 have hfew:=h.few
 clear h
 go_enter Tryz.func125,Tryz.ntmps125
 go_wp2
 go_loop [6] (fun i => ∃ k:Nat,k ≤ sn.length∧i = .int .i64 k∧∀ j (hj:j < r.all.length),j < k→((r.all[j].1:Int) == n) = false) (fun i => sn.length - (intOf i).toNat)
 case atStart => exact ⟨0,Nat.zero_le _,rfl,fun j _ h => by omega⟩
 case round =>
  obtain ⟨k,hk,rfl,hall⟩:=hrel
  by_cases hlt:k < sn.length
  ·obtain ⟨g,rfl,hg,hp,hd⟩:=hsn k hlt
   have hka:k < r.all.length:=by omega
   rw [hnum k hlt hka] at hp
   clear hsn
   cases he:((r.all[k].1:Int) == n)
   ·have R:∀ j (hj:j < r.all.length),j < k + 1→((r.all[j].1:Int) == n) = false:=by
     intro j hj hjk
     by_cases e:j = k
     ·subst e;exact he
     ·exact hall j hj (by omega)
    clear hall
    go_wp2
    go_round
    case rel => exact ⟨k + 1,by omega,by go_num,R⟩
    case measure => simp [intOf];omega
   ·have R:Hid _:=findL_hit hka he hall
    clear hall
    go_wp2
    go_ret2
    exact ⟨rfl,.inl ⟨k,hlt,hka,R.out,rfl⟩⟩
  ·have R:Hid _:=findL_miss (n:=n) (fun j hj => hall j hj (by omega))
   clear hall
   go_wp2
   go_ret2
   exact ⟨rfl,.inr ⟨R.out,rfl⟩⟩

open Go.RowKit
theorem Tryz.infoFiles:(Tryz.prog.info? 194).map (fun i => (i.zero,i.size,i.bytes)) = some (some (.slice none 0 0),1,24):=by kernel_rfl
theorem Tryz.infoSnap:(Tryz.prog.info? 196).map (fun i => (i.zero,i.size,i.bytes)) = some (some (.agg #[.int .i64 0,.slice none 0 0]),2,32):=by kernel_rfl
theorem RefAt.later {w w' : World} {b:Nat} {r:RSt} {va vr:Value} {sn:List (Nat × Value)} (h:RefAt w b r va vr sn) {B:Nat} (hb:Below B w w') (hB:w.heap.size ≤ B):RefAt w' b r va vr sn:=by
 have hlt:=(Array.getElem?_eq_some_iff.1 h.blk).1
 exact ⟨(hb.block b (by omega)).trans h.blk,ownsRow_below h.row hb hB,h.len,h.num,fun k h1 h2 => files_below (h.fil k h1 h2) hb hB,h.tiny,h.few,h.lim⟩
def cellsOf (r:RSt):Nat:=cellsL (r.all.map (·.2))
set_option maxHeartbeats 1000000 in
theorem storeCells_any (b:Nat) (r:RSt) (va vr:Value) (sn:List (Nat × Value)) (w:World) (h:RefAt w b r va vr sn) :
  Calls Tryz.prog 101 #[.pointer (some ⟨b,0,none⟩)] w fun e w' => e = .returned (.int .i64 (cellsOf r))∧Below w.heap.size w w':=by
 have h2:=blk_cell h.blk 2
 simp at h2
 have hbl:=(Array.getElem?_eq_some_iff.1 h.blk).1
 obtain ⟨ao,cap,rfl,hm,hc,hsn⟩:=snaps_view h.row
 have hlen:=h.len
 have hfew:=h.few
 have H:Hid _:=h
 clear h
 go_enter Tryz.func101,Tryz.ntmps101
 go_wp2
 go_loopw [3,4] (fun v i wr => ∃ k:Nat,k ≤ sn.length∧i = .int .i64 k∧wr.ownsRow w.heap.size 194 1 v k ((sn.map (·.2)).take k)∧Below w.heap.size w wr) (fun _ i _ => sn.length - (intOf i).toNat)
 case atStart => exact ⟨0,Nat.zero_le _,rfl,World.ownsRow_nil _ _ _ _,Below.refl _ _⟩
 case round =>
  obtain ⟨k,hk,rfl,hown,hbel⟩:=hrel
  have hz:=hbel.size
  have h2':=(hbel.cell (p:=⟨b,2,none⟩) hbl).trans h2
  by_cases hlt:k < sn.length
  ·obtain ⟨g,rfl,hg,hp,hd⟩:=hsn k hlt
   have hd':=(hbel.cell (p:=⟨g,k * 2 + 1,none⟩) hg).trans hd
   have hka:k < r.all.length:=by omega
   have hF:=H.out.fil k hlt hka
   obtain ⟨a3,c3,h3⟩:=row_form hF
   have R:Hid ((sn.map (·.2)).take (k + 1) = (sn.map (·.2)).take k ++ [sn[k].2]):=by rw [Hid,List.take_succ_eq_append_getElem (by simpa using hlt),List.getElem_map]
   rw [h3] at hd'
   clear hsn hp hd hF
   go_wp2_with (at_builtin;go_loud (refine wp_app 239 194 _ 1 24 Tryz.infoFiles Tryz.underlying239 rfl (by decide) rfl (.tmp 14) (.tmp 23) rfl hown [.slice a3 r.all[k].2.length c3] rfl (by intro u hu;rw [List.mem_singleton] at hu;rw [hu];rfl) ⟨rfl,rfl,rfl,rfl⟩ rfl rfl ?_ ?_ hz ?_))
   ·unfold maxLen;omega
   ·omega
   intro v' w2 hown' hb'
   go_wp2
   go_roundw
   case rel => exact ⟨k + 1,by omega,by go_num,by rw [R.out,h3];exact hown',hbel.trans hb'⟩
   case measure => simp [intOf];omega
  ·have hke:k = sn.length:=by omega
   subst hke
   clear hsn hlt
   have hL:ListsAt wr u3 (r.all.map (·.2)):=by
    refine ⟨sn.map (·.2),?_,?_⟩
    ·rw [List.length_map,← hlen];rw [List.take_of_length_le (by simp)] at hown;exact ownsRow_le hown (Nat.zero_le _)
    ·intro j u l hu hl
     rw [List.getElem?_map,Option.map_eq_some_iff] at hu hl
     obtain ⟨x,hx,rfl⟩:=hu
     obtain ⟨y,hy,rfl⟩:=hl
     obtain ⟨hj,rfl⟩:=List.getElem?_eq_some_iff.1 hx
     obtain ⟨hj',rfl⟩:=List.getElem?_eq_some_iff.1 hy
     exact files_below (H.out.fil j hj hj') hbel (Nat.le_refl _)
   have hT:∀ l ∈ r.all.map (·.2),Tiny l:=by
    intro l hl;rw [List.mem_map] at hl;obtain ⟨x,hx,rfl⟩:=hl;exact H.out.tiny x hx
   have hN:(r.all.map (·.2)).length ≤ 20:=by simp;omega
   go_wp2_with (go_at_call 135;refine (cells_any _ _ _ hL hT hN).mono ?_;rintro e w2 ⟨rfl,hb2⟩)
   go_ret
   exact ⟨rfl,hbel.trans (hb2.mono hz)⟩

open Go.RowKit
theorem step_app_at {W wr:World} {ops:Array Oper} {o:Oper} {a:Act} {K:Act→World→Prop} {Q:Exit→Act→World→Prop} {E:Prop} (t e:TypeId) (z:Value) (size bytes:Nat)
  (hinf:(Tryz.prog.info? e).map (fun i => (i.zero,i.size,i.bytes)) = some (some z,size,bytes)) (ht:Tryz.prog.underlying t = some (.slice e)) (hzs:z.cells.size = size) (hsz:0 < size)
  (hgd:o.guard = none) (s x:Operand) (ho:o.op = .call { callee:=.builtin .append,args:=#[s,x],argTypes:=#[t,t] })
  {base:Nat} {v:Value} {n:Nat} {xs:List Value} (hown:wr.ownsRow base e size v n xs) (cs:List Value) (hcs:cs.length = size) (h1:∀ u ∈ cs,u.oneCell' = true)
  (hW:Like W (wr.alloc (.cells cs.toArray e)))
  (hs:a.eval s = v) (hx:a.eval x = .slice (some ⟨wr.heap.size,0,none⟩) 1 1)
  (hm:n + 1 ≤ maxLen) (hby:(n + 1) * bytes ≤ 140737488355328) (hbase:base ≤ wr.heap.size)
  (h:∀ v' w',w'.ownsRow base e size v' (n + 1) (xs ++ cs)→wr.grownBy w' v.ownBlock→Moved wr v v'→K (a.put o.dst v') w') :
  if Region.wanted o (yielded ops a.tmps) = true then Oper.wp Tryz.prog o a W K Q else E:=by
 obtain ⟨i0,hi,hz0,hz1,hz2⟩:=info_parts hinf
 have hz:(wr.alloc (.cells cs.toArray e)).heap.size = wr.heap.size + 1:=by simp
 have hw:Region.wanted o (yielded ops a.tmps) = true:=by simp [Region.wanted,hgd]
 rw [if_pos hw]
 have hnews:∀ j u,cs[j]? = some u→W.cell? ((⟨wr.heap.size,0,none⟩ : Addr).add j) = some u:=by
  intro j u hj
  have ha:(Addr.mk wr.heap.size 0 none).add j = ⟨wr.heap.size,j,none⟩:=by simp only [Addr.add];split <;> simp_all
  rw [ha];simp only [World.cell?,hW.heap,heap_alloc_new];simpa using hj
 obtain ⟨v',w',hr,h2,h3,_,h5⟩:=run_append_own_at (P:=Tryz.prog) W base t o.type e i0 z size bytes ht hi hz0 hz1 hz2 hzs hsz v n xs (hW.ownsRow (hown.alloc _)) ⟨wr.heap.size,0,none⟩ 1 1 cs (by omega) hnews h1 hm hby (by rw [hW.heap,hz];omega)
 unfold Oper.wp
 simp only [execOp,ho,resolve,invoke,builtin,Sem.run_bind,Sem.run_pure,Result.andThen_ok,List.map_toArray,List.map_cons,List.map_nil,hs,hx,hr]
 refine h v' w' h2 ⟨h3.os.trans hW.os,h3.tape.trans hW.tape,h3.output.trans hW.output,?_,?_⟩ ?_
 ·have:=h3.size;rw [hW.heap,hz] at this;omega
 ·intro k hk hne
  rw [h3.block k (by rw [hW.heap,hz];omega) hne,hW.heap]
  exact Below.heap_alloc wr _ k hk
 ·intro k hk
  rcases h5 with h5 | h5
  ·exact .inl (h5.symm.trans hk)
  ·right;rw [h5,hW.heap,hz] at hk;simp at hk;omega
theorem setCell_blk {w:World} {b i:Nat} {cs:Array Value} {t:TypeId} (h:w.heap[b]? = some (.cells cs t (0,0))) (u:Value):(w.setCell ⟨b,i,none⟩ u).heap[b]? = some (.cells (cs.setIfInBounds i u) t (0,0)):=by
 simp only [World.setCell,Array.getElem?_modify,h];simp
theorem row_type {w:World} {base:Nat} {e:TypeId} {size n:Nat} {v:Value} {xs:List Value} (h:w.ownsRow base e size v n xs) {k:Nat} (hk:v.ownBlock = some k):∃ c,w.heap[k]? = some (.cells c e (0,0)):=by
 rcases h.2 with ⟨rfl,_⟩ | ⟨g,cap,cur,rfl,_,hg,_⟩
 ·simp [Value.ownBlock] at hk
 ·simp [Value.ownBlock] at hk;subst hk;exact ⟨cur,hg⟩
theorem row_kept {w w' : World} {base:Nat} {e:TypeId} {size n:Nat} {v:Value} {xs:List Value} (h:w.ownsRow base e size v n xs) (hb:∀ (k:Nat) (c:Array Value),w.heap[k]? = some (.cells c e (0,0))→w'.heap[k]? = w.heap[k]?):w'.ownsRow base e size v n xs:=by
 refine ⟨h.1,?_⟩
 rcases h.2 with h | ⟨g,cap,cur,rfl,h2,h3,h4⟩
 ·exact .inl h
 ·exact .inr ⟨g,cap,cur,rfl,h2,(hb g _ h3).trans h3,h4⟩
def keepR (r:RSt) (l:List Fl):RSt × Nat × Nat :=
 if 12 ≤ r.all.length then (r,0,7)
 else if r.limit < cellsOf { r with all:=r.all ++ [(r.made,l)] } then (r,0,8)
 else ({ r with all:=r.all ++ [(r.made,l)],made:=r.made + 1 },r.made,0)
structure RefStep (w:World) (b:Nat) (va:Value) (sn:List (Nat × Value)) (w' : World) (va' : Value) (sn' : List (Nat × Value)):Prop where
 os:w'.os = w.os
 tape:w'.tape = w.tape
 output:w'.output = w.output
 size:w.heap.size ≤ w'.heap.size
 block:∀ k,k < w.heap.size→k ≠ b→va.ownBlock ≠ some k→w'.heap[k]? = w.heap[k]?
 moved:Moved w va va'
 vals:∀ x ∈ sn',x ∈ sn∨∀ k,x.2.ownBlock = some k→w.heap.size ≤ k
def KeepOut (w:World) (b:Nat) (r:RSt) (va vr:Value) (sn:List (Nat × Value)) (v:Value) (l:List Fl) (e:Ending) (w' : World):Prop :=
 ∃ va' sn',e = .returned (.tuple #[.int .i64 (keepR r l).2.1,.int .i64 (keepR r l).2.2])∧RefAt w' b (keepR r l).1 va' vr sn' ∧
  w'.os = w.os∧w'.tape = w.tape∧w'.output = w.output∧w.heap.size ≤ w'.heap.size∧(∀ k,k < w.heap.size→k ≠ b→va.ownBlock ≠ some k→w'.heap[k]? = w.heap[k]?)∧Moved w va va'∧∀ x ∈ sn',x ∈ sn∨x.2 = v
theorem refAt_push {w w' : World} {b:Nat} {r:RSt} {va vr:Value} {sn:List (Nat × Value)} {v v' : Value} {l:List Fl} {n:Nat} (h:RefAt w b r va vr sn) (hv:FilesAt w v l) (ht:Tiny l) (h12:r.all.length < 12)
  (h1:w'.ownsRow 0 196 2 v' n (flatS sn ++ [.int .i64 r.made,v])) (h2:w.grownBy w' va.ownBlock) :
  RefAt (w'.setCell ⟨b,2,none⟩ v') b { r with all:=r.all ++ [(r.made,l)] } v' vr (sn ++ [(r.made,v)]):=by
 have hbl:=(Array.getElem?_eq_some_iff.1 h.blk).1
 have hva:∀ k,va.ownBlock = some k→∃ c,w.heap[k]? = some (.cells c 196 (0,0)):=fun k hk => row_type h.row hk
 have hb' : w'.heap[b]? = some (.cells #[.int .i64 r.limit,.int .i64 r.made,va,vr] 193 (0,0)):=by
  rw [h2.block b hbl ?_];· exact h.blk
  intro e;obtain ⟨c,hc⟩:=hva b e.symm;rw [h.blk] at hc;simp at hc
 have hkeep:∀ (k:Nat) (c:Array Value),w.heap[k]? = some (.cells c 236 (0,0))→(w'.setCell ⟨b,2,none⟩ v').heap[k]? = w.heap[k]?:=by
  intro k c hk
  have hkl:=(Array.getElem?_eq_some_iff.1 hk).1
  rw [Below.heap_setCell _ _ _ _ ?_,h2.block k hkl ?_]
  ·intro e;obtain ⟨c',hc⟩:=hva k e.symm;rw [hk] at hc;simp at hc
  ·intro e;simp only at e;subst e;rw [h.blk] at hk;simp at hk
 have hlen:=h.len
 have hn:n = (sn ++ [(r.made,v)]).length:=by have:=h1.1;rw [List.length_append,flatS_len] at this;simp at this;simp;omega
 refine ⟨?_,?_,by simp [hlen],?_,?_,?_,by simp;omega,h.lim⟩
 ·rw [setCell_blk hb'];rfl
 ·rw [flatS_app,← hn]
  refine row_kept h1 ?_
  intro k c hk
  rw [Below.heap_setCell _ _ _ _ ?_]
  intro e;simp only at e;subst e;rw [hb'] at hk;simp at hk
 ·intro k hk hk'
  by_cases hkl:k < sn.length
  ·rw [List.getElem_append_left hkl,List.getElem_append_left (by omega)];exact h.num k hkl (by omega)
  ·have:k = sn.length:=by simp at hk;omega
   subst this
   rw [List.getElem_append_right (Nat.le_refl _),List.getElem_append_right (by omega)];simp [hlen]
 ·intro k hk hk'
  by_cases hkl:k < sn.length
  ·rw [List.getElem_append_left hkl,List.getElem_append_left (by omega)];exact row_kept (h.fil k hkl (by omega)) hkeep
  ·have:k = sn.length:=by simp at hk;omega
   subst this
   rw [List.getElem_append_right (Nat.le_refl _),List.getElem_append_right (by omega)];simp [hlen];exact row_kept hv hkeep
 ·intro x hx;simp at hx;rcases hx with hx | rfl
  ·exact h.tiny x hx
  ·exact ht
theorem refAt_pop {w:World} {b:Nat} {r:RSt} {vr:Value} {sn:List (Nat × Value)} {g n cap:Nat} {x:Nat × Value} {y:Nat × List Fl} (h:RefAt w b { r with all:=r.all ++ [y] } (.slice (some ⟨g,0,none⟩) (n + 1) cap) vr (sn ++ [x])) (hn:n = sn.length) :
  RefAt (w.setCell ⟨b,2,none⟩ (.slice (some ⟨g,0,none⟩) n cap)) b r (.slice (some ⟨g,0,none⟩) n cap) vr sn:=by
 have hlen:sn.length = r.all.length:=by have:=h.len;simpa using this
 have hother:∀ (k:Nat) (c:Array Value) (e:TypeId),e ≠ 193→w.heap[k]? = some (.cells c e (0,0))→(w.setCell ⟨b,2,none⟩ (.slice (some ⟨g,0,none⟩) n cap)).heap[k]? = w.heap[k]?:=by
  intro k c e he hk
  rw [Below.heap_setCell _ _ _ _ ?_]
  intro e';simp only at e';subst e';rw [h.blk] at hk;simp at hk;exact he hk.2.symm
 have hrow:w.ownsRow 0 196 2 (.slice (some ⟨g,0,none⟩) n cap) sn.length (flatS sn):=by
  have h1:=h.row
  refine ⟨flatS_len sn,.inr ?_⟩
  rcases h1.2 with ⟨h2,_⟩ | ⟨g',cap',cur,h2,h3,h4,h5,h6,h7,h8⟩
  ·simp at h2
  ·simp at h2;obtain ⟨rfl,_,rfl⟩:=h2
   simp at h5
   refine ⟨g,cap,cur,by rw [hn],h3,h4,by omega,h6,h7,?_⟩
   have:=congrArg (List.take (sn.length * 2)) h8
   rw [List.take_take,flatS_app,List.take_append_of_le_length (by rw [flatS_len];omega),List.take_of_length_le (l:=flatS sn) (by rw [flatS_len];omega)] at this
   rw [← this];congr 1;simp
 refine ⟨?_,row_kept hrow fun k c hk => hother k c _ (by decide) hk,hlen,?_,?_,?_,?_,h.lim⟩
 ·rw [setCell_blk h.blk];rfl
 ·intro k hk hk'
  have:=h.num k (by simp;omega) (by simp;omega)
  rw [List.getElem_append_left hk] at this;simp only at this;rw [List.getElem_append_left hk'] at this;exact this
 ·intro k hk hk'
  have:=h.fil k (by simp;omega) (by simp;omega)
  rw [List.getElem_append_left hk] at this;simp only at this;rw [List.getElem_append_left hk'] at this
  exact row_kept this fun k c hk => hother k c _ (by decide) hk
 ·intro z hz;exact h.tiny z (by simp [hz])
 ·have:=h.few;simp at this;omega
theorem push_blk {w w' : World} {b:Nat} {r:RSt} {va vr:Value} {sn:List (Nat × Value)} (h:RefAt w b r va vr sn) (h2:w.grownBy w' va.ownBlock):w'.heap[b]? = some (.cells #[.int .i64 r.limit,.int .i64 r.made,va,vr] 193 (0,0)):=by
 have hbl:=(Array.getElem?_eq_some_iff.1 h.blk).1
 rw [h2.block b hbl ?_]
 ·exact h.blk
 ·intro e;obtain ⟨c,hc⟩:=row_type h.row e.symm;rw [h.blk] at hc;simp at hc
theorem row_some {w:World} {base:Nat} {e:TypeId} {size n:Nat} {v:Value} {xs:List Value} (h:w.ownsRow base e size v (n + 1) xs):∃ g cap,v = .slice (some ⟨g,0,none⟩) (n + 1) cap:=by
 rcases h.2 with ⟨_,h⟩ | ⟨g,cap,cur,h,_⟩
 ·omega
 ·exact ⟨g,cap,h⟩
structure Pushed (w:World) (b:Nat) (r:RSt) (va vr:Value) (sn:List (Nat × Value)) (v:Value) (l:List Fl) (wc:World) (v' : Value):Prop where
 ref:RefAt wc b { r with all:=r.all ++ [(r.made,l)] } v' vr (sn ++ [(r.made,v)])
 os:wc.os = w.os
 tape:wc.tape = w.tape
 output:wc.output = w.output
 size:w.heap.size ≤ wc.heap.size
 block:∀ k,k < w.heap.size→k ≠ b→va.ownBlock ≠ some k→wc.heap[k]? = w.heap[k]?
 moved:Moved w va v'
 form:∃ g cap,v' = .slice (some ⟨g,0,none⟩) (sn.length + 1) cap
theorem pushed_mk {w w' wc:World} {b:Nat} {r:RSt} {va vr:Value} {sn:List (Nat × Value)} {v v' : Value} {l:List Fl} (h:RefAt w b r va vr sn) (hv:FilesAt w v l) (ht:Tiny l) (h12:r.all.length < 12)
  (h1:w'.ownsRow 0 196 2 v' (sn.length + 1) (flatS sn ++ [.int .i64 r.made,v])) (h2:w.grownBy w' va.ownBlock) (h3:Moved w va v') (hc:Like wc (w'.setCell ⟨b,2,none⟩ v')):Pushed w b r va vr sn v l wc v':=by
 have R:=(refAt_push h hv ht h12 h1 h2).later (hc.below (w'.setCell ⟨b,2,none⟩ v').heap.size) (Nat.le_refl _)
 refine ⟨R,hc.os.trans h2.os,hc.tape.trans h2.tape,hc.output.trans h2.output,?_,?_,h3,?_⟩
 ·rw [hc.heap];simpa [World.setCell] using h2.size
 ·intro k hk hkb hkv
  rw [hc.heap,Below.heap_setCell _ _ _ _ hkb,h2.block k hk (Ne.symm hkv)]
 ·rcases h1.2 with ⟨_,h⟩ | ⟨g,cap,cur,h,_⟩
  ·omega
  ·exact ⟨g,cap,h⟩
theorem Pushed.frame {w wc w2 w3:World} {b:Nat} {r:RSt} {va vr v v' : Value} {sn:List (Nat × Value)} {l:List Fl} (h:Pushed w b r va vr sn v l wc v') (h2:Below wc.heap.size wc w2) (h3:w3.os = w2.os∧w3.tape = w2.tape∧w3.output = w2.output∧w3.heap.size = w2.heap.size∧∀ k,k ≠ b→w3.heap[k]? = w2.heap[k]?) :
  w3.os = w.os∧w3.tape = w.tape∧w3.output = w.output∧w.heap.size ≤ w3.heap.size∧(∀ k,k < w.heap.size→k ≠ b→va.ownBlock ≠ some k→w3.heap[k]? = w.heap[k]?):=by
 have hs:=h.size
 have hs2:=h2.size
 refine ⟨h3.1.trans (h2.os.trans h.os),h3.2.1.trans (h2.tape.trans h.tape),h3.2.2.1.trans (h2.output.trans h.output),by omega,?_⟩
 intro k hk hkb hkv
 rw [h3.2.2.2.2 k hkb,h2.block k (by omega),h.block k hk hkb hkv]
theorem setCell_frame (w:World) (b i:Nat) (u:Value):(w.setCell ⟨b,i,none⟩ u).os = w.os∧(w.setCell ⟨b,i,none⟩ u).tape = w.tape∧(w.setCell ⟨b,i,none⟩ u).output = w.output∧(w.setCell ⟨b,i,none⟩ u).heap.size = w.heap.size∧∀ k,k ≠ b→(w.setCell ⟨b,i,none⟩ u).heap[k]? = w.heap[k]? :=
 ⟨rfl,rfl,rfl,by simp [World.setCell],fun k hk => Below.heap_setCell _ _ _ _ hk⟩
theorem refAt_made {w:World} {b:Nat} {r:RSt} {va vr:Value} {sn:List (Nat × Value)} (h:RefAt w b r va vr sn) (m:Nat):RefAt (w.setCell ⟨b,1,none⟩ (.int .i64 m)) b { r with made:=m } va vr sn:=by
 have hother:∀ (k:Nat) (c:Array Value) (e:TypeId),e ≠ 193→w.heap[k]? = some (.cells c e (0,0))→(w.setCell ⟨b,1,none⟩ (.int .i64 m)).heap[k]? = w.heap[k]?:=by
  intro k c e he hk
  rw [Below.heap_setCell _ _ _ _ ?_]
  intro e';simp only at e';subst e';rw [h.blk] at hk;simp at hk;exact he hk.2.symm
 refine ⟨?_,row_kept h.row fun k c hk => hother k c _ (by decide) hk,h.len,h.num,fun k h1 h2 => row_kept (h.fil k h1 h2) fun k c hk => hother k c _ (by decide) hk,h.tiny,h.few,h.lim⟩
 rw [setCell_blk h.blk];rfl
theorem keepR_many {r:RSt} {l:List Fl} (h:12 ≤ r.all.length):keepR r l = (r,0,7):=by unfold keepR;rw [if_pos h]
theorem keepR_full {r:RSt} {l:List Fl} (h:r.all.length < 12) (h2:r.limit < cellsOf { r with all:=r.all ++ [(r.made,l)] }):keepR r l = (r,0,8):=by unfold keepR;rw [if_neg (by omega),if_pos h2]
theorem keepR_ok {r:RSt} {l:List Fl} (h:r.all.length < 12) (h2:¬ r.limit < cellsOf { r with all:=r.all ++ [(r.made,l)] }):keepR r l = ({ r with all:=r.all ++ [(r.made,l)],made:=r.made + 1 },r.made,0):=by unfold keepR;rw [if_neg (by omega),if_neg h2]
set_option maxHeartbeats 2000000 in
theorem keep_any (b:Nat) (r:RSt) (va vr:Value) (sn:List (Nat × Value)) (v:Value) (l:List Fl) (w:World) (h:RefAt w b r va vr sn) (hv:FilesAt w v l) (ht:Tiny l) (hmade:r.made < 4611686018427387904) :
  Calls Tryz.prog 130 #[.pointer (some ⟨b,0,none⟩),v] w fun e w' => KeepOut w b r va vr sn v l e w':=by
 have h0:=blk_cell h.blk 0
 have h1:=blk_cell h.blk 1
 have h2:=blk_cell h.blk 2
 simp at h0 h1 h2
 have hfz:=blk_free h.blk
 have hbl:=(Array.getElem?_eq_some_iff.1 h.blk).1
 have Hlen:Hid _:=h.len
 have hl1:sn.length ≤ r.all.length:=by have:=h.len;omega
 have hl2:r.all.length ≤ sn.length:=by have:=h.len;omega
 have hlim:=h.lim
 have H:Hid _:=h
 obtain ⟨ao,cap,hva⟩:=row_form h.row
 obtain ⟨aov,capv,hvv⟩:=row_form hv
 by_cases h12:12 ≤ r.all.length
 ·have R:Hid _:=keepR_many (l:=l) h12
  clear h
  subst hva hvv
  go_enter Tryz.func130,Tryz.ntmps130
  go_wp2
  go_ret2
  refine ⟨_,sn,?_,?_,rfl,rfl,rfl,Nat.le_refl _,fun _ _ _ _ => rfl,Moved.refl _ _,fun x hx => .inl hx⟩
  ·rw [R.out];rfl
  ·rw [R.out];exact H.out
 ·have h12' : r.all.length < 12:=by omega
  have hrow:=h.row
  have hnb:∀ g,ao = some ⟨g,0,none⟩→g ≠ b:=by
   intro g hg e;subst e
   obtain ⟨c,hc⟩:=row_type hrow (k:=g) (by rw [hva,hg];rfl)
   rw [h.blk] at hc;simp at hc
  clear h
  subst hva hvv
  go_enter Tryz.func130,Tryz.ntmps130
  go_wp2
  go_cut [6] (fun _ wc => ∃ v',Pushed w b r (.slice ao sn.length cap) vr sn (.slice aov l.length capv) l wc v')
  case first =>
   go_region_law (refine step_app_at 190 196 _ 2 32 Tryz.infoSnap Tryz.underlying190 rfl (by decide) rfl (.tmp 17) (.tmp 24) rfl hrow [.int .i64 r.made,.slice aov l.length capv] rfl (by intro u hu;simp at hu;rcases hu with rfl | rfl <;> rfl) ⟨rfl,rfl,rfl,rfl⟩ rfl rfl (by unfold maxLen;omega) (by omega) (Nat.zero_le _) ?_;intro v' w' hown' hg hmv;have hb':=push_blk H.out hg;have hc2:=blk_cell hb' 2;have hf2:=blk_free hb' 2;simp only [List.getElem?_toArray,List.getElem?_cons_succ,List.getElem?_cons_zero] at hc2;clear hb';obtain ⟨g',cap',rfl⟩:=row_some hown')
   all_goals
    go_wp2_with fail
    go_meet
    case rel => exact ⟨_,pushed_mk H.out hv ht h12' (by assumption) (by assumption) (by assumption) ⟨rfl,rfl,rfl,rfl⟩⟩
  case rest =>
   obtain ⟨v',hP⟩:=hcut
   obtain ⟨g',cap',rfl⟩:=hP.form
   have H2:Hid _:=hP.ref
   clear h0 h1 h2 hfz hrow hnb
   have h0:=blk_cell H2.out.blk 0
   have h1:=blk_cell H2.out.blk 1
   have h2:=blk_cell H2.out.blk 2
   simp at h0 h1 h2
   have hbl2:=(Array.getElem?_eq_some_iff.1 H2.out.blk).1
   go_wp2_with fail
   refine (storeCells_any b _ _ vr _ _ H2.out).mono ?_
   rintro e w2 ⟨rfl,hb2⟩
   have H3:=H2.out.later hb2 (Nat.le_refl _)
   clear h0 h1 h2
   have h0:=blk_cell H3.blk 0
   have h1:=blk_cell H3.blk 1
   have h2:=blk_cell H3.blk 2
   have hfz:=blk_free H3.blk
   simp at h0 h1 h2
   by_cases hC:r.limit < cellsOf { r with all:=r.all ++ [(r.made,l)] }
   ·have R:Hid _:=keepR_full h12' hC
    have HP:Hid _:=hP
    clear hP
    generalize cellsOf { r with all:=r.all ++ [(r.made,l)] } = C at *
    have hcapI:(sn.length:Int) ≤ (cap' : Int):=by
     rcases H3.row.2 with ⟨h,_⟩ | ⟨_,_,_,h,_,_,h5,_⟩
     ·simp at h
     ·simp at h h5;omega
    go_wp2
    go_region
    go_wp2
    go_ret2
    have F:=(HP.out).frame hb2 (setCell_frame w2 b 2 (.slice (some ⟨g',0,none⟩) sn.length cap'))
    refine ⟨.slice (some ⟨g',0,none⟩) sn.length cap',sn,?_,?_,F.1,F.2.1,F.2.2.1,F.2.2.2.1,F.2.2.2.2,HP.out.moved,fun x hx => .inl hx⟩
    ·rw [R.out];rfl
    ·rw [R.out];exact (refAt_pop H3 rfl).later ((Below.refl _ _).drew) (Nat.le_refl _)
   ·have R:Hid _:=keepR_ok h12' hC
    have HP:Hid _:=hP
    clear hP
    generalize cellsOf { r with all:=r.all ++ [(r.made,l)] } = C at *
    go_wp2
    go_ret2
    have F:=(HP.out).frame hb2 (setCell_frame w2 b 1 (.int .i64 (r.made + 1:Nat)))
    refine ⟨.slice (some ⟨g',0,none⟩) (sn.length + 1) cap',sn ++ [(r.made,.slice aov l.length capv)],?_,?_,F.1,F.2.1,F.2.2.1,F.2.2.2.1,F.2.2.2.2,HP.out.moved,?_⟩
    ·rw [R.out];rfl
    ·rw [R.out];exact refAt_made H3 (r.made + 1)
    ·intro x hx;simp at hx;rcases hx with hx | rfl
     ·exact .inl hx
     ·exact .inr rfl
end Go.Proofs.YtdcbgfhkfmohiaaGreatDoor
