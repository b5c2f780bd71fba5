/- The law's asks: Ask. -/
import Derived.Test.YtdcbgfhkfmohiaaGreatDoorAl20
namespace Go.Proofs.YtdcbgfhkfmohiaaGreatDoor
open Go.RowKit
set_option maxHeartbeats 4000000 in
set_option maxRecDepth 50000 in
theorem asks_ask (D:Duo) (Wn N M:Int) (S T:Str) (L:Value) (w:World) (hD:DuoAt w D) (hmx:MaxOk w) (hS:S.length + 1 < maxLen) :
  Calls Tryz.prog 70 #[pairV D,opV 9 Wn N M S T L] w fun e w' => EditOut w D e w':=by
 have HD:Hid _:=hD
 clear hD
 obtain ⟨w1,hw1,hA1,hb1,hsz1⟩:=args_box w D 9 Wn N M S T L
 have hD1:DuoAt w1 D:=duo_below HD.out hb1
 have C:Hid (Calls Tryz.prog 32 #[ptrV D.B.sb,.int .i64 N,SV S] w1 fun e w' => DiffOut w1 (askR D.r N S) e w'):=storeAsk_any D.B D.r N S w1 hD1.ok hD1.ag (hmx.later hb1)
 have HA1:Hid _:=hA1
 have HB1:Hid _:=hb1
 have HD1:Hid _:=hD1
 have HW1:Hid _:=hw1
 have HSL:Hid _:=hS
 clear hA1 hb1 hD1 hw1 hmx hS
 go_enter Tryz.func70,Tryz.ntmps70
 go_wp2_with fail
 rw [← HW1.out]
 refine C.out.mono ?_
 rintro e w2 ⟨rfl,hb2⟩
 have hA2:=HA1.out.below hb2
 have hD2:DuoAt w2 D:=duo_below HD1.out hb2
 have CR:Hid (Calls Tryz.prog 104 #[.pointer (some ⟨D.b,0,none⟩),.int .i64 N,SV S] w2 fun e w' => DiffOut w2 (askR D.r N S) e w'):=refAsk_any D.b D.r D.va D.vr D.sn N S w2 hD2.ref HSL.out
 have cN:w2.cell? ⟨w.heap.size + 1,2,none⟩ = some (.int .i64 N):=(blk_cell hA2.op 2).trans rfl
 have cS:w2.cell? ⟨w.heap.size + 1,4,none⟩ = some (SV S):=(blk_cell hA2.op 4).trans rfl
 have cB:w2.cell? ⟨w.heap.size,1,none⟩ = some (ptrV D.b):=(blk_cell hA2.pair 1).trans rfl
 have HB2:Hid (Below w.heap.size w w2):=HB1.out.trans (hb2.mono HB1.out.size)
 clear hb2 hA2 hD2 C HA1 HD1
 generalize askR D.r N S = o at *
 obtain ⟨o1,o2⟩:=o
 go_wp2_with fail
 refine CR.out.mono ?_
 rintro e w3 ⟨rfl,hb3⟩
 have hb4:Below w.heap.size w w3:=HB2.out.trans (hb3.mono HB2.out.size)
 have RR:Hid (∃ D',DuoAt w3 D'∧DuoStep w D w3 D'):=⟨D,duo_below HD.out hb4,DuoStep.of_below hb4⟩
 clear hb3 hb4 CR cN cS cB HB2
 go_wp2_with (go_at_call 68;refine (num_any _ _).mono ?_;rintro e w4 ⟨rfl,rfl⟩)
 go_ret
 exact ⟨by first | rfl | simp,RR.out⟩
theorem asks_ok9 {K Wn N M:Int} {S T:Str} {L:Value} (hK:K ≤ 9) (hS:S.length + 1 < maxLen):AsksOk K Wn N M S T L:=by
 by_cases h8:K ≤ 8
 ·exact asks_ok8 h8 hS
 ·intro _ _ D w hD _ hmx
  obtain rfl:K = 9:=by omega
  exact asks_ask D Wn N M S T L w hD hmx hS

open Go.RowKit
theorem names_from {base:Nat} {W w:World} {v:Value} {o:Option (List Str)} (h:NamesO base W v o) (hs:W.heap.size ≤ w.heap.size) (hb:∀ k,base ≤ k→k < W.heap.size→w.heap[k]? = W.heap[k]?):NamesO base w v o :=
 h.frame hs fun j hj => hb j (h.lt hj).1 (h.lt hj).2
theorem targets_from {base:Nat} {W w:World} {v:Value} {ds:List (Option (List Str))} (h:TargetsAt base W v ds) (hs:W.heap.size ≤ w.heap.size) (hb:∀ k,base ≤ k→k < W.heap.size→w.heap[k]? = W.heap[k]?):TargetsAt base w v ds:=by
 obtain ⟨us,h1,h2⟩:=h
 exact ⟨us,rowKept h1 (fun k hk => hb k (h1.lt k hk).1 (h1.lt k hk).2),fun k u d hu hd => ⟨names_from (h2 k u d hu hd).1 hs hb,(h2 k u d hu hd).2⟩⟩
theorem q_from {base:Nat} {W w:World} {v:Value} {q:Qn} (h:QAt base W v q) (hs:W.heap.size ≤ w.heap.size) (hb:∀ k,base ≤ k→k < W.heap.size→w.heap[k]? = W.heap[k]?):QAt base w v q:=by
 cases q with
 | fi x ds => obtain ⟨ao,n,c,h1,h2⟩:=h;exact ⟨ao,n,c,h1,targets_from h2 hs hb⟩
 | _ => obtain ⟨ao,n,c,h1,h2⟩:=h;exact ⟨ao,n,c,h1,names_from h2 hs hb⟩
def QIn (lo hi:Nat) (w:World) (u:Value) (q:Qn):Prop:=hi ≤ w.heap.size∧∃ W:World,W.heap.size = hi∧QAt lo W u q∧∀ k,lo ≤ k→k < hi→w.heap[k]? = W.heap[k]?
theorem QIn.at' {lo hi:Nat} {w:World} {u:Value} {q:Qn} (h:QIn lo hi w u q):QAt lo w u q:=by
 obtain ⟨h1,W,rfl,h2,h3⟩:=h
 exact q_from h2 h1 h3
theorem QIn.keep {lo hi:Nat} {w w' : World} {u:Value} {q:Qn} (h:QIn lo hi w u q) (hs:w.heap.size ≤ w'.heap.size) (hb:∀ k,lo ≤ k→k < hi→w'.heap[k]? = w.heap[k]?):QIn lo hi w' u q:=by
 obtain ⟨h1,W,h2,h3,h4⟩:=h
 exact ⟨by omega,W,h2,h3,fun k h5 h6 => (hb k h5 h6).trans (h4 k h5 h6)⟩
theorem QIn.of {lo:Nat} {w:World} {u:Value} {q:Qn} (h:QAt lo w u q):QIn lo w.heap.size w u q:=⟨Nat.le_refl _,w,rfl,h,fun _ _ _ => rfl⟩
def QsAt (base:Nat) (w:World) (v:Value) (qs:List Qn):Prop :=
 ∃ us:List Value,w.ownsRow base 114 1 v qs.length us∧∀ (k:Nat) u q,us[k]? = some u→qs[k]? = some q→∃ lo hi,base ≤ lo∧QIn lo hi w u q∧∀ j,v.ownBlock = some j→¬ (lo ≤ j∧j < hi)
theorem QsAt.nil (base:Nat) (w:World):QsAt base w (.slice none 0 0) []:=⟨[],World.ownsRow_nil _ _ _ _,fun k u d h => by simp at h⟩
theorem QsAt.keep {base:Nat} {w w' : World} {v:Value} {qs:List Qn} (h:QsAt base w v qs) (hs:w.heap.size ≤ w'.heap.size) (hb:∀ k,base ≤ k→k < w.heap.size→w'.heap[k]? = w.heap[k]?):QsAt base w' v qs:=by
 obtain ⟨us,h1,h2⟩:=h
 refine ⟨us,rowKept h1 (fun k hk => hb k (h1.lt k hk).1 (h1.lt k hk).2),fun k u q hu hq => ?_⟩
 obtain ⟨lo,hi,h3,h4,h5⟩:=h2 k u q hu hq
 exact ⟨lo,hi,h3,h4.keep hs (fun k h6 h7 => hb k (by omega) (by have:=h4.1;omega)),h5⟩
theorem QsAt.push {base:Nat} {w w1 w2:World} {v v' u:Value} {us:List Value} {qs:List Qn} {q:Qn} (h1:w.ownsRow base 114 1 v qs.length us) (h2:∀ (k:Nat) u q,us[k]? = some u→qs[k]? = some q→∃ lo hi,base ≤ lo∧QIn lo hi w u q∧∀ j,v.ownBlock = some j→¬ (lo ≤ j∧j < hi)) (hbase:base ≤ w.heap.size) (hb:Below w.heap.size w w1) (hu:QAt w.heap.size w1 u q)
  (hrow:w2.ownsRow base 114 1 v' (qs.length + 1) (us ++ [u])) (hg:w1.grownBy w2 v.ownBlock) (hm:Moved w1 v v'):QsAt base w2 v' (qs ++ [q]):=by
 have hl:us.length = qs.length:=by have:=h1.1;omega
 have hvl:∀ k,v.ownBlock = some k→k < w.heap.size:=fun k hk => (h1.lt k hk).2
 refine ⟨us ++ [u],by rw [List.length_append];exact hrow,?_⟩
 intro k x y hx hy
 by_cases hk:k < us.length
 ·rw [List.getElem?_append_left hk] at hx
  rw [List.getElem?_append_left (by omega)] at hy
  obtain ⟨lo,hi,h3,h4,h5⟩:=h2 k x y hx hy
  have h41:=h4.1
  refine ⟨lo,hi,h3,(h4.keep hb.size (fun j _ h7 => hb.block j (by omega))).keep hg.size (fun j h6 h7 => hg.block j (by have:=hb.size;omega) (fun e => h5 j e.symm ⟨h6,h7⟩)),fun j hj => ?_⟩
  rcases hm j hj with h6 | h6
  ·exact h5 j h6
  ·have:=hb.size;omega
 ·have hke:k = us.length:=by
   have:=(List.getElem?_eq_some_iff.1 hx).1
   simp at this;omega
  subst hke
  rw [List.getElem?_append_right (Nat.le_refl _)] at hx
  rw [hl,List.getElem?_append_right (Nat.le_refl _)] at hy
  simp at hx hy
  subst hx hy
  refine ⟨w.heap.size,w1.heap.size,hbase,(QIn.of hu).keep hg.size (fun j h6 h7 => hg.block j h7 (fun e => by have:=hvl j e.symm;omega)),fun j hj => ?_⟩
  rcases hm j hj with h6 | h6
  ·have:=hvl j h6;omega
  ·omega
def checkAll:List Str→Nat
 | [] => 0
 | x :: r => if checkL x = 0 then checkAll r else checkL x
theorem checkAll_bad {xs:List Str} {k:Nat} (hk:k < xs.length) (h:∀ j (hj:j < k),checkL (xs[j]'(by omega)) = 0) (hb:checkL xs[k] ≠ 0):checkAll xs = checkL xs[k]:=by
 induction xs generalizing k with
 | nil => simp at hk
 | cons x r ih =>
  cases k with
  | zero =>
   rw [checkAll]
   rw [if_neg (by simpa using hb)]
   rfl
  | succ k =>
   have h0:=h 0 (by omega)
   rw [checkAll,if_pos (by simpa using h0)]
   exact ih (k:=k) (by simpa using hk) (fun j hj => by simpa using h (j + 1) (by omega)) (by simpa using hb)
theorem checkAll_ok {xs:List Str} (h:∀ x ∈ xs,checkL x = 0):checkAll xs = 0:=by
 induction xs with
 | nil => rfl
 | cons x r ih => rw [checkAll,if_pos (h x (by simp)),ih fun y hy => h y (by simp [hy])]
def QnsOf (xs:List Str) (qs:List Qn):Prop:=qs.map some = xs.map (fun x => qnOf (splitL 32 x))∧∀ q ∈ qs,faultQ q = 0
def ParseAllOut (w:World) (xs:List Str) (e:Ending) (w' : World):Prop :=
 Below w.heap.size w w'∧((checkAll xs ≠ 0∧e = .returned (.tuple #[.slice none 0 0,.int .i64 (checkAll xs:Nat)])) ∨
  (checkAll xs = 0∧(∀ x ∈ xs,checkL x = 0)∧∃ v qs,e = .returned (.tuple #[v,.int .i64 0])∧QnsOf xs qs∧QsAt w.heap.size w' v qs))

open Go.RowKit
attribute [local go_sem] Oper.semAt_some
theorem Tryz.infoQuestion:(Tryz.prog.info? 114).map (fun i => (i.zero,i.size,i.bytes)) = some (some .nilIface,1,16):=by kernel_rfl
theorem QnsOf.push {xs:List Str} {x:Str} {qs:List Qn} {q:Qn} (h:QnsOf xs qs) (hq:qnOf (splitL 32 x) = some q) (hf:faultQ q = 0):QnsOf (xs ++ [x]) (qs ++ [q]):=by
 refine ⟨by rw [List.map_append,List.map_append,h.1];simp [hq],fun y hy => ?_⟩
 rw [List.mem_append] at hy
 rcases hy with hy | hy
 ·exact h.2 y hy
 ·simp at hy;subst hy;exact hf
theorem QnsOf.len {xs:List Str} {qs:List Qn} (h:QnsOf xs qs):qs.length = xs.length:=by have:=congrArg List.length h.1;simpa using this
set_option maxHeartbeats 4000000 in
set_option maxRecDepth 50000 in
theorem parseAll_any (xs:List Str) (nv:Value) (w:World) (hn:NamesAt w nv xs) (hl:xs.length ≤ 1000) (hmx:MaxOk w) :
  Calls Tryz.prog 59 #[nv] w fun e w' => ParseAllOut w xs e w':=by
 obtain ⟨ao,cap,rfl,hc,hm,hcell⟩:=hn
 have HC:Hid _:=hcell
 have HM:Hid _:=hmx
 clear hcell hmx
 go_enter Tryz.func59,Tryz.ntmps59
 go_wp2
 go_loopw [4,11] (fun v i wr => ∃ k:Nat,k ≤ xs.length∧i = .int .i64 k∧(∃ qs,QnsOf (xs.take k) qs∧QsAt w.heap.size wr v qs)∧(∀ j (hj:j < k) (hx:j < xs.length),checkL xs[j] = 0)∧Below w.heap.size w wr) (fun _ i _ => xs.length - (intOf i).toNat)
 case atStart => exact ⟨0,Nat.zero_le _,rfl,⟨[],⟨rfl,fun q hq => by simp at hq⟩,QsAt.nil _ _⟩,fun j hj => by omega,Below.refl _ _⟩
 case round =>
  obtain ⟨k,hk,rfl,⟨qs,hQ,hT⟩,hck,hb⟩:=hrel
  by_cases hlt:k < xs.length
  ·obtain ⟨g,o,rfl,hg,hcl⟩:=HC.out k hlt
   have ck:wr.cell? ⟨g,o + k,none⟩ = some (SV xs[k]):=(hb.cell (p:=⟨g,o + k,none⟩) hg).trans hcl
   have hki:(k:Int) < (xs.length:Int):=by omega
   have C:Hid (Calls Tryz.prog 52 #[SV xs[k]] wr fun e w' => ParseOut wr xs[k] e w'):=parse_any xs[k] wr (MaxOk.later HM.out hb)
   have hlen:qs.length = k:=by rw [hQ.len];simp;omega
   have HB:Hid _:=hb
   have HCK:Hid _:=hck
   have HQ:Hid _:=hQ
   obtain ⟨us0,hrow0,hnam0⟩:=hT
   have HP:Hid (∀ w2 w3 v' u q,Below wr.heap.size wr w2→QAt wr.heap.size w2 u q→w3.ownsRow w.heap.size 114 1 v' (k + 1) (us0 ++ [u])→w2.grownBy w3 u4.ownBlock→Moved w2 u4 v'→QsAt w.heap.size w3 v' (qs ++ [q])):=fun w2 w3 v' u q h1 h2 h3 h4 h5 =>
    QsAt.push hrow0 hnam0 hb.size h1 h2 (by rw [hlen];exact h3) h4 h5
   rw [hlen] at hrow0
   obtain ⟨ao0,cap0,rfl⟩:=row_form hrow0
   have HR0:Hid (wr.ownsRow w.heap.size 114 1 (.slice ao0 k cap0) k us0):=hrow0
   clear hb hcl hrow0 hnam0 hlen hck hQ
   go_wp2_with fail
   refine C.out.mono ?_
   rintro e w2 ⟨hb2,hp⟩
   rcases hp with ⟨hc2,rfl⟩ | ⟨hc2,v2,q,rfl,hq,hf,hv⟩
   ·have R:Hid (ParseAllOut w xs (.returned (.tuple #[.slice none 0 0,.int .i64 (checkL xs[k]:Nat)])) w2):=by
     have e:=checkAll_bad hlt (fun j hj => HCK.out j hj _) hc2
     refine ⟨HB.out.trans (hb2.mono HB.out.size),.inl ⟨by rw [e];exact hc2,by rw [e]⟩⟩
    have hc' : ¬ (checkL xs[k]:Int) = 0:=by omega
    clear hc2 hb2 C ck HP HR0
    generalize (checkL xs[k]:Int) = ce at *
    go_wp2
    go_ret2
    exact R.out
   ·have HB2:Hid _:=hb2
    have HV2:Hid _:=hv
    have HR2:Hid (w2.ownsRow w.heap.size 114 1 (.slice ao0 k cap0) k us0):=rowKept HR0.out (fun j hj => hb2.block j (HR0.out.lt j hj).2)
    have hbase2:w.heap.size ≤ w2.heap.size:=Nat.le_trans HB.out.size hb2.size
    have HN:Hid (QnsOf (xs.take (k + 1)) (qs ++ [q])∧∀ j (hj:j < k + 1) (hx:j < xs.length),checkL xs[j] = 0):=by
     refine ⟨?_,fun j hj hx => ?_⟩
     ·rw [List.take_succ_eq_append_getElem hlt];exact QnsOf.push HQ.out hq hf
     ·by_cases hj2:j < k
      ·exact HCK.out j hj2 hx
      ·obtain rfl:j = k:=by omega
       exact hc2
    obtain ⟨tv,cs,rfl⟩:=hv.iface
    clear hb2 hv C ck hc2 hq hf HCK HQ
    go_wp2_with (at_builtin;go_loud (refine wp_app_at 125 114 _ 1 16 Tryz.infoQuestion Tryz.underlying125 rfl (by decide) rfl (.tmp 23) (.tmp 25) rfl (base:=w.heap.size) HR2.out [.iface tv (.agg cs)] rfl (by intro u hu;simp at hu;subst hu;rfl) ⟨rfl,rfl,rfl,rfl⟩ rfl rfl (by unfold maxLen;omega) (by omega) hbase2 ?_))
    intro v' w3 hrow3 hg3 hm3
    have HT3:Hid _:=HP.out w2 w3 v' _ q HB2.out HV2.out hrow3 hg3 hm3
    have HB3:Hid (Below w.heap.size w w3):=(HB.out.trans (HB2.out.mono HB.out.size)).grown hg3 (Nat.le_trans HB.out.size HB2.out.size) (fun j hj => (HR0.out.lt j hj).1)
    obtain ⟨ao3,cap3,rfl⟩:=row_form hrow3
    clear hrow3 hg3 hm3 HP HR2 HR0
    go_wp2
    go_roundw
    case rel => exact ⟨k + 1,by omega,by go_num,⟨_,HN.out.1,HT3.out⟩,HN.out.2,HB3.out⟩
    case measure => simp [intOf];omega
  ·have hki:¬ (k:Int) < (xs.length:Int):=by omega
   have hok:∀ x ∈ xs,checkL x = 0:=fun x hx => by
    obtain ⟨j,hj,rfl⟩:=List.getElem_of_mem hx
    exact hck j (by omega) hj
   have R:Hid (ParseAllOut w xs (.returned (.tuple #[u4,.int .i64 0])) wr):=⟨hb,.inr ⟨checkAll_ok hok,hok,u4,qs,rfl,by rw [List.take_of_length_le (by omega)] at hQ;exact hQ,hT⟩⟩
   obtain ⟨us0,hrow0,_⟩:=hT
   obtain ⟨ao0,cap0,rfl⟩:=row_form hrow0
   clear hb hrow0 hck hok hQ
   go_wp2
   go_ret2
   exact R.out
end Go.Proofs.YtdcbgfhkfmohiaaGreatDoor

namespace Go.Proofs.YtdcbgfhkfmohiaaGreatDoor
open Go.RowKit
section
variable {α:Type} {w:World} {t kt et:TypeId} {key:Value} {es:Array MapEntry} {V:α→Value} {L:List α} {x0:α} {r clock:Nat}
theorem run_lookup2_in (hu:Tryz.prog.underlying t = some (.map kt et)) (hb:w.heap[r]? = some (.map es clock)) (hf:Finds w kt key es V L x0) (hin:x0 ∈ L):(Instr.lookup t (.map (some r)) key true).run Tryz.prog w = .ok (.tuple #[V x0,.bool true]) w:=by
 rcases hf.2 with ⟨h1,_⟩ | ⟨j,_,h2⟩
 ·exact absurd hin h1
 ·simp [Instr.lookup,run_underlying hu,MapKept.run_getObj_map hb,hf.1,h2,Result.andThen]
theorem run_lookup2_out (hu:Tryz.prog.underlying t = some (.map kt et)) (hb:w.heap[r]? = some (.map es clock)) (hf:Finds w kt key es V L x0) (hout:x0 ∉ L) {z:Value} (hz:(zeroValue et).run Tryz.prog w = .ok z w):(Instr.lookup t (.map (some r)) key true).run Tryz.prog w = .ok (.tuple #[z,.bool false]) w:=by
 rcases hf.2 with ⟨_,h2⟩ | ⟨j,h1,_⟩
 ·simp [Instr.lookup,run_underlying hu,MapKept.run_getObj_map hb,hf.1,h2,Result.andThen,hz]
 ·exact absurd (List.mem_of_getElem? h1) hout
theorem run_mapUpdate_old {K:α→Value} (hh:Holds es K V L) (hu:Tryz.prog.underlying t = some (.map kt et)) (hb:w.heap[r]? = some (.map es clock)) (hf:Finds w kt key es V L x0) (hin:x0 ∈ L) (hk:key = K x0) (hsame:Instr.sameBits 10000 key key = true) (v:Value) :
  ∃ w' j,L[j]? = some x0∧(Instr.mapUpdate t (.map (some r)) key v).run Tryz.prog w = .ok () w'∧Set1 w w' r (.map (es.modify j fun e => { e with key:=key,val:=v }) clock):=by
 rcases hf.2 with ⟨h1,_⟩ | ⟨j,h1,h2⟩
 ·exact absurd hin h1
 ·have hkj:((es[j]?).map (·.key)).getD key = key:=by
   have h3:=congrArg (fun l => l[j]?) hh
   simp only [List.getElem?_map,h1,Option.map_some,Array.getElem?_toList] at h3
   cases he:es[j]? with
   | none => rfl
   | some e => rw [he] at h3;simp at h3;simp [h3.1,hk]
  refine ⟨_,j,h1,?_,set1_of hb⟩
  simp [Instr.mapUpdate,run_underlying hu,MapKept.run_getObj_map hb,hf.1,h2,hkj,Instr.keyThatStays,hsame,MapKept.run_setObj_map _ hb,Result.andThen]
theorem run_clear_map (hu:Tryz.prog.underlying t = some (.map kt et)) (hb:w.heap[r]? = some (.map es clock)) (ty:TypeId) :
  ∃ w',(Builtin.clear_ #[t] ty #[.map (some r)]).run Tryz.prog w = .ok (.tuple #[]) w'∧Set1 w w' r (.map #[] clock) :=
 ⟨_,by simp [Builtin.clear_,run_underlying hu,MapKept.run_getObj_map hb,MapKept.run_setObj_map _ hb,Result.andThen],set1_of hb⟩
end
theorem finds_str {α:Type} {w:World} {es:Array MapEntry} {V:α→Value} {L:List α} {g:α→Str} {x0:α} (hh:Holds es (fun x => SV (g x)) V L) (hinj:∀ x ∈ L,g x0 = g x→x0 = x):Finds w 9 (SV (g x0)) es V L x0:=by
 refine ⟨fun em => by rw [show (10000:Nat) = 9999 + 1 from rfl,Instr.checkKey];simp [run_underlying Tryz.underlying9],?_⟩
 have:=find_now (d:=.string) (V:=V) (key:=SV (g x0)) (x0:=x0) L es.toList 0 hh (fun x hx => ⟨g x0 == g x,by simp only [Instr.sameNow,sv_beq],by rw [beq_iff_eq];exact ⟨hinj x hx,fun h => by rw [h]⟩⟩)
 rcases this with ⟨h1,h2⟩ | ⟨j,h1,h2⟩
 ·exact .inl ⟨h1,MapKept.run_findKey Tryz.underlying9 h2⟩
 ·exact .inr ⟨j,h1,by rw [MapKept.run_findKey Tryz.underlying9 h2];simp⟩
def ReplyAt (es:Array MapEntry) (ans:List Str):Prop:=Holds es (fun k:Nat => Value.int .i64 k) (fun k => .agg #[SV (ans.getD k [])]) (List.range ans.length)
theorem ReplyAt.nil:ReplyAt #[] []:=rfl
theorem ReplyAt.push {es:Array MapEntry} {ans:List Str} (h:ReplyAt es ans) (a:Str) (c:Nat):ReplyAt (es.push { key:=.int .i64 ans.length,val:=.agg #[SV a],born:=c }) (ans ++ [a]):=by
 unfold ReplyAt Holds at *
 rw [Array.toList_push,List.map_append,h,List.length_append,List.length_singleton,List.range_succ,List.map_append]
 congr 1
 ·apply List.map_congr_left
  intro k hk
  simp at hk
  simp [List.getD_eq_getElem?_getD,hk,List.getElem?_append_left hk]
 ·simp [List.getD_eq_getElem?_getD]
theorem ReplyAt.set {es:Array MapEntry} {ans:List Str} (h:ReplyAt es ans) (k:Nat) (a:Str):ReplyAt (es.modify k fun e => { e with key:=.int .i64 k,val:=.agg #[SV a] }) (ans.set k a):=by
 unfold ReplyAt Holds at *
 have hl:es.size = ans.length:=by have:=congrArg List.length h;simpa using this
 rw [List.length_set]
 apply List.ext_getElem
 ·simp [hl]
 ·intro j h1 h2
  simp at h2
  have hj:=congrArg (fun l => l[j]?) h
  simp only [List.getElem?_map,Array.getElem?_toList,List.getElem?_range h2,Option.map_some] at hj
  have hjs:j < es.size:=by omega
  simp only [Array.getElem?_eq_getElem hjs,Option.map_some,Option.some.injEq,Prod.mk.injEq] at hj
  simp only [List.getElem_map,Array.getElem_toList,Array.getElem_modify,List.getElem_range]
  by_cases e:k = j
  ·subst e
   simp [List.getD_eq_getElem?_getD,h2]
  ·simp [e,hj.1,hj.2,List.getD_eq_getElem?_getD,List.getElem?_set_ne e]
theorem ReplyAt.len {es:Array MapEntry} {ans:List Str} (h:ReplyAt es ans):es.size = ans.length:=by have:=congrArg List.length h;simpa using this
theorem ReplyAt.finds {w:World} {es:Array MapEntry} {ans:List Str} (h:ReplyAt es ans) (k:Nat):Finds w 3 (.int .i64 k) es (fun k => .agg #[SV (ans.getD k [])]) (List.range ans.length) k :=
 finds_int (g:=fun k:Nat => (k:Int)) h (fun _ _ e => Int.ofNat_inj.1 e)
theorem Tryz.zeroReply (w:World):(zeroValue 181).run Tryz.prog w = .ok (.agg #[SV []]) w:=by kernel_rfl
theorem Tryz.zeroRule (w:World):(zeroValue 122).run Tryz.prog w = .ok (.pointer none) w:=by kernel_rfl
theorem ans_given {w:World} {r c:Nat} {es:Array MapEntry} {ans:List Str} (h:ReplyAt es ans) (hb:w.heap[r]? = some (.map es c)) {k:Nat} (hk:k < ans.length):(Instr.lookup 177 (.map (some r)) (.int .i64 k) true).run Tryz.prog w = .ok (.tuple #[.agg #[SV ans[k]],.bool true]) w:=by
 have:=run_lookup2_in Tryz.underlying177 hb (h.finds (w:=w) k) (by simpa using hk)
 rw [this]
 simp [List.getD_eq_getElem?_getD,hk]
theorem ans_not {w:World} {r c:Nat} {es:Array MapEntry} {ans:List Str} (h:ReplyAt es ans) (hb:w.heap[r]? = some (.map es c)) {k:Nat} (hk:ans.length ≤ k):(Instr.lookup 177 (.map (some r)) (.int .i64 k) true).run Tryz.prog w = .ok (.tuple #[.agg #[SV []],.bool false]) w :=
 run_lookup2_out Tryz.underlying177 hb (h.finds (w:=w) k) (by simp;omega) (Tryz.zeroReply w)
theorem ans_new {w:World} {r c:Nat} {es:Array MapEntry} {ans:List Str} (h:ReplyAt es ans) (hb:w.heap[r]? = some (.map es c)) (a:Str) :
  ∃ w',(Instr.mapUpdate 177 (.map (some r)) (.int .i64 ans.length) (.agg #[SV a])).run Tryz.prog w = .ok () w'∧∃ es' c',Set1 w w' r (.map es' c')∧ReplyAt es' (ans ++ [a]):=by
 obtain ⟨w',h1,h2⟩:=run_mapUpdate_new Tryz.underlying177 hb (h.finds (w:=w) ans.length) (by simp) (.agg #[SV a])
 exact ⟨w',h1,_,_,h2,h.push a _⟩
theorem ans_set {w:World} {r c:Nat} {es:Array MapEntry} {ans:List Str} (h:ReplyAt es ans) (hb:w.heap[r]? = some (.map es c)) {k:Nat} (hk:k < ans.length) (a:Str) :
  ∃ w',(Instr.mapUpdate 177 (.map (some r)) (.int .i64 k) (.agg #[SV a])).run Tryz.prog w = .ok () w'∧∃ es' c',Set1 w w' r (.map es' c')∧ReplyAt es' (ans.set k a):=by
 obtain ⟨w',j,hj,h1,h2⟩:=run_mapUpdate_old h Tryz.underlying177 hb (h.finds (w:=w) k) (by simpa using hk) rfl (by simp [Instr.sameBits]) (.agg #[SV a])
 obtain rfl:j = k:=by
  have h3:=List.getElem?_eq_some_iff.1 hj
  obtain ⟨h4,h5⟩:=h3
  simpa using h5
 exact ⟨w',h1,_,_,h2,h.set _ a⟩

open Go.RowKit
attribute [local go_sem] Oper.semAt_some
structure RuleP where
 name:Str
 qs:List Qn
 ans:List Str
 b:Nat
 m:Nat
 v:Value
 lo:Nat
 hi:Nat
def Asked (w:World) (R:RuleP):Prop:=R.hi ≤ w.heap.size∧∃ W:World,W.heap.size = R.hi∧QsAt R.lo W R.v R.qs∧∀ k,R.lo ≤ k→k < R.hi→w.heap[k]? = W.heap[k]?
theorem Asked.at' {w:World} {R:RuleP} (h:Asked w R):QsAt R.lo w R.v R.qs:=by
 obtain ⟨h1,W,h2,h3,h4⟩:=h
 exact h3.keep (by omega) fun k h5 h6 => h4 k h5 (by omega)
theorem Asked.keep {w w' : World} {R:RuleP} (h:Asked w R) (hs:w.heap.size ≤ w'.heap.size) (hb:∀ k,R.lo ≤ k→k < R.hi→w'.heap[k]? = w.heap[k]?):Asked w' R:=by
 obtain ⟨h1,W,h2,h3,h4⟩:=h
 exact ⟨by omega,W,h2,h3,fun k h5 h6 => (hb k h5 h6).trans (h4 k h5 h6)⟩
structure RuleAt (w:World) (R:RuleP):Prop where
 cell:w.heap[R.b]? = some (.cells #[R.v,.map (some R.m)] 179 (0,0))
 amap:∃ es c,w.heap[R.m]? = some (.map es c)∧ReplyAt es R.ans
 asked:Asked w R
 ne:R.b ≠ R.m
 outB:¬ (R.lo ≤ R.b∧R.b < R.hi)
 outM:¬ (R.lo ≤ R.m∧R.m < R.hi)
 full:R.ans = []∨R.ans.length = R.qs.length
 short:∀ q ∈ R.qs,shortQ q
 few:R.qs ≠ []∧R.qs.length ≤ 6
theorem qs_cells {base:Nat} {w:World} {ao:Option Addr} {n c:Nat} {qs:List Qn} (h:QsAt base w (.slice ao n c) qs) :
  n = qs.length∧qs.length ≤ c∧c ≤ maxLen∧∀ k (hk:k < qs.length),∃ g u lo,ao = some ⟨g,0,none⟩∧g < w.heap.size∧base ≤ g∧w.cell? ⟨g,k,none⟩ = some u∧QAt lo w u qs[k]:=by
 obtain ⟨us,h1,h2⟩:=h
 have hl:us.length = qs.length:=by have:=h1.1;omega
 rcases row_cells h1 with ⟨e,h3⟩ | ⟨g,cap,e,h4,h4b,h5,h6,h7⟩
 ·simp only [Value.slice.injEq] at e
  obtain ⟨rfl,rfl,rfl⟩:=e
  exact ⟨h3.symm,by omega,by unfold maxLen;omega,fun k hk => by omega⟩
 ·simp only [Value.slice.injEq] at e
  obtain ⟨rfl,rfl,rfl⟩:=e
  refine ⟨rfl,h5,h6,fun k hk => ?_⟩
  have hu:us[k]? = some (us[k]'(by omega)):=List.getElem?_eq_getElem (by omega)
  obtain ⟨lo,hi,_,h8,_⟩:=h2 k _ _ hu (List.getElem?_eq_getElem hk)
  exact ⟨g,us[k]'(by omega),lo,rfl,h4,by first | exact h4b | omega,h7 k _ hu,h8.at'⟩
theorem qs_form {base:Nat} {w:World} {v:Value} {qs:List Qn} (h:QsAt base w v qs):∃ ao n c,v = .slice ao n c:=by
 obtain ⟨us,h1,_⟩:=h
 obtain ⟨ao,cap,rfl⟩:=row_form h1
 exact ⟨_,_,_,rfl⟩
noncomputable def nowQ (es:Ents) (qs:List Qn):List Str:=qs.map (answerQ es)
theorem now_len (es:Ents) (qs:List Qn):(nowQ es qs).length = qs.length:=by simp [nowQ]
theorem cur_new {now ans:List Str} {k:Nat} (h:ans = []) (hk:k < now.length):now.take k ++ ans.drop k ++ [now[k]] = now.take (k + 1) ++ ans.drop (k + 1):=by
 subst h
 rw [List.take_succ_eq_append_getElem hk];simp
theorem cur_set {now ans:List Str} {k:Nat} (h:ans.length = now.length) (hk:k < now.length):(now.take k ++ ans.drop k).set k now[k] = now.take (k + 1) ++ ans.drop (k + 1):=by
 have e:ans.drop k = ans[k]'(by omega) :: ans.drop (k + 1):=List.drop_eq_getElem_cons (by omega)
 rw [e,List.set_append_right _ _ (by simp;omega),List.take_succ_eq_append_getElem hk]
 have:k - (now.take k).length = 0:=by simp;omega
 rw [this,List.set_cons_zero,List.append_assoc,List.singleton_append]
theorem cur_same {now ans:List Str} {k:Nat} (hk:k < now.length) (h2:k < ans.length) (h:ans[k] = now[k]):now.take k ++ ans.drop k = now.take (k + 1) ++ ans.drop (k + 1):=by
 have e:ans.drop k = ans[k] :: ans.drop (k + 1):=List.drop_eq_getElem_cons h2
 rw [e,List.take_succ_eq_append_getElem hk,h,List.append_assoc,List.singleton_append]
theorem cur_len {now ans:List Str} {k:Nat} (hk:k < now.length):(now.take k ++ ans.drop k).length = k + (ans.length - k):=by simp;omega
theorem due_new {now ans:List Str} {k:Nat} (h:ans = []) (hk:k < now.length):decide (now.take (k + 1) ≠ ans.take (k + 1)) = true:=by
 subst h
 simp;intro e;rw [e] at hk;simp at hk
theorem due_diff {now ans:List Str} {k:Nat} (hk:k < now.length) (h2:k < ans.length) (h:¬ ans[k] = now[k]):decide (now.take (k + 1) ≠ ans.take (k + 1)) = true:=by
 rw [decide_eq_true_iff,List.take_succ_eq_append_getElem hk,List.take_succ_eq_append_getElem h2]
 intro e
 have:=List.append_inj' e rfl
 simp at this
 exact h this.2.symm
theorem due_same {now ans:List Str} {k:Nat} (hk:k < now.length) (h2:k < ans.length) (h:ans[k] = now[k]):decide (now.take (k + 1) ≠ ans.take (k + 1)) = decide (now.take k ≠ ans.take k):=by
 rw [decide_eq_decide,List.take_succ_eq_append_getElem hk,List.take_succ_eq_append_getElem h2,h]
 constructor
 ·intro h1 e;exact h1 (by rw [e])
 ·intro h1 e;exact h1 (List.append_inj_left' e rfl)
def BuildOut (w:World) (R:RuleP) (now:List Str) (e:Ending) (w' : World):Prop :=
 e = .returned (.bool (decide (now ≠ R.ans)))∧RuleAt w' { R with ans:=now }∧Turn (fun k => k = R.m) w w' (fun k => k = R.m)
set_option maxHeartbeats 8000000 in
set_option maxRecDepth 50000 in
theorem build_any (B:Bank) (es:Ents) (R:RuleP) (w:World) (hB:BankAt w B) (hes:es ∈ B.ds) (hw:WFE es) (h5:heightE es ≤ 5) (hfew:(filesE es).length ≤ 20) (hR:RuleAt w R) (hm:¬ B.own R.m) :
  Calls Tryz.prog 57 #[ptrV R.b,ptrV (B.ad (.dir es))] w fun e w' => BuildOut w R (nowQ es R.qs) e w':=by
 obtain ⟨ao,n,c,hv⟩:=qs_form hR.asked.at'
 have hq:=hR.asked.at'
 rw [hv] at hq
 obtain ⟨rfl,hc,hm2,hcl⟩:=qs_cells hq
 clear hcl
 have c0:w.cell? ⟨R.b,0,none⟩ = some (.slice ao R.qs.length c):=by rw [← hv];exact (blk_cell hR.cell 0).trans rfl
 have HR:Hid _:=hR
 have HB:Hid _:=hB
 have HV:Hid _:=hv
 have HM:Hid _:=hm
 have hql:=hR.few.2
 clear hq hR hB hv hm
 unfold maxLen at hm2
 go_enter Tryz.func57,Tryz.ntmps57
 go_wp2
 go_loopw [5,16] (fun d i wr => ∃ k:Nat,k ≤ R.qs.length∧i = .int .i64 k∧d = .bool (decide ((nowQ es R.qs).take k ≠ R.ans.take k))∧Turn (fun k => k = R.m) w wr (fun k => k = R.m)∧∃ ms cl,wr.heap[R.m]? = some (.map ms cl)∧ReplyAt ms ((nowQ es R.qs).take k ++ R.ans.drop k)) (fun _ i _ => R.qs.length - (intOf i).toNat)
 case atStart =>
  obtain ⟨ms,cl,h1,h2⟩:=HR.out.amap
  exact ⟨0,Nat.zero_le _,rfl,by simp,Turn.refl _ _,ms,cl,h1,by simpa using h2⟩
 case round =>
  obtain ⟨k,hk,rfl,rfl,ht,ms,cl,hmap,hrep⟩:=hrel
  have HT:Hid _:=ht
  have HMP:Hid _:=hmap
  have HRP:Hid (Hid (ReplyAt ms ((nowQ es R.qs).take k ++ R.ans.drop k))):=hrep
  by_cases hlt:k < R.qs.length
  ·have hki:(k:Int) < (R.qs.length:Int):=by omega
   have hblk:∀ j,j < w.heap.size→j ≠ R.m→wr.heap[j]? = w.heap[j]?:=fun j h1 h2 => ht.blk j h1 h2
   have hAs:Asked wr R:=HR.out.asked.keep ht.size (fun j h1 h2 => hblk j (by have:=HR.out.asked.1;omega) (fun e => HR.out.outM ⟨by omega,by omega⟩))
   have hQs:=hAs.at'
   rw [HV.out] at hQs
   obtain ⟨_,_,_,hcell⟩:=qs_cells hQs
   obtain ⟨g,u,lo,rfl,hg,hgl,ck,hqa⟩:=hcell k hlt
   have hBr:BankAt wr B:=HB.out.frame fun j hj => hblk j (HB.out.own_lt hj) (fun e => HM.out (e ▸ hj))
   have hbb:wr.heap[R.b]? = some (.cells #[R.v,.map (some R.m)] 179 (0,0)):=(hblk R.b (Array.getElem?_eq_some_iff.1 HR.out.cell).1 HR.out.ne).trans HR.out.cell
   have C:Hid _:=answer_any B es R.qs[k] u lo wr hBr hes hw h5 hfew hqa (HR.out.short _ (List.getElem_mem hlt))
   obtain ⟨a,ha⟩ : ∃ a,answerQ es R.qs[k] = a:=⟨_,rfl⟩
   rw [ha] at C
   have HA:Hid _:=ha
   have HBB:Hid _:=hbb
   obtain ⟨tv,cs,rfl⟩:=hqa.iface
   generalize B.ad (.dir es) = bb at *
   clear ht hmap hrep hAs hQs hcell hqa hBr hbb ha hblk
   go_wp2_with fail
   refine Calls.mono (show Calls _ _ _ _ _ from C.out) ?_
   rintro e w2 ⟨rfl,hb2⟩
   go_upto_region 6 with fail
   have hz3:(w2.alloc (.cells #[SV a] 181)).heap.size = w2.heap.size + 1:=by simp
   have n3:=heap_alloc_new w2 (.cells #[SV a] 181)
   have hb3:Below w2.heap.size w2 (w2.alloc (.cells #[SV a] 181)):=(Below.refl _ _).alloc (Nat.le_refl _) _
   generalize w2.alloc (.cells #[SV a] 181) = w3 at *
   have hbm:=Array.getElem?_eq_some_iff.1 HMP.out
   have hm2' : w2.heap[R.m]? = some (.map ms cl):=(hb2.block _ hbm.1).trans HMP.out
   have hbr:=(Array.getElem?_eq_some_iff.1 HBB.out).1
   have hb2' : w2.heap[R.b]? = some (.cells #[R.v,.map (some R.m)] 179 (0,0)):=(hb2.block _ hbr).trans HBB.out
   have hm3:w3.heap[R.m]? = some (.map ms cl):=(hb3.block _ (Array.getElem?_eq_some_iff.1 hm2').1).trans hm2'
   have hb3' : w3.heap[R.b]? = some (.cells #[R.v,.map (some R.m)] 179 (0,0)):=(hb3.block _ (Array.getElem?_eq_some_iff.1 hb2').1).trans hb2'
   have c1:w3.cell? ⟨R.b,1,none⟩ = some (.map (some R.m)):=(blk_cell hb3' 1).trans rfl
   have T3:Hid (Turn (fun k => k = R.m) w w3 (fun k => k = R.m)):=(HT.out.trans (Turn.of_below hb2)).trans (Turn.of_below hb3)
   have HN3:Hid _:=n3
   have HM3:Hid _:=hm3
   have HB3:Hid _:=hb3'
   have hnk:(nowQ es R.qs)[k]'(by rw [now_len];exact hlt) = a:=by rw [← HA.out];simp [nowQ]
   have HNK:Hid _:=hnk
   have hkl:k < (nowQ es R.qs).length:=by rw [now_len];exact hlt
   clear hm2' hb2' hm3 hb3' hb2 hb3 n3 hbm hbr C c0 HMP HBB hnk ck
   rcases HR.out.full with hemp | hfull
   ·have LE:(Instr.lookup 177 (.map (some R.m)) (.int .i64 k) true).run Tryz.prog w3 = .ok (.tuple #[.agg #[SV []],.bool false]) w3:=ans_not HRP.out.out HM3.out (by rw [cur_len hkl,hemp];simp)
    go_upto_region 7 with fail
    have n4:=heap_alloc_new w3 (.cells #[.string ⟨#[]⟩] 181)
    have hb4:Below w3.heap.size w3 (w3.alloc (.cells #[.string ⟨#[]⟩] 181)):=(Below.refl _ _).alloc (Nat.le_refl _) _
    generalize w3.alloc (.cells #[.string ⟨#[]⟩] 181) = w4 at *
    have c8:w4.cell? ⟨w2.heap.size,0,none⟩ = some (SV a):=(blk_cell ((hb4.block _ (by omega)).trans HN3.out) 0).trans rfl
    have c9:w4.cell? ⟨w2.heap.size + 1,0,none⟩ = some (.string ⟨#[]⟩):=by rw [hz3] at n4;exact (blk_cell n4 0).trans rfl
    have hm4:w4.heap[R.m]? = some (.map ms cl):=(hb4.block _ (Array.getElem?_eq_some_iff.1 HM3.out).1).trans HM3.out
    have hb4' : w4.heap[R.b]? = some (.cells #[R.v,.map (some R.m)] 179 (0,0)):=(hb4.block _ (Array.getElem?_eq_some_iff.1 HB3.out).1).trans HB3.out
    have c1' : w4.cell? ⟨R.b,1,none⟩ = some (.map (some R.m)):=(blk_cell hb4' 1).trans rfl
    obtain ⟨w5,hu5,es5,cl5,hs5,hr5⟩:=ans_new (w:=w4.drew) HRP.out.out hm4 a
    rw [show ((nowQ es R.qs).take k ++ R.ans.drop k).length = k by rw [cur_len hkl,hemp];simp] at hu5
    have RR:Hid (Turn (fun k => k = R.m) w w5 (fun k => k = R.m)∧∃ ms cl,w5.heap[R.m]? = some (.map ms cl)∧ReplyAt ms ((nowQ es R.qs).take (k + 1) ++ R.ans.drop (k + 1))):=by
     refine ⟨(T3.out.trans (Turn.of_below hb4)).trans ⟨hs5.os,hs5.tape,hs5.output,Nat.le_of_eq hs5.size.symm,fun j _ h => hs5.other j h,fun _ h => .inl h⟩,es5,cl5,hs5.here,?_⟩
     rw [← HNK.out] at hr5;rw [← cur_new hemp hkl];exact hr5
    have DU:Hid (decide ((nowQ es R.qs).take (k + 1) ≠ R.ans.take (k + 1)) = true):=due_new hemp hkl
    clear n4 hb4 hm4 hb4' hs5 hr5 T3 HR HB HM HRP HN3 HM3 HB3 LE c1
    go_wp2
    go_region
    all_goals
     go_wp2
     go_roundw
     case rel => exact ⟨k + 1,by omega,by go_num,by rw [DU.out],RR.out⟩
     case measure => simp [intOf];omega
   ·have hka:k < R.ans.length:=by omega
    have hcl:k < ((nowQ es R.qs).take k ++ R.ans.drop k).length:=by rw [cur_len hkl];omega
    obtain ⟨x,hx⟩ : ∃ x,R.ans[k] = x:=⟨_,rfl⟩
    have HX:Hid _:=hx
    have LE:(Instr.lookup 177 (.map (some R.m)) (.int .i64 k) true).run Tryz.prog w3 = .ok (.tuple #[.agg #[SV x],.bool true]) w3:=by
     rw [ans_given HRP.out.out HM3.out hcl,← hx]
     congr 4
     rw [List.getElem_append_right (by simp;omega)]
     simp [now_len]
     congr 1
     omega
    clear hx
    by_cases hxa:x = a
    ·subst hxa
     go_upto_region 7 with fail
     have n4:=heap_alloc_new w3 (.cells #[SV x] 181)
     have hb4:Below w3.heap.size w3 (w3.alloc (.cells #[SV x] 181)):=(Below.refl _ _).alloc (Nat.le_refl _) _
     generalize w3.alloc (.cells #[SV x] 181) = w4 at *
     have c8:w4.cell? ⟨w2.heap.size,0,none⟩ = some (SV x):=(blk_cell ((hb4.block _ (by omega)).trans HN3.out) 0).trans rfl
     have c9:w4.cell? ⟨w2.heap.size + 1,0,none⟩ = some (SV x):=by rw [hz3] at n4;exact (blk_cell n4 0).trans rfl
     have hm4:w4.heap[R.m]? = some (.map ms cl):=(hb4.block _ (Array.getElem?_eq_some_iff.1 HM3.out).1).trans HM3.out
     have hb4' : w4.heap[R.b]? = some (.cells #[R.v,.map (some R.m)] 179 (0,0)):=(hb4.block _ (Array.getElem?_eq_some_iff.1 HB3.out).1).trans HB3.out
     have c1' : w4.cell? ⟨R.b,1,none⟩ = some (.map (some R.m)):=(blk_cell hb4' 1).trans rfl
     have RR:Hid (Turn (fun k => k = R.m) w w4 (fun k => k = R.m)∧∃ ms cl,w4.heap[R.m]? = some (.map ms cl)∧ReplyAt ms ((nowQ es R.qs).take (k + 1) ++ R.ans.drop (k + 1))):=by
      refine ⟨T3.out.trans (Turn.of_below hb4),ms,cl,hm4,?_⟩
      rw [← cur_same hkl hka (by rw [HX.out,HNK.out])];exact HRP.out.out
     have DU:Hid (decide ((nowQ es R.qs).take (k + 1) ≠ R.ans.take (k + 1)) = decide ((nowQ es R.qs).take k ≠ R.ans.take k)):=due_same hkl hka (by rw [HX.out,HNK.out])
     clear n4 hb4 hm4 hb4' T3 HR HB HM HRP HN3 HM3 HB3 LE c1
     go_wp2
     go_roundw
     case rel => exact ⟨k + 1,by omega,by go_num,by rw [DU.out];simp,RR.out⟩
     case measure => simp [intOf];omega
    ·go_upto_region 7 with fail
     have n4:=heap_alloc_new w3 (.cells #[SV x] 181)
     have hb4:Below w3.heap.size w3 (w3.alloc (.cells #[SV x] 181)):=(Below.refl _ _).alloc (Nat.le_refl _) _
     generalize w3.alloc (.cells #[SV x] 181) = w4 at *
     have c8:w4.cell? ⟨w2.heap.size,0,none⟩ = some (SV a):=(blk_cell ((hb4.block _ (by omega)).trans HN3.out) 0).trans rfl
     have c9:w4.cell? ⟨w2.heap.size + 1,0,none⟩ = some (SV x):=by rw [hz3] at n4;exact (blk_cell n4 0).trans rfl
     have hm4:w4.heap[R.m]? = some (.map ms cl):=(hb4.block _ (Array.getElem?_eq_some_iff.1 HM3.out).1).trans HM3.out
     have hb4' : w4.heap[R.b]? = some (.cells #[R.v,.map (some R.m)] 179 (0,0)):=(hb4.block _ (Array.getElem?_eq_some_iff.1 HB3.out).1).trans HB3.out
     have c1' : w4.cell? ⟨R.b,1,none⟩ = some (.map (some R.m)):=(blk_cell hb4' 1).trans rfl
     obtain ⟨w5,hu5,es5,cl5,hs5,hr5⟩:=ans_set (w:=w4.drew) HRP.out.out hm4 hcl a
     have RR:Hid (Turn (fun k => k = R.m) w w5 (fun k => k = R.m)∧∃ ms cl,w5.heap[R.m]? = some (.map ms cl)∧ReplyAt ms ((nowQ es R.qs).take (k + 1) ++ R.ans.drop (k + 1))):=by
      refine ⟨(T3.out.trans (Turn.of_below hb4)).trans ⟨hs5.os,hs5.tape,hs5.output,Nat.le_of_eq hs5.size.symm,fun j _ h => hs5.other j h,fun _ h => .inl h⟩,es5,cl5,hs5.here,?_⟩
      rw [← HNK.out] at hr5;rw [← cur_set (by rw [now_len];exact hfull) hkl];exact hr5
     have DU:Hid (decide ((nowQ es R.qs).take (k + 1) ≠ R.ans.take (k + 1)) = true):=due_diff hkl hka (by rw [HX.out,HNK.out];exact hxa)
     clear n4 hb4 hm4 hb4' hs5 hr5 T3 HR HB HM HRP HN3 HM3 HB3 LE c1
     go_wp2
     go_region
     all_goals
      go_wp2
      go_roundw
      case rel => exact ⟨k + 1,by omega,by go_num,by rw [DU.out],RR.out⟩
      case measure => simp [intOf];omega
  ·have hki:¬ (k:Int) < (R.qs.length:Int):=by omega
   obtain rfl:k = R.qs.length:=by omega
   have e1:(nowQ es R.qs).take R.qs.length = nowQ es R.qs:=List.take_of_length_le (by rw [now_len];exact Nat.le_refl _)
   have e2:R.ans.drop R.qs.length = []∧R.ans.take R.qs.length = R.ans:=by
    rcases HR.out.full with h | h
    ·rw [h];simp
    ·exact ⟨List.drop_of_length_le (by omega),List.take_of_length_le (by omega)⟩
   have hrep':=HRP.out.out
   rw [e1,e2.1,List.append_nil] at hrep'
   rw [e1,e2.2]
   have hblk:∀ j,j < w.heap.size→j ≠ R.m→wr.heap[j]? = w.heap[j]?:=fun j h1 h2 => ht.blk j h1 h2
   have RR:Hid (BuildOut w R (nowQ es R.qs) (.returned (.bool (decide (nowQ es R.qs ≠ R.ans)))) wr) :=
    ⟨rfl,⟨(hblk R.b (Array.getElem?_eq_some_iff.1 HR.out.cell).1 HR.out.ne).trans HR.out.cell,⟨ms,cl,hmap,hrep'⟩,
     HR.out.asked.keep ht.size (fun j h1 h2 => hblk j (by have:=HR.out.asked.1;omega) (fun e => HR.out.outM ⟨by omega,by omega⟩)),HR.out.ne,HR.out.outB,HR.out.outM,.inr (now_len _ _),HR.out.short,HR.out.few⟩,ht⟩
   clear ht hmap hrep hrep' HRP HR HB HM HT HMP c0 hblk
   generalize decide (nowQ es R.qs ≠ R.ans) = due at *
   go_wp2
   go_ret
   exact RR.out
end Go.Proofs.YtdcbgfhkfmohiaaGreatDoor

namespace Go.Proofs.YtdcbgfhkfmohiaaGreatDoor
open Go.RowKit
attribute [local go_sem] Oper.semAt_some
def Ow (rr:Nat) (Rs:List RuleP) (k:Nat):Prop:=k = rr∨∃ R ∈ Rs,k = R.b∨k = R.m
def Foot (rr:Nat) (Rs:List RuleP) (k:Nat):Prop:=Ow rr Rs k∨∃ R ∈ Rs,R.lo ≤ k∧k < R.hi
structure RulesAt (w:World) (rr:Nat) (Rs:List RuleP):Prop where
 map:∃ es c,w.heap[rr]? = some (.map es c)∧Holds es (fun x:Str × Nat => SV x.1) (fun x => ptrV x.2) (Rs.map fun R => (R.name,R.b))∧MapKept.Stamped es c
 each:∀ R ∈ Rs,RuleAt w R
 nd:(Rs.map (·.name)).Nodup
 apB:∀ R ∈ Rs,R.b ≠ rr∧R.m ≠ rr
 apS:∀ R ∈ Rs,∀ R' ∈ Rs,R.name ≠ R'.name→R.b ≠ R'.b∧R.b ≠ R'.m∧R.m ≠ R'.m
 out:∀ R ∈ Rs,∀ k,Ow rr Rs k→¬ (R.lo ≤ k∧k < R.hi)
 few:Rs.length ≤ 8
 short:∀ R ∈ Rs,R.name.length ≤ 8
theorem RuleAt.keep {w w' : World} {R:RuleP} (h:RuleAt w R) (hs:w.heap.size ≤ w'.heap.size) (h1:w'.heap[R.b]? = w.heap[R.b]?) (h2:w'.heap[R.m]? = w.heap[R.m]?) (hb:∀ k,R.lo ≤ k→k < R.hi→w'.heap[k]? = w.heap[k]?):RuleAt w' R:=by
 obtain ⟨es,c,h3,h4⟩:=h.amap
 exact ⟨h1.trans h.cell,⟨es,c,h2.trans h3,h4⟩,h.asked.keep hs hb,h.ne,h.outB,h.outM,h.full,h.short,h.few⟩
theorem RulesAt.keep {w w' : World} {rr:Nat} {Rs:List RuleP} (h:RulesAt w rr Rs) (hs:w.heap.size ≤ w'.heap.size) (hb:∀ k,Foot rr Rs k→w'.heap[k]? = w.heap[k]?):RulesAt w' rr Rs:=by
 obtain ⟨es,c,h3,h4⟩:=h.map
 exact ⟨⟨es,c,(hb rr (.inl (.inl rfl))).trans h3,h4⟩,fun R hR => (h.each R hR).keep hs (hb _ (.inl (.inr ⟨R,hR,.inl rfl⟩))) (hb _ (.inl (.inr ⟨R,hR,.inr rfl⟩))) (fun k h1 h2 => hb k (.inr ⟨R,hR,h1,h2⟩)),h.nd,h.apB,h.apS,h.out,h.few,h.short⟩
theorem RulesAt.lt {w:World} {rr:Nat} {Rs:List RuleP} (h:RulesAt w rr Rs) {k:Nat} (hk:Foot rr Rs k):k < w.heap.size:=by
 rcases hk with (rfl | ⟨R,hR,rfl | rfl⟩) | ⟨R,hR,h1,h2⟩
 ·obtain ⟨es,c,h3,h4⟩:=h.map
  exact (Array.getElem?_eq_some_iff.1 h3).1
 ·exact (Array.getElem?_eq_some_iff.1 (h.each R hR).cell).1
 ·obtain ⟨es,c,h3,h4⟩:=(h.each R hR).amap
  exact (Array.getElem?_eq_some_iff.1 h3).1
 ·have:=(h.each R hR).asked.1;omega
theorem RulesAt.below {w w' : World} {rr:Nat} {Rs:List RuleP} (h:RulesAt w rr Rs) (hb:Below w.heap.size w w'):RulesAt w' rr Rs:=h.keep hb.size fun _ hk => hb.block _ (h.lt hk)
theorem name_inj {Rs:List RuleP} (hnd:(Rs.map (·.name)).Nodup) {R R' : RuleP} (h:R ∈ Rs) (h' : R' ∈ Rs) (e:R.name = R'.name):R = R':=by
 induction Rs with
 | nil => simp at h
 | cons a l ih =>
  simp only [List.map_cons,List.nodup_cons,List.mem_map,not_exists,not_and] at hnd
  rw [List.mem_cons] at h h'
  rcases h with rfl | h <;> rcases h' with rfl | h'
  ·rfl
  ·exact absurd e.symm (hnd.1 R' h')
  ·exact absurd e (hnd.1 R h)
  ·exact ih hnd.2 h h'
theorem rules_find {w:World} {rr:Nat} {Rs:List RuleP} (h:RulesAt w rr Rs) {R:RuleP} (hR:R ∈ Rs):(Instr.lookup 85 (.map (some rr)) (SV R.name) false).run Tryz.prog w = .ok (ptrV R.b) w:=by
 obtain ⟨es,c,h3,h4⟩:=h.map
 exact run_lookup_in (V:=fun x:Str × Nat => ptrV x.2) (x0:=(R.name,R.b)) Tryz.underlying85 h3 (finds_str (w:=w) (g:=fun x:Str × Nat => x.1) (x0:=(R.name,R.b)) h4.1 (fun x hx e => by
  simp only [List.mem_map] at hx
  obtain ⟨R',hR',rfl⟩:=hx
  rw [name_inj h.nd hR hR' e])) (List.mem_map.2 ⟨R,hR,rfl⟩)
theorem rules_finds_no {w W:World} {rr:Nat} {Rs:List RuleP} (_:RulesAt w rr Rs) {es:Array MapEntry} (h4:Holds es (fun x:Str × Nat => SV x.1) (fun x => ptrV x.2) (Rs.map fun R => (R.name,R.b))) {n:Str} (hn:∀ R ∈ Rs,R.name ≠ n):Finds W 9 (SV n) es (fun x:Str × Nat => ptrV x.2) (Rs.map fun R => (R.name,R.b)) (n,0)∧(n,0) ∉ (Rs.map fun R => (R.name,R.b)):=by
 have hno:∀ x ∈ (Rs.map fun R => (R.name,R.b)),n ≠ x.1:=fun x hx e => by
  simp only [List.mem_map] at hx
  obtain ⟨R',hR',rfl⟩:=hx
  exact hn R' hR' e.symm
 exact ⟨finds_str (w:=W) (g:=fun x:Str × Nat => x.1) (x0:=(n,0)) h4 (fun x hx e => absurd e (hno x hx)),fun hm => hno _ hm rfl⟩
theorem rules_none {w:World} {rr:Nat} {Rs:List RuleP} (h:RulesAt w rr Rs) {n:Str} (hn:∀ R ∈ Rs,R.name ≠ n):(Instr.lookup 85 (.map (some rr)) (SV n) false).run Tryz.prog w = .ok (.pointer none) w:=by
 obtain ⟨es,c,h3,h4⟩:=h.map
 obtain ⟨h5,h6⟩:=rules_finds_no (W:=w) h h4.1 hn
 exact run_lookup_out Tryz.underlying85 h3 h5 h6 (Tryz.zeroRule w)
structure RView where
 name:Str
 qs:List Qn
 ans:List Str
def RuleP.view (R:RuleP):RView:=⟨R.name,R.qs,R.ans⟩
def setV (V:List RView) (n:Str) (qs:List Qn):List RView :=
 if V.any (·.name == n) then V.map fun x => if x.name == n then ⟨n,qs,[]⟩ else x else V ++ [⟨n,qs,[]⟩]
def RulesOut (N:Nat) (w:World) (rr:Nat) (Rs:List RuleP) (V:List RView) (w' : World):Prop :=
 ∃ Rs',RulesAt w' rr Rs'∧Rs'.map (·.view) = V∧Turn (Ow rr Rs) w w' (Ow rr Rs')∧∀ k,Foot rr Rs' k→Foot rr Rs k∨N ≤ k
structure NewQs (w:World) (rr:Nat) (Rs:List RuleP) (qv:Value) (qs:List Qn) (lo:Nat):Prop where
 at' : QsAt lo w qv qs
 le:lo ≤ w.heap.size
 out:∀ k,Ow rr Rs k→k < lo
 short:∀ q ∈ qs,shortQ q
 few:qs ≠ []∧qs.length ≤ 6
def reask (n:Str) (qs:List Qn) (qv:Value) (lo hi:Nat) (x:RuleP):RuleP:=if x.name == n then { x with qs:=qs,ans:=[],v:=qv,lo:=lo,hi:=hi } else x
theorem reask_keeps (n:Str) (qs:List Qn) (qv:Value) (lo hi:Nat) (x:RuleP):(reask n qs qv lo hi x).name = x.name∧(reask n qs qv lo hi x).b = x.b∧(reask n qs qv lo hi x).m = x.m:=by
 unfold reask;split <;> simp
theorem reask_ow {n:Str} {qs:List Qn} {qv:Value} {lo hi rr:Nat} {Rs:List RuleP} {k:Nat}:Ow rr (Rs.map (reask n qs qv lo hi)) k ↔ Ow rr Rs k:=by
 unfold Ow
 constructor
 ·rintro (h | ⟨R,hR,h⟩)
  ·exact .inl h
  ·rw [List.mem_map] at hR
   obtain ⟨x,hx,rfl⟩:=hR
   obtain ⟨_,h2,h3⟩:=reask_keeps n qs qv lo hi x
   rw [h2,h3] at h
   exact .inr ⟨x,hx,h⟩
 ·rintro (h | ⟨R,hR,h⟩)
  ·exact .inl h
  ·obtain ⟨_,h2,h3⟩:=reask_keeps n qs qv lo hi R
   exact .inr ⟨_,List.mem_map.2 ⟨R,hR,rfl⟩,by rw [h2,h3];exact h⟩
theorem rules_change {w w2 w3:World} {rr:Nat} {Rs:List RuleP} {R:RuleP} {qv:Value} {qs:List Qn} {lo c:Nat} (h:RulesAt w rr Rs) (hR:R ∈ Rs) (hq:NewQs w rr Rs qv qs lo) (h2:Set1 w w2 R.m (.map #[] c)) (h3:Set1 w2 w3 R.b (.cells #[qv,.map (some R.m)] 179 (0,0))) :
  RulesOut lo w rr Rs (setV (Rs.map (·.view)) R.name qs) w3:=by
 have hoth:∀ k,k ≠ R.m→k ≠ R.b→w3.heap[k]? = w.heap[k]?:=fun k h4 h5 => (h3.other k h5).trans (h2.other k h4)
 have hsz:w3.heap.size = w.heap.size:=h3.size.trans h2.size
 have hRa:=h.each R hR
 have hoR:∀ k,k = R.b∨k = R.m→Ow rr Rs k:=fun k hk => .inr ⟨R,hR,hk⟩
 have hout:∀ x ∈ Rs.map (reask R.name qs qv lo w.heap.size),∀ k,Ow rr Rs k→¬ (x.lo ≤ k∧k < x.hi):=by
  intro x hx k hk
  rw [List.mem_map] at hx
  obtain ⟨y,hy,rfl⟩:=hx
  unfold reask
  split
  ·have:=hq.out k hk;simp only;omega
  ·exact h.out y hy k hk
 refine ⟨Rs.map (reask R.name qs qv lo w.heap.size),⟨?_,?_,?_,?_,?_,?_,?_,?_⟩,?_,?_,?_⟩
 ·obtain ⟨es,cl,h4,h5⟩:=h.map
  refine ⟨es,cl,(hoth rr (Ne.symm (h.apB R hR).2) (Ne.symm (h.apB R hR).1)).trans h4,?_⟩
  have e:(Rs.map (reask R.name qs qv lo w.heap.size)).map (fun R => (R.name,R.b)) = Rs.map (fun R => (R.name,R.b)):=by
   rw [List.map_map]
   apply List.map_congr_left
   intro x _
   obtain ⟨e1,e2,_⟩:=reask_keeps R.name qs qv lo w.heap.size x
   simp only [Function.comp,e1,e2]
  rw [e];exact h5
 ·intro x hx
  rw [List.mem_map] at hx
  obtain ⟨y,hy,rfl⟩:=hx
  by_cases e:y.name = R.name
  ·have:=name_inj h.nd hy hR e
   subst this
   unfold reask
   rw [if_pos (by simp)]
   exact ⟨h3.here,⟨#[],c,(h3.other _ (Ne.symm hRa.ne)).trans h2.here,ReplyAt.nil⟩,⟨by simp only;omega,w,rfl,hq.at',fun k h4 h5 => hoth k (fun e => by have:=hq.out k (hoR k (.inr e));simp only at h4;omega) (fun e => by have:=hq.out k (hoR k (.inl e));simp only at h4;omega)⟩,hRa.ne,
    by have:=hq.out _ (hoR y.b (.inl rfl));simp only;omega,by have:=hq.out _ (hoR y.m (.inr rfl));simp only;omega,.inl rfl,hq.short,hq.few⟩
  ·unfold reask
   rw [if_neg (by simpa using e)]
   have a1:=h.apS y hy R hR e
   have a2:=h.apS R hR y hy (Ne.symm e)
   refine (h.each y hy).keep (by omega) (hoth _ a1.2.1 a1.1) (hoth _ a1.2.2 (Ne.symm a2.2.1)) (fun k h4 h5 => hoth k ?_ ?_)
   ·intro e;exact h.out y hy k (hoR k (.inr e)) ⟨h4,h5⟩
   ·intro e;exact h.out y hy k (hoR k (.inl e)) ⟨h4,h5⟩
 ·have e:(Rs.map (reask R.name qs qv lo w.heap.size)).map (·.name) = Rs.map (·.name):=by
   rw [List.map_map]
   apply List.map_congr_left
   intro x _
   exact (reask_keeps R.name qs qv lo w.heap.size x).1
  rw [e];exact h.nd
 ·intro x hx
  rw [List.mem_map] at hx
  obtain ⟨y,hy,rfl⟩:=hx
  obtain ⟨_,e2,e3⟩:=reask_keeps R.name qs qv lo w.heap.size y
  rw [e2,e3];exact h.apB y hy
 ·intro x hx x' hx' hne
  rw [List.mem_map] at hx hx'
  obtain ⟨y,hy,rfl⟩:=hx
  obtain ⟨y',hy',rfl⟩:=hx'
  obtain ⟨e1,e2,e3⟩:=reask_keeps R.name qs qv lo w.heap.size y
  obtain ⟨f1,f2,f3⟩:=reask_keeps R.name qs qv lo w.heap.size y'
  rw [e1,f1] at hne
  rw [e2,e3,f2,f3];exact h.apS y hy y' hy' hne
 ·intro x hx k hk
  exact hout x hx k (reask_ow.1 hk)
 ·rw [List.length_map];exact h.few
 ·intro x hx
  rw [List.mem_map] at hx
  obtain ⟨y,hy,rfl⟩:=hx
  rw [(reask_keeps R.name qs qv lo w.heap.size y).1];exact h.short y hy
 ·unfold setV
  rw [if_pos (by rw [List.any_eq_true];exact ⟨R.view,List.mem_map.2 ⟨R,hR,rfl⟩,by simp [RuleP.view]⟩),List.map_map,List.map_map]
  apply List.map_congr_left
  intro x _
  by_cases e:x.name = R.name <;> simp [reask,RuleP.view,e]
 ·exact ⟨h3.os.trans h2.os,h3.tape.trans h2.tape,h3.output.trans h2.output,by omega,fun k _ hk => hoth k (fun e => hk (hoR k (.inr e))) (fun e => hk (hoR k (.inl e))),fun k hk => .inl (reask_ow.1 hk)⟩
 ·rintro k (hk | ⟨x,hx,h4,h5⟩)
  ·exact .inl (.inl (reask_ow.1 hk))
  ·rw [List.mem_map] at hx
   obtain ⟨y,hy,rfl⟩:=hx
   unfold reask at h4 h5
   split at h4
   ·rename_i he
    exact .inr h4
   ·rename_i he
    rw [if_neg he] at h5
    exact .inl (.inr ⟨y,hy,h4,h5⟩)
theorem rules_more {w w1 w2 w3 w4 w5:World} {rr:Nat} {Rs:List RuleP} {n:Str} {qv:Value} {qs:List Qn} {lo c c2:Nat} {es:Array MapEntry} (h:RulesAt w rr Rs) (hn:∀ R ∈ Rs,R.name ≠ n) (h8:Rs.length < 8) (hn8:n.length ≤ 8) (hq:NewQs w rr Rs qv qs lo)
  (hs1:w1 = w.alloc (.map #[] 0)) (hs2:w2 = w1.alloc (.cells #[.slice none 0 0,.map (some w.heap.size)] 179))
  (hh:Holds es (fun x:Str × Nat => SV x.1) (fun x => ptrV x.2) (Rs.map fun R => (R.name,R.b))) (hst:MapKept.Stamped es c)
  (h3:Set1 w2 w3 rr (.map (es.push { key:=SV n,val:=ptrV (w.heap.size + 1),born:=c }) (c + 1))) (h4:Set1 w3 w4 w.heap.size (.map #[] c2)) (h5:Set1 w4 w5 (w.heap.size + 1) (.cells #[qv,.map (some w.heap.size)] 179 (0,0))) :
  RulesOut lo w rr Rs (setV (Rs.map (·.view)) n qs) w5:=by
 have hz1:w1.heap.size = w.heap.size + 1:=by rw [hs1];simp
 have hz2:w2.heap.size = w.heap.size + 2:=by rw [hs2];simp [hz1]
 have hz:w5.heap.size = w.heap.size + 2:=by rw [h5.size,h4.size,h3.size,hz2]
 have hb2:Below w.heap.size w w2:=by
  have b1:Below w.heap.size w w1:=by rw [hs1];exact (Below.refl _ _).alloc (Nat.le_refl _) _
  have b2:Below w1.heap.size w1 w2:=by rw [hs2];exact (Below.refl _ _).alloc (Nat.le_refl _) _
  exact b1.trans (b2.mono (by omega))
 have hold:∀ k,k < w.heap.size→k ≠ rr→w5.heap[k]? = w.heap[k]?:=fun k h6 h7 => (h5.other k (by omega)).trans ((h4.other k (by omega)).trans ((h3.other k h7).trans (hb2.block k h6)))
 have hrr:rr < w.heap.size:=h.lt (.inl (.inl rfl))
 have hlo:∀ k,Ow rr Rs k→k < w.heap.size:=fun k hk => h.lt (.inl hk)
 have hmem:∀ x,x ∈ Rs ++ [(⟨n,qs,[],w.heap.size + 1,w.heap.size,qv,lo,w.heap.size⟩ : RuleP)]→x ∈ Rs∨x = ⟨n,qs,[],w.heap.size + 1,w.heap.size,qv,lo,w.heap.size⟩:=fun x hx => by
  rw [List.mem_append] at hx
  exact hx.imp id (fun h => by simpa using h)
 have how:∀ k,Ow rr (Rs ++ [(⟨n,qs,[],w.heap.size + 1,w.heap.size,qv,lo,w.heap.size⟩ : RuleP)]) k→Ow rr Rs k∨w.heap.size ≤ k:=by
  rintro k (hk | ⟨R,hR,hk⟩)
  ·exact .inl (.inl hk)
  ·rcases hmem R hR with hR | rfl
   ·exact .inl (.inr ⟨R,hR,hk⟩)
   ·right;simp only at hk;omega
 refine ⟨Rs ++ [⟨n,qs,[],w.heap.size + 1,w.heap.size,qv,lo,w.heap.size⟩],⟨?_,?_,?_,?_,?_,?_,?_,?_⟩,?_,?_,?_⟩
 ·refine ⟨_,_,(h5.other rr (by omega)).trans ((h4.other rr (by omega)).trans h3.here),?_⟩
  rw [List.map_append]
  refine ⟨Holds.push (K:=fun x:Str × Nat => SV x.1) (V:=fun x:Str × Nat => ptrV x.2) hh (x:=(n,w.heap.size + 1)) rfl,MapKept.stamped_push hst fun x hx e => ?_⟩
  have h6:(x.key,x.val) ∈ es.toList.map (fun e => (e.key,e.val)):=List.mem_map.2 ⟨x,hx,rfl⟩
  rw [hh,List.mem_map] at h6
  obtain ⟨y,hy,e2⟩:=h6
  rw [List.mem_map] at hy
  obtain ⟨R,hR,rfl⟩:=hy
  simp only [Prod.mk.injEq] at e2
  rw [← e2.1] at e
  simp at e
  exact hn R hR e
 ·intro x hx
  rcases hmem x hx with hx | rfl
  ·have hf:∀ k,Foot rr Rs k→k ≠ rr→w5.heap[k]? = w.heap[k]?:=fun k hk hne => hold k (h.lt hk) hne
   exact (h.each x hx).keep (by omega) (hf _ (.inl (.inr ⟨x,hx,.inl rfl⟩)) (h.apB x hx).1) (hf _ (.inl (.inr ⟨x,hx,.inr rfl⟩)) (h.apB x hx).2) (fun k h6 h7 => hf k (.inr ⟨x,hx,h6,h7⟩) (fun e => h.out x hx k (.inl e) ⟨h6,h7⟩))
  ·exact ⟨h5.here,⟨#[],c2,(h5.other _ (by simp only;omega)).trans h4.here,ReplyAt.nil⟩,⟨by simp only;omega,w,rfl,hq.at',fun k h6 h7 => hold k h7 (fun e => by have:=hq.out k (.inl e);simp only at h6;omega)⟩,by simp only;omega,
    by simp only;omega,by simp only;omega,.inl rfl,hq.short,hq.few⟩
 ·rw [List.map_append,List.nodup_append]
  refine ⟨h.nd,by simp,?_⟩
  intro a ha b hb
  simp only [List.mem_map] at ha
  obtain ⟨R,hR,rfl⟩:=ha
  simp at hb
  rw [hb];exact hn R hR
 ·intro x hx
  rcases hmem x hx with hx | rfl
  ·exact h.apB x hx
  ·simp only;omega
 ·intro x hx x' hx' hne
  have hl:∀ y ∈ Rs,y.b < w.heap.size∧y.m < w.heap.size:=fun y hy => ⟨hlo _ (.inr ⟨y,hy,.inl rfl⟩),hlo _ (.inr ⟨y,hy,.inr rfl⟩)⟩
  rcases hmem x hx with hx | rfl <;> rcases hmem x' hx' with hx' | rfl
  ·exact h.apS x hx x' hx' hne
  ·have:=hl x hx;simp only;omega
  ·have:=hl x' hx';simp only;omega
  ·exact absurd rfl hne
 ·intro x hx k hk
  rcases hmem x hx with hx | rfl
  ·rcases how k hk with hk | hk
   ·exact h.out x hx k hk
   ·have:=(h.each x hx).asked.1;omega
  ·rcases how k hk with hk | hk
   ·have:=hq.out k hk;simp only;omega
   ·simp only;omega
 ·simp;omega
 ·intro x hx
  rcases hmem x hx with hx | rfl
  ·exact h.short x hx
  ·exact hn8
 ·unfold setV
  rw [if_neg,List.map_append]
  ·rfl
  ·rw [List.any_eq_true]
   rintro ⟨v,hv,e⟩
   simp only [List.mem_map] at hv
   obtain ⟨R,hR,rfl⟩:=hv
   exact hn R hR (by simpa [RuleP.view] using e)
 ·refine ⟨?_,?_,?_,by omega,fun k h6 h7 => hold k h6 (fun e => h7 (.inl e)),fun k hk => how k hk⟩
  ·rw [h5.os,h4.os,h3.os];exact hb2.os
  ·rw [h5.tape,h4.tape,h3.tape];exact hb2.tape
  ·rw [h5.output,h4.output,h3.output];exact hb2.output
 ·rintro k (hk | ⟨x,hx,h6,h7⟩)
  ·rcases how k hk with hk | hk
   ·exact .inl (.inl hk)
   ·exact .inr (by have:=hq.le;omega)
  ·rcases hmem x hx with hx | rfl
   ·exact .inl (.inr ⟨x,hx,h6,h7⟩)
   ·exact .inr h6
end Go.Proofs.YtdcbgfhkfmohiaaGreatDoor

namespace Go.Proofs.YtdcbgfhkfmohiaaGreatDoor
open Go.RowKit
attribute [local go_sem] Oper.semAt_some
theorem cells_set0 {w:World} {b:Nat} {x y:Value} {t:TypeId} (h:w.heap[b]? = some (.cells #[x,y] t (0,0))) (v:Value):Set1 w (w.setCell ⟨b,0,none⟩ v) b (.cells #[v,y] t (0,0)):=setCell_set1 h _
set_option maxHeartbeats 8000000 in
set_option maxRecDepth 50000 in
theorem setRule_found (sb rr:Nat) (Rs:List RuleP) (R:RuleP) (qv:Value) (qs:List Qn) (lo:Nat) (w:World) (hs:w.cell? ⟨sb,5,none⟩ = some (.map (some rr))) (h:RulesAt w rr Rs) (hR:R ∈ Rs) (hq:NewQs w rr Rs qv qs lo) :
  Calls Tryz.prog 60 #[ptrV sb,SV R.name,qv] w fun e w' => e = .returned (.tuple #[])∧RulesOut lo w rr Rs (setV (Rs.map (·.view)) R.name qs) w':=by
 have LE:=rules_find h hR
 obtain ⟨es,c,hm,ha⟩:=(h.each R hR).amap
 obtain ⟨w2,h2,hs2⟩:=run_clear_map (w:=w) Tryz.underlying177 hm 0
 have c1:w.cell? ⟨R.b,1,none⟩ = some (.map (some R.m)):=(blk_cell (h.each R hR).cell 1).trans rfl
 have hb2:w2.heap[R.b]? = some (.cells #[R.v,.map (some R.m)] 179 (0,0)):=(hs2.other _ (h.each R hR).ne).trans (h.each R hR).cell
 obtain ⟨ao',n',cp',hv⟩:=qs_form (h.each R hR).asked.at'
 have c0:w2.cell? ⟨R.b,0,none⟩ = some (.slice ao' n' cp'):=by rw [← hv];exact (blk_cell hb2 0).trans rfl
 have f0:w2.frozen? ⟨R.b,0,none⟩ = false:=blk_free hb2 0
 have RR:Hid (RulesOut lo w rr Rs (setV (Rs.map (·.view)) R.name qs) (w2.setCell ⟨R.b,0,none⟩ qv)):=rules_change h hR hq hs2 (cells_set0 hb2 qv)
 obtain ⟨ao,n,cp,rfl⟩:=qs_form hq.at'
 clear hm ha hq h hR hs2 hb2 hv
 go_enter Tryz.func60,Tryz.ntmps60
 go_wp2
 go_end0
 exact ⟨rfl,RR.out⟩
set_option maxHeartbeats 8000000 in
set_option maxRecDepth 50000 in
theorem setRule_new (sb rr:Nat) (Rs:List RuleP) (nm:Str) (qv:Value) (qs:List Qn) (lo:Nat) (w:World) (hs:w.cell? ⟨sb,5,none⟩ = some (.map (some rr))) (h:RulesAt w rr Rs) (hn:∀ R ∈ Rs,R.name ≠ nm) (h8:Rs.length < 8) (hn8:nm.length ≤ 8) (hq:NewQs w rr Rs qv qs lo) :
  Calls Tryz.prog 60 #[ptrV sb,SV nm,qv] w fun e w' => e = .returned (.tuple #[])∧RulesOut lo w rr Rs (setV (Rs.map (·.view)) nm qs) w':=by
 have LE:=rules_none h hn
 have hsl:sb < w.heap.size:=World.block_lt_of_cell? w _ hs
 obtain ⟨w1,hw1⟩ : ∃ w1,w1 = w.alloc (.map #[] 0):=⟨_,rfl⟩
 have hz1:w1.heap.size = w.heap.size + 1:=by rw [hw1];simp
 obtain ⟨w2,hw2⟩ : ∃ w2,w2 = w1.alloc (.cells #[.slice none 0 0,.map (some w.heap.size)] 179):=⟨_,rfl⟩
 have hb1:Below w.heap.size w w1:=by rw [hw1];exact (Below.refl _ _).alloc (Nat.le_refl _) _
 have hb2:Below w1.heap.size w1 w2:=by rw [hw2];exact (Below.refl _ _).alloc (Nat.le_refl _) _
 have hb:Below w.heap.size w w2:=hb1.trans (hb2.mono (by omega))
 have s5:w2.cell? ⟨sb,5,none⟩ = some (.map (some rr)):=(hb.cell (p:=⟨sb,5,none⟩) hsl).trans hs
 obtain ⟨es,c,hm,hh,hst⟩:=h.map
 have hrr:rr < w.heap.size:=(Array.getElem?_eq_some_iff.1 hm).1
 have hm2:w2.heap[rr]? = some (.map es c):=(hb.block _ hrr).trans hm
 obtain ⟨hf,hout⟩:=rules_finds_no (W:=w2) h hh hn
 obtain ⟨w3,hu3,hs3⟩:=run_mapUpdate_new (w:=w2) Tryz.underlying85 hm2 hf hout (ptrV (w.heap.size + 1))
 have hn1:w2.heap[w.heap.size]? = some (.map #[] 0):=by
  rw [hb2.block _ (by omega),hw1];exact heap_alloc_new w _
 have hn2:w2.heap[w.heap.size + 1]? = some (.cells #[.slice none 0 0,.map (some w.heap.size)] 179 (0,0)):=by
  rw [← hz1,hw2,hz1];exact (by rw [← hz1];exact heap_alloc_new w1 _)
 have hn3:w3.heap[w.heap.size]? = some (.map #[] 0):=(hs3.other _ (by omega)).trans hn1
 have hn4:w3.heap[w.heap.size + 1]? = some (.cells #[.slice none 0 0,.map (some w.heap.size)] 179 (0,0)):=(hs3.other _ (by omega)).trans hn2
 have c1:w3.cell? ⟨w.heap.size + 1,1,none⟩ = some (.map (some w.heap.size)):=(blk_cell hn4 1).trans rfl
 obtain ⟨w4,hu4,hs4⟩:=run_clear_map (w:=w3) Tryz.underlying177 hn3 0
 have hn5:w4.heap[w.heap.size + 1]? = some (.cells #[.slice none 0 0,.map (some w.heap.size)] 179 (0,0)):=(hs4.other _ (by omega)).trans hn4
 have c0:w4.cell? ⟨w.heap.size + 1,0,none⟩ = some (.slice none 0 0):=(blk_cell hn5 0).trans rfl
 have f0:w4.frozen? ⟨w.heap.size + 1,0,none⟩ = false:=blk_free hn5 0
 have RR:Hid (RulesOut lo w rr Rs (setV (Rs.map (·.view)) nm qs) (w4.setCell ⟨w.heap.size + 1,0,none⟩ qv)):=rules_more h hn h8 hn8 hq hw1 hw2 hh hst hs3 hs4 (cells_set0 hn5 qv)
 obtain ⟨ao,n,cp,rfl⟩:=qs_form hq.at'
 have hmm:=@run_makeMap Tryz.prog
 have HW1:Hid _:=hw1
 have HW2:Hid _:=hw2
 clear hst hm hh hq h hs3 hs4 hn1 hn2 hn3 hn4 hn5 hf hout hm2 hb hb1 hb2 hn h8 hw1 hw2
 go_enter Tryz.func60,Tryz.ntmps60
 go_upto_region 3 with fail
 rw [← HW1.out,← HW2.out]
 go_wp2
 go_end0
 exact ⟨rfl,RR.out⟩
end Go.Proofs.YtdcbgfhkfmohiaaGreatDoor
