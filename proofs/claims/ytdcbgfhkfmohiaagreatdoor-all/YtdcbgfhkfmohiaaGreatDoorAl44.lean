/- Questions that are kept: parseAll. -/
import Derived.Test.YtdcbgfhkfmohiaaGreatDoorAl09
import Derived.Test.YtdcbgfhkfmohiaaGreatDoorAl32
import Derived.Test.YtdcbgfhkfmohiaaGreatDoorAl33
import Derived.Test.YtdcbgfhkfmohiaaGreatDoorAl35
import Derived.Test.YtdcbgfhkfmohiaaGreatDoorAl42
import Derived.Sort.KeysCollected
namespace Go.Proofs.YtdcbgfhkfmohiaaGreatDoor
open Go.RowKit
attribute [local go_sem] Oper.semAt_some
theorem Tryz.infoQuestion:(Tryz.prog.info? 114).map (fun i => (i.zero,i.size,i.bytes)) = some (some .nilIface,1,16):=by kernel_rfl
theorem QnsOf.push {xs:List Str} {x:Str} {qs:List Qn} {q:Qn} (h:QnsOf xs qs) (hq:qnOf (splitL 32 x) = some q) (hf:faultQ q = 0):QnsOf (xs ++ [x]) (qs ++ [q]):=by
 refine ⟨by rw [List.map_append,List.map_append,h.1];simp [hq],fun y hy => ?_⟩
 rw [List.mem_append] at hy
 rcases hy with hy | hy
 ·exact h.2 y hy
 ·simp at hy;subst hy;exact hf
theorem QnsOf.len {xs:List Str} {qs:List Qn} (h:QnsOf xs qs):qs.length = xs.length:=by have:=congrArg List.length h.1;simpa using this
set_option maxHeartbeats 4000000 in
set_option maxRecDepth 50000 in
theorem parseAll_any (xs:List Str) (nv:Value) (w:World) (hn:NamesAt w nv xs) (hl:xs.length ≤ 1000) (hmx:MaxOk w) :
  Calls Tryz.prog 59 #[nv] w fun e w' => ParseAllOut w xs e w':=by
 obtain ⟨ao,cap,rfl,hc,hm,hcell⟩:=hn
 have HC:Hid _:=hcell
 have HM:Hid _:=hmx
 clear hcell hmx
 go_enter Tryz.func59,Tryz.ntmps59
 go_wp2
 go_loopw [4,11] (fun v i wr => ∃ k:Nat,k ≤ xs.length∧i = .int .i64 k∧(∃ qs,QnsOf (xs.take k) qs∧QsAt w.heap.size wr v qs)∧(∀ j (hj:j < k) (hx:j < xs.length),checkL xs[j] = 0)∧Below w.heap.size w wr) (fun _ i _ => xs.length - (intOf i).toNat)
 case atStart => exact ⟨0,Nat.zero_le _,rfl,⟨[],⟨rfl,fun q hq => by simp at hq⟩,QsAt.nil _ _⟩,fun j hj => by omega,Below.refl _ _⟩
 case round =>
  obtain ⟨k,hk,rfl,⟨qs,hQ,hT⟩,hck,hb⟩:=hrel
  by_cases hlt:k < xs.length
  ·obtain ⟨g,o,rfl,hg,hcl⟩:=HC.out k hlt
   have ck:wr.cell? ⟨g,o + k,none⟩ = some (SV xs[k]):=(hb.cell (p:=⟨g,o + k,none⟩) hg).trans hcl
   have hki:(k:Int) < (xs.length:Int):=by omega
   have C:Hid (Calls Tryz.prog 52 #[SV xs[k]] wr fun e w' => ParseOut wr xs[k] e w'):=parse_any xs[k] wr (MaxOk.later HM.out hb)
   have hlen:qs.length = k:=by rw [hQ.len];simp;omega
   have HB:Hid _:=hb
   have HCK:Hid _:=hck
   have HQ:Hid _:=hQ
   obtain ⟨us0,hrow0,hnam0⟩:=hT
   have HP:Hid (∀ w2 w3 v' u q,Below wr.heap.size wr w2→QAt wr.heap.size w2 u q→w3.ownsRow w.heap.size 114 1 v' (k + 1) (us0 ++ [u])→w2.grownBy w3 u4.ownBlock→Moved w2 u4 v'→QsAt w.heap.size w3 v' (qs ++ [q])):=fun w2 w3 v' u q h1 h2 h3 h4 h5 =>
    QsAt.push hrow0 hnam0 hb.size h1 h2 (by rw [hlen];exact h3) h4 h5
   rw [hlen] at hrow0
   obtain ⟨ao0,cap0,rfl⟩:=row_form hrow0
   have HR0:Hid (wr.ownsRow w.heap.size 114 1 (.slice ao0 k cap0) k us0):=hrow0
   clear hb hcl hrow0 hnam0 hlen hck hQ
   go_wp2_with fail
   refine C.out.mono ?_
   rintro e w2 ⟨hb2,hp⟩
   rcases hp with ⟨hc2,rfl⟩ | ⟨hc2,v2,q,rfl,hq,hf,hv⟩
   ·have R:Hid (ParseAllOut w xs (.returned (.tuple #[.slice none 0 0,.int .i64 (checkL xs[k]:Nat)])) w2):=by
     have e:=checkAll_bad hlt (fun j hj => HCK.out j hj _) hc2
     refine ⟨HB.out.trans (hb2.mono HB.out.size),.inl ⟨by rw [e];exact hc2,by rw [e]⟩⟩
    have hc' : ¬ (checkL xs[k]:Int) = 0:=by omega
    clear hc2 hb2 C ck HP HR0
    generalize (checkL xs[k]:Int) = ce at *
    go_wp2
    go_ret2
    exact R.out
   ·have HB2:Hid _:=hb2
    have HV2:Hid _:=hv
    have HR2:Hid (w2.ownsRow w.heap.size 114 1 (.slice ao0 k cap0) k us0):=rowKept HR0.out (fun j hj => hb2.block j (HR0.out.lt j hj).2)
    have hbase2:w.heap.size ≤ w2.heap.size:=Nat.le_trans HB.out.size hb2.size
    have HN:Hid (QnsOf (xs.take (k + 1)) (qs ++ [q])∧∀ j (hj:j < k + 1) (hx:j < xs.length),checkL xs[j] = 0):=by
     refine ⟨?_,fun j hj hx => ?_⟩
     ·rw [List.take_succ_eq_append_getElem hlt];exact QnsOf.push HQ.out hq hf
     ·by_cases hj2:j < k
      ·exact HCK.out j hj2 hx
      ·obtain rfl:j = k:=by omega
       exact hc2
    obtain ⟨tv,cs,rfl⟩:=hv.iface
    clear hb2 hv C ck hc2 hq hf HCK HQ
    go_wp2_with (at_builtin;go_loud (refine wp_app_at 125 114 _ 1 16 Tryz.infoQuestion Tryz.underlying125 rfl (by decide) rfl (.tmp 23) (.tmp 25) rfl (base:=w.heap.size) HR2.out [.iface tv (.agg cs)] rfl (by intro u hu;simp at hu;subst hu;rfl) ⟨rfl,rfl,rfl,rfl⟩ rfl rfl (by unfold maxLen;omega) (by omega) hbase2 ?_))
    intro v' w3 hrow3 hg3 hm3
    have HT3:Hid _:=HP.out w2 w3 v' _ q HB2.out HV2.out hrow3 hg3 hm3
    have HB3:Hid (Below w.heap.size w w3):=(HB.out.trans (HB2.out.mono HB.out.size)).grown hg3 (Nat.le_trans HB.out.size HB2.out.size) (fun j hj => (HR0.out.lt j hj).1)
    obtain ⟨ao3,cap3,rfl⟩:=row_form hrow3
    clear hrow3 hg3 hm3 HP HR2 HR0
    go_wp2
    go_roundw
    case rel => exact ⟨k + 1,by omega,by go_num,⟨_,HN.out.1,HT3.out⟩,HN.out.2,HB3.out⟩
    case measure => simp [intOf];omega
  ·have hki:¬ (k:Int) < (xs.length:Int):=by omega
   have hok:∀ x ∈ xs,checkL x = 0:=fun x hx => by
    obtain ⟨j,hj,rfl⟩:=List.getElem_of_mem hx
    exact hck j (by omega) hj
   have R:Hid (ParseAllOut w xs (.returned (.tuple #[u4,.int .i64 0])) wr):=⟨hb,.inr ⟨checkAll_ok hok,hok,u4,qs,rfl,by rw [List.take_of_length_le (by omega)] at hQ;exact hQ,hT⟩⟩
   obtain ⟨us0,hrow0,_⟩:=hT
   obtain ⟨ao0,cap0,rfl⟩:=row_form hrow0
   clear hb hrow0 hck hok hQ
   go_wp2
   go_ret2
   exact R.out
end Go.Proofs.YtdcbgfhkfmohiaaGreatDoor

namespace Go.Proofs.YtdcbgfhkfmohiaaGreatDoor
open Go.RowKit
section
variable {α:Type} {w:World} {t kt et:TypeId} {key:Value} {es:Array MapEntry} {V:α→Value} {L:List α} {x0:α} {r clock:Nat}
theorem run_lookup2_in (hu:Tryz.prog.underlying t = some (.map kt et)) (hb:w.heap[r]? = some (.map es clock)) (hf:Finds w kt key es V L x0) (hin:x0 ∈ L):(Instr.lookup t (.map (some r)) key true).run Tryz.prog w = .ok (.tuple #[V x0,.bool true]) w:=by
 rcases hf.2 with ⟨h1,_⟩ | ⟨j,_,h2⟩
 ·exact absurd hin h1
 ·simp [Instr.lookup,run_underlying hu,MapKept.run_getObj_map hb,hf.1,h2,Result.andThen]
theorem run_lookup2_out (hu:Tryz.prog.underlying t = some (.map kt et)) (hb:w.heap[r]? = some (.map es clock)) (hf:Finds w kt key es V L x0) (hout:x0 ∉ L) {z:Value} (hz:(zeroValue et).run Tryz.prog w = .ok z w):(Instr.lookup t (.map (some r)) key true).run Tryz.prog w = .ok (.tuple #[z,.bool false]) w:=by
 rcases hf.2 with ⟨_,h2⟩ | ⟨j,h1,_⟩
 ·simp [Instr.lookup,run_underlying hu,MapKept.run_getObj_map hb,hf.1,h2,Result.andThen,hz]
 ·exact absurd (List.mem_of_getElem? h1) hout
theorem run_mapUpdate_old {K:α→Value} (hh:Holds es K V L) (hu:Tryz.prog.underlying t = some (.map kt et)) (hb:w.heap[r]? = some (.map es clock)) (hf:Finds w kt key es V L x0) (hin:x0 ∈ L) (hk:key = K x0) (hsame:Instr.sameBits 10000 key key = true) (v:Value) :
  ∃ w' j,L[j]? = some x0∧(Instr.mapUpdate t (.map (some r)) key v).run Tryz.prog w = .ok () w'∧Set1 w w' r (.map (es.modify j fun e => { e with key:=key,val:=v }) clock):=by
 rcases hf.2 with ⟨h1,_⟩ | ⟨j,h1,h2⟩
 ·exact absurd hin h1
 ·have hkj:((es[j]?).map (·.key)).getD key = key:=by
   have h3:=congrArg (fun l => l[j]?) hh
   simp only [List.getElem?_map,h1,Option.map_some,Array.getElem?_toList] at h3
   cases he:es[j]? with
   | none => rfl
   | some e => rw [he] at h3;simp at h3;simp [h3.1,hk]
  refine ⟨_,j,h1,?_,set1_of hb⟩
  simp [Instr.mapUpdate,run_underlying hu,MapKept.run_getObj_map hb,hf.1,h2,hkj,Instr.keyThatStays,hsame,MapKept.run_setObj_map _ hb,Result.andThen]
theorem run_clear_map (hu:Tryz.prog.underlying t = some (.map kt et)) (hb:w.heap[r]? = some (.map es clock)) (ty:TypeId) :
  ∃ w',(Builtin.clear_ #[t] ty #[.map (some r)]).run Tryz.prog w = .ok (.tuple #[]) w'∧Set1 w w' r (.map #[] clock) :=
 ⟨_,by simp [Builtin.clear_,run_underlying hu,MapKept.run_getObj_map hb,MapKept.run_setObj_map _ hb,Result.andThen],set1_of hb⟩
end
theorem finds_str {α:Type} {w:World} {es:Array MapEntry} {V:α→Value} {L:List α} {g:α→Str} {x0:α} (hh:Holds es (fun x => SV (g x)) V L) (hinj:∀ x ∈ L,g x0 = g x→x0 = x):Finds w 9 (SV (g x0)) es V L x0:=by
 refine ⟨fun em => by rw [show (10000:Nat) = 9999 + 1 from rfl,Instr.checkKey];simp [run_underlying Tryz.underlying9],?_⟩
 have:=find_now (d:=.string) (V:=V) (key:=SV (g x0)) (x0:=x0) L es.toList 0 hh (fun x hx => ⟨g x0 == g x,by simp only [Instr.sameNow,sv_beq],by rw [beq_iff_eq];exact ⟨hinj x hx,fun h => by rw [h]⟩⟩)
 rcases this with ⟨h1,h2⟩ | ⟨j,h1,h2⟩
 ·exact .inl ⟨h1,MapKept.run_findKey Tryz.underlying9 h2⟩
 ·exact .inr ⟨j,h1,by rw [MapKept.run_findKey Tryz.underlying9 h2];simp⟩
def ReplyAt (es:Array MapEntry) (ans:List Str):Prop:=Holds es (fun k:Nat => Value.int .i64 k) (fun k => .agg #[SV (ans.getD k [])]) (List.range ans.length)
theorem ReplyAt.nil:ReplyAt #[] []:=rfl
theorem ReplyAt.push {es:Array MapEntry} {ans:List Str} (h:ReplyAt es ans) (a:Str) (c:Nat):ReplyAt (es.push { key:=.int .i64 ans.length,val:=.agg #[SV a],born:=c }) (ans ++ [a]):=by
 unfold ReplyAt Holds at *
 rw [Array.toList_push,List.map_append,h,List.length_append,List.length_singleton,List.range_succ,List.map_append]
 congr 1
 ·apply List.map_congr_left
  intro k hk
  simp at hk
  simp [List.getD_eq_getElem?_getD,hk,List.getElem?_append_left hk]
 ·simp [List.getD_eq_getElem?_getD]
theorem ReplyAt.set {es:Array MapEntry} {ans:List Str} (h:ReplyAt es ans) (k:Nat) (a:Str):ReplyAt (es.modify k fun e => { e with key:=.int .i64 k,val:=.agg #[SV a] }) (ans.set k a):=by
 unfold ReplyAt Holds at *
 have hl:es.size = ans.length:=by have:=congrArg List.length h;simpa using this
 rw [List.length_set]
 apply List.ext_getElem
 ·simp [hl]
 ·intro j h1 h2
  simp at h2
  have hj:=congrArg (fun l => l[j]?) h
  simp only [List.getElem?_map,Array.getElem?_toList,List.getElem?_range h2,Option.map_some] at hj
  have hjs:j < es.size:=by omega
  simp only [Array.getElem?_eq_getElem hjs,Option.map_some,Option.some.injEq,Prod.mk.injEq] at hj
  simp only [List.getElem_map,Array.getElem_toList,Array.getElem_modify,List.getElem_range]
  by_cases e:k = j
  ·subst e
   simp [List.getD_eq_getElem?_getD,h2]
  ·simp [e,hj.1,hj.2,List.getD_eq_getElem?_getD,List.getElem?_set_ne e]
theorem ReplyAt.len {es:Array MapEntry} {ans:List Str} (h:ReplyAt es ans):es.size = ans.length:=by have:=congrArg List.length h;simpa using this
theorem ReplyAt.finds {w:World} {es:Array MapEntry} {ans:List Str} (h:ReplyAt es ans) (k:Nat):Finds w 3 (.int .i64 k) es (fun k => .agg #[SV (ans.getD k [])]) (List.range ans.length) k :=
 finds_int (g:=fun k:Nat => (k:Int)) h (fun _ _ e => Int.ofNat_inj.1 e)
theorem Tryz.zeroReply (w:World):(zeroValue 181).run Tryz.prog w = .ok (.agg #[SV []]) w:=by kernel_rfl
theorem Tryz.zeroRule (w:World):(zeroValue 122).run Tryz.prog w = .ok (.pointer none) w:=by kernel_rfl
theorem ans_given {w:World} {r c:Nat} {es:Array MapEntry} {ans:List Str} (h:ReplyAt es ans) (hb:w.heap[r]? = some (.map es c)) {k:Nat} (hk:k < ans.length):(Instr.lookup 177 (.map (some r)) (.int .i64 k) true).run Tryz.prog w = .ok (.tuple #[.agg #[SV ans[k]],.bool true]) w:=by
 have:=run_lookup2_in Tryz.underlying177 hb (h.finds (w:=w) k) (by simpa using hk)
 rw [this]
 simp [List.getD_eq_getElem?_getD,hk]
theorem ans_not {w:World} {r c:Nat} {es:Array MapEntry} {ans:List Str} (h:ReplyAt es ans) (hb:w.heap[r]? = some (.map es c)) {k:Nat} (hk:ans.length ≤ k):(Instr.lookup 177 (.map (some r)) (.int .i64 k) true).run Tryz.prog w = .ok (.tuple #[.agg #[SV []],.bool false]) w :=
 run_lookup2_out Tryz.underlying177 hb (h.finds (w:=w) k) (by simp;omega) (Tryz.zeroReply w)
theorem ans_new {w:World} {r c:Nat} {es:Array MapEntry} {ans:List Str} (h:ReplyAt es ans) (hb:w.heap[r]? = some (.map es c)) (a:Str) :
  ∃ w',(Instr.mapUpdate 177 (.map (some r)) (.int .i64 ans.length) (.agg #[SV a])).run Tryz.prog w = .ok () w'∧∃ es' c',Set1 w w' r (.map es' c')∧ReplyAt es' (ans ++ [a]):=by
 obtain ⟨w',h1,h2⟩:=run_mapUpdate_new Tryz.underlying177 hb (h.finds (w:=w) ans.length) (by simp) (.agg #[SV a])
 exact ⟨w',h1,_,_,h2,h.push a _⟩
theorem ans_set {w:World} {r c:Nat} {es:Array MapEntry} {ans:List Str} (h:ReplyAt es ans) (hb:w.heap[r]? = some (.map es c)) {k:Nat} (hk:k < ans.length) (a:Str) :
  ∃ w',(Instr.mapUpdate 177 (.map (some r)) (.int .i64 k) (.agg #[SV a])).run Tryz.prog w = .ok () w'∧∃ es' c',Set1 w w' r (.map es' c')∧ReplyAt es' (ans.set k a):=by
 obtain ⟨w',j,hj,h1,h2⟩:=run_mapUpdate_old h Tryz.underlying177 hb (h.finds (w:=w) k) (by simpa using hk) rfl (by simp [Instr.sameBits]) (.agg #[SV a])
 obtain rfl:j = k:=by
  have h3:=List.getElem?_eq_some_iff.1 hj
  obtain ⟨h4,h5⟩:=h3
  simpa using h5
 exact ⟨w',h1,_,_,h2,h.set _ a⟩

open Go.RowKit
attribute [local go_sem] Oper.semAt_some
structure RuleP where
 name:Str
 qs:List Qn
 ans:List Str
 b:Nat
 m:Nat
 v:Value
 lo:Nat
 hi:Nat
def Asked (w:World) (R:RuleP):Prop:=R.hi ≤ w.heap.size∧∃ W:World,W.heap.size = R.hi∧QsAt R.lo W R.v R.qs∧∀ k,R.lo ≤ k→k < R.hi→w.heap[k]? = W.heap[k]?
theorem Asked.at' {w:World} {R:RuleP} (h:Asked w R):QsAt R.lo w R.v R.qs:=by
 obtain ⟨h1,W,h2,h3,h4⟩:=h
 exact h3.keep (by omega) fun k h5 h6 => h4 k h5 (by omega)
theorem Asked.keep {w w' : World} {R:RuleP} (h:Asked w R) (hs:w.heap.size ≤ w'.heap.size) (hb:∀ k,R.lo ≤ k→k < R.hi→w'.heap[k]? = w.heap[k]?):Asked w' R:=by
 obtain ⟨h1,W,h2,h3,h4⟩:=h
 exact ⟨by omega,W,h2,h3,fun k h5 h6 => (hb k h5 h6).trans (h4 k h5 h6)⟩
structure RuleAt (w:World) (R:RuleP):Prop where
 cell:w.heap[R.b]? = some (.cells #[R.v,.map (some R.m)] 179 (0,0))
 amap:∃ es c,w.heap[R.m]? = some (.map es c)∧ReplyAt es R.ans
 asked:Asked w R
 ne:R.b ≠ R.m
 outB:¬ (R.lo ≤ R.b∧R.b < R.hi)
 outM:¬ (R.lo ≤ R.m∧R.m < R.hi)
 full:R.ans = []∨R.ans.length = R.qs.length
 short:∀ q ∈ R.qs,shortQ q
 few:R.qs ≠ []∧R.qs.length ≤ 6
theorem qs_cells {base:Nat} {w:World} {ao:Option Addr} {n c:Nat} {qs:List Qn} (h:QsAt base w (.slice ao n c) qs) :
  n = qs.length∧qs.length ≤ c∧c ≤ maxLen∧∀ k (hk:k < qs.length),∃ g u lo,ao = some ⟨g,0,none⟩∧g < w.heap.size∧base ≤ g∧w.cell? ⟨g,k,none⟩ = some u∧QAt lo w u qs[k]:=by
 obtain ⟨us,h1,h2⟩:=h
 have hl:us.length = qs.length:=by have:=h1.1;omega
 rcases row_cells h1 with ⟨e,h3⟩ | ⟨g,cap,e,h4,h4b,h5,h6,h7⟩
 ·simp only [Value.slice.injEq] at e
  obtain ⟨rfl,rfl,rfl⟩:=e
  exact ⟨h3.symm,by omega,by unfold maxLen;omega,fun k hk => by omega⟩
 ·simp only [Value.slice.injEq] at e
  obtain ⟨rfl,rfl,rfl⟩:=e
  refine ⟨rfl,h5,h6,fun k hk => ?_⟩
  have hu:us[k]? = some (us[k]'(by omega)):=List.getElem?_eq_getElem (by omega)
  obtain ⟨lo,hi,_,h8,_⟩:=h2 k _ _ hu (List.getElem?_eq_getElem hk)
  exact ⟨g,us[k]'(by omega),lo,rfl,h4,by first | exact h4b | omega,h7 k _ hu,h8.at'⟩
theorem qs_form {base:Nat} {w:World} {v:Value} {qs:List Qn} (h:QsAt base w v qs):∃ ao n c,v = .slice ao n c:=by
 obtain ⟨us,h1,_⟩:=h
 obtain ⟨ao,cap,rfl⟩:=row_form h1
 exact ⟨_,_,_,rfl⟩
noncomputable def nowQ (es:Ents) (qs:List Qn):List Str:=qs.map (answerQ es)
theorem now_len (es:Ents) (qs:List Qn):(nowQ es qs).length = qs.length:=by simp [nowQ]
theorem cur_new {now ans:List Str} {k:Nat} (h:ans = []) (hk:k < now.length):now.take k ++ ans.drop k ++ [now[k]] = now.take (k + 1) ++ ans.drop (k + 1):=by
 subst h
 rw [List.take_succ_eq_append_getElem hk];simp
theorem cur_set {now ans:List Str} {k:Nat} (h:ans.length = now.length) (hk:k < now.length):(now.take k ++ ans.drop k).set k now[k] = now.take (k + 1) ++ ans.drop (k + 1):=by
 have e:ans.drop k = ans[k]'(by omega) :: ans.drop (k + 1):=List.drop_eq_getElem_cons (by omega)
 rw [e,List.set_append_right _ _ (by simp;omega),List.take_succ_eq_append_getElem hk]
 have:k - (now.take k).length = 0:=by simp;omega
 rw [this,List.set_cons_zero,List.append_assoc,List.singleton_append]
theorem cur_same {now ans:List Str} {k:Nat} (hk:k < now.length) (h2:k < ans.length) (h:ans[k] = now[k]):now.take k ++ ans.drop k = now.take (k + 1) ++ ans.drop (k + 1):=by
 have e:ans.drop k = ans[k] :: ans.drop (k + 1):=List.drop_eq_getElem_cons h2
 rw [e,List.take_succ_eq_append_getElem hk,h,List.append_assoc,List.singleton_append]
theorem cur_len {now ans:List Str} {k:Nat} (hk:k < now.length):(now.take k ++ ans.drop k).length = k + (ans.length - k):=by simp;omega
theorem due_new {now ans:List Str} {k:Nat} (h:ans = []) (hk:k < now.length):decide (now.take (k + 1) ≠ ans.take (k + 1)) = true:=by
 subst h
 simp;intro e;rw [e] at hk;simp at hk
theorem due_diff {now ans:List Str} {k:Nat} (hk:k < now.length) (h2:k < ans.length) (h:¬ ans[k] = now[k]):decide (now.take (k + 1) ≠ ans.take (k + 1)) = true:=by
 rw [decide_eq_true_iff,List.take_succ_eq_append_getElem hk,List.take_succ_eq_append_getElem h2]
 intro e
 have:=List.append_inj' e rfl
 simp at this
 exact h this.2.symm
theorem due_same {now ans:List Str} {k:Nat} (hk:k < now.length) (h2:k < ans.length) (h:ans[k] = now[k]):decide (now.take (k + 1) ≠ ans.take (k + 1)) = decide (now.take k ≠ ans.take k):=by
 rw [decide_eq_decide,List.take_succ_eq_append_getElem hk,List.take_succ_eq_append_getElem h2,h]
 constructor
 ·intro h1 e;exact h1 (by rw [e])
 ·intro h1 e;exact h1 (List.append_inj_left' e rfl)
def BuildOut (w:World) (R:RuleP) (now:List Str) (e:Ending) (w' : World):Prop :=
 e = .returned (.bool (decide (now ≠ R.ans)))∧RuleAt w' { R with ans:=now }∧Turn (fun k => k = R.m) w w' (fun k => k = R.m)
set_option maxHeartbeats 8000000 in
set_option maxRecDepth 50000 in
theorem build_any (B:Bank) (es:Ents) (R:RuleP) (w:World) (hB:BankAt w B) (hes:es ∈ B.ds) (hw:WFE es) (h5:heightE es ≤ 5) (hfew:(filesE es).length ≤ 20) (hR:RuleAt w R) (hm:¬ B.own R.m) :
  Calls Tryz.prog 57 #[ptrV R.b,ptrV (B.ad (.dir es))] w fun e w' => BuildOut w R (nowQ es R.qs) e w':=by
 obtain ⟨ao,n,c,hv⟩:=qs_form hR.asked.at'
 have hq:=hR.asked.at'
 rw [hv] at hq
 obtain ⟨rfl,hc,hm2,hcl⟩:=qs_cells hq
 clear hcl
 have c0:w.cell? ⟨R.b,0,none⟩ = some (.slice ao R.qs.length c):=by rw [← hv];exact (blk_cell hR.cell 0).trans rfl
 have HR:Hid _:=hR
 have HB:Hid _:=hB
 have HV:Hid _:=hv
 have HM:Hid _:=hm
 have hql:=hR.few.2
 clear hq hR hB hv hm
 unfold maxLen at hm2
 go_enter Tryz.func57,Tryz.ntmps57
 go_wp2
 go_loopw [5,16] (fun d i wr => ∃ k:Nat,k ≤ R.qs.length∧i = .int .i64 k∧d = .bool (decide ((nowQ es R.qs).take k ≠ R.ans.take k))∧Turn (fun k => k = R.m) w wr (fun k => k = R.m)∧∃ ms cl,wr.heap[R.m]? = some (.map ms cl)∧ReplyAt ms ((nowQ es R.qs).take k ++ R.ans.drop k)) (fun _ i _ => R.qs.length - (intOf i).toNat)
 case atStart =>
  obtain ⟨ms,cl,h1,h2⟩:=HR.out.amap
  exact ⟨0,Nat.zero_le _,rfl,by simp,Turn.refl _ _,ms,cl,h1,by simpa using h2⟩
 case round =>
  obtain ⟨k,hk,rfl,rfl,ht,ms,cl,hmap,hrep⟩:=hrel
  have HT:Hid _:=ht
  have HMP:Hid _:=hmap
  have HRP:Hid (Hid (ReplyAt ms ((nowQ es R.qs).take k ++ R.ans.drop k))):=hrep
  by_cases hlt:k < R.qs.length
  ·have hki:(k:Int) < (R.qs.length:Int):=by omega
   have hblk:∀ j,j < w.heap.size→j ≠ R.m→wr.heap[j]? = w.heap[j]?:=fun j h1 h2 => ht.blk j h1 h2
   have hAs:Asked wr R:=HR.out.asked.keep ht.size (fun j h1 h2 => hblk j (by have:=HR.out.asked.1;omega) (fun e => HR.out.outM ⟨by omega,by omega⟩))
   have hQs:=hAs.at'
   rw [HV.out] at hQs
   obtain ⟨_,_,_,hcell⟩:=qs_cells hQs
   obtain ⟨g,u,lo,rfl,hg,hgl,ck,hqa⟩:=hcell k hlt
   have hBr:BankAt wr B:=HB.out.frame fun j hj => hblk j (HB.out.own_lt hj) (fun e => HM.out (e ▸ hj))
   have hbb:wr.heap[R.b]? = some (.cells #[R.v,.map (some R.m)] 179 (0,0)):=(hblk R.b (Array.getElem?_eq_some_iff.1 HR.out.cell).1 HR.out.ne).trans HR.out.cell
   have C:Hid _:=answer_any B es R.qs[k] u lo wr hBr hes hw h5 hfew hqa (HR.out.short _ (List.getElem_mem hlt))
   obtain ⟨a,ha⟩ : ∃ a,answerQ es R.qs[k] = a:=⟨_,rfl⟩
   rw [ha] at C
   have HA:Hid _:=ha
   have HBB:Hid _:=hbb
   obtain ⟨tv,cs,rfl⟩:=hqa.iface
   generalize B.ad (.dir es) = bb at *
   clear ht hmap hrep hAs hQs hcell hqa hBr hbb ha hblk
   go_wp2_with fail
   refine Calls.mono (show Calls _ _ _ _ _ from C.out) ?_
   rintro e w2 ⟨rfl,hb2⟩
   go_upto_region 6 with fail
   have hz3:(w2.alloc (.cells #[SV a] 181)).heap.size = w2.heap.size + 1:=by simp
   have n3:=heap_alloc_new w2 (.cells #[SV a] 181)
   have hb3:Below w2.heap.size w2 (w2.alloc (.cells #[SV a] 181)):=(Below.refl _ _).alloc (Nat.le_refl _) _
   generalize w2.alloc (.cells #[SV a] 181) = w3 at *
   have hbm:=Array.getElem?_eq_some_iff.1 HMP.out
   have hm2' : w2.heap[R.m]? = some (.map ms cl):=(hb2.block _ hbm.1).trans HMP.out
   have hbr:=(Array.getElem?_eq_some_iff.1 HBB.out).1
   have hb2' : w2.heap[R.b]? = some (.cells #[R.v,.map (some R.m)] 179 (0,0)):=(hb2.block _ hbr).trans HBB.out
   have hm3:w3.heap[R.m]? = some (.map ms cl):=(hb3.block _ (Array.getElem?_eq_some_iff.1 hm2').1).trans hm2'
   have hb3' : w3.heap[R.b]? = some (.cells #[R.v,.map (some R.m)] 179 (0,0)):=(hb3.block _ (Array.getElem?_eq_some_iff.1 hb2').1).trans hb2'
   have c1:w3.cell? ⟨R.b,1,none⟩ = some (.map (some R.m)):=(blk_cell hb3' 1).trans rfl
   have T3:Hid (Turn (fun k => k = R.m) w w3 (fun k => k = R.m)):=(HT.out.trans (Turn.of_below hb2)).trans (Turn.of_below hb3)
   have HN3:Hid _:=n3
   have HM3:Hid _:=hm3
   have HB3:Hid _:=hb3'
   have hnk:(nowQ es R.qs)[k]'(by rw [now_len];exact hlt) = a:=by rw [← HA.out];simp [nowQ]
   have HNK:Hid _:=hnk
   have hkl:k < (nowQ es R.qs).length:=by rw [now_len];exact hlt
   clear hm2' hb2' hm3 hb3' hb2 hb3 n3 hbm hbr C c0 HMP HBB hnk ck
   rcases HR.out.full with hemp | hfull
   ·have LE:(Instr.lookup 177 (.map (some R.m)) (.int .i64 k) true).run Tryz.prog w3 = .ok (.tuple #[.agg #[SV []],.bool false]) w3:=ans_not HRP.out.out HM3.out (by rw [cur_len hkl,hemp];simp)
    go_upto_region 7 with fail
    have n4:=heap_alloc_new w3 (.cells #[.string ⟨#[]⟩] 181)
    have hb4:Below w3.heap.size w3 (w3.alloc (.cells #[.string ⟨#[]⟩] 181)):=(Below.refl _ _).alloc (Nat.le_refl _) _
    generalize w3.alloc (.cells #[.string ⟨#[]⟩] 181) = w4 at *
    have c8:w4.cell? ⟨w2.heap.size,0,none⟩ = some (SV a):=(blk_cell ((hb4.block _ (by omega)).trans HN3.out) 0).trans rfl
    have c9:w4.cell? ⟨w2.heap.size + 1,0,none⟩ = some (.string ⟨#[]⟩):=by rw [hz3] at n4;exact (blk_cell n4 0).trans rfl
    have hm4:w4.heap[R.m]? = some (.map ms cl):=(hb4.block _ (Array.getElem?_eq_some_iff.1 HM3.out).1).trans HM3.out
    have hb4' : w4.heap[R.b]? = some (.cells #[R.v,.map (some R.m)] 179 (0,0)):=(hb4.block _ (Array.getElem?_eq_some_iff.1 HB3.out).1).trans HB3.out
    have c1' : w4.cell? ⟨R.b,1,none⟩ = some (.map (some R.m)):=(blk_cell hb4' 1).trans rfl
    obtain ⟨w5,hu5,es5,cl5,hs5,hr5⟩:=ans_new (w:=w4.drew) HRP.out.out hm4 a
    rw [show ((nowQ es R.qs).take k ++ R.ans.drop k).length = k by rw [cur_len hkl,hemp];simp] at hu5
    have RR:Hid (Turn (fun k => k = R.m) w w5 (fun k => k = R.m)∧∃ ms cl,w5.heap[R.m]? = some (.map ms cl)∧ReplyAt ms ((nowQ es R.qs).take (k + 1) ++ R.ans.drop (k + 1))):=by
     refine ⟨(T3.out.trans (Turn.of_below hb4)).trans ⟨hs5.os,hs5.tape,hs5.output,Nat.le_of_eq hs5.size.symm,fun j _ h => hs5.other j h,fun _ h => .inl h⟩,es5,cl5,hs5.here,?_⟩
     rw [← HNK.out] at hr5;rw [← cur_new hemp hkl];exact hr5
    have DU:Hid (decide ((nowQ es R.qs).take (k + 1) ≠ R.ans.take (k + 1)) = true):=due_new hemp hkl
    clear n4 hb4 hm4 hb4' hs5 hr5 T3 HR HB HM HRP HN3 HM3 HB3 LE c1
    go_wp2
    go_region
    all_goals
     go_wp2
     go_roundw
     case rel => exact ⟨k + 1,by omega,by go_num,by rw [DU.out],RR.out⟩
     case measure => simp [intOf];omega
   ·have hka:k < R.ans.length:=by omega
    have hcl:k < ((nowQ es R.qs).take k ++ R.ans.drop k).length:=by rw [cur_len hkl];omega
    obtain ⟨x,hx⟩ : ∃ x,R.ans[k] = x:=⟨_,rfl⟩
    have HX:Hid _:=hx
    have LE:(Instr.lookup 177 (.map (some R.m)) (.int .i64 k) true).run Tryz.prog w3 = .ok (.tuple #[.agg #[SV x],.bool true]) w3:=by
     rw [ans_given HRP.out.out HM3.out hcl,← hx]
     congr 4
     rw [List.getElem_append_right (by simp;omega)]
     simp [now_len]
     congr 1
     omega
    clear hx
    by_cases hxa:x = a
    ·subst hxa
     go_upto_region 7 with fail
     have n4:=heap_alloc_new w3 (.cells #[SV x] 181)
     have hb4:Below w3.heap.size w3 (w3.alloc (.cells #[SV x] 181)):=(Below.refl _ _).alloc (Nat.le_refl _) _
     generalize w3.alloc (.cells #[SV x] 181) = w4 at *
     have c8:w4.cell? ⟨w2.heap.size,0,none⟩ = some (SV x):=(blk_cell ((hb4.block _ (by omega)).trans HN3.out) 0).trans rfl
     have c9:w4.cell? ⟨w2.heap.size + 1,0,none⟩ = some (SV x):=by rw [hz3] at n4;exact (blk_cell n4 0).trans rfl
     have hm4:w4.heap[R.m]? = some (.map ms cl):=(hb4.block _ (Array.getElem?_eq_some_iff.1 HM3.out).1).trans HM3.out
     have hb4' : w4.heap[R.b]? = some (.cells #[R.v,.map (some R.m)] 179 (0,0)):=(hb4.block _ (Array.getElem?_eq_some_iff.1 HB3.out).1).trans HB3.out
     have c1' : w4.cell? ⟨R.b,1,none⟩ = some (.map (some R.m)):=(blk_cell hb4' 1).trans rfl
     have RR:Hid (Turn (fun k => k = R.m) w w4 (fun k => k = R.m)∧∃ ms cl,w4.heap[R.m]? = some (.map ms cl)∧ReplyAt ms ((nowQ es R.qs).take (k + 1) ++ R.ans.drop (k + 1))):=by
      refine ⟨T3.out.trans (Turn.of_below hb4),ms,cl,hm4,?_⟩
      rw [← cur_same hkl hka (by rw [HX.out,HNK.out])];exact HRP.out.out
     have DU:Hid (decide ((nowQ es R.qs).take (k + 1) ≠ R.ans.take (k + 1)) = decide ((nowQ es R.qs).take k ≠ R.ans.take k)):=due_same hkl hka (by rw [HX.out,HNK.out])
     clear n4 hb4 hm4 hb4' T3 HR HB HM HRP HN3 HM3 HB3 LE c1
     go_wp2
     go_roundw
     case rel => exact ⟨k + 1,by omega,by go_num,by rw [DU.out];simp,RR.out⟩
     case measure => simp [intOf];omega
    ·go_upto_region 7 with fail
     have n4:=heap_alloc_new w3 (.cells #[SV x] 181)
     have hb4:Below w3.heap.size w3 (w3.alloc (.cells #[SV x] 181)):=(Below.refl _ _).alloc (Nat.le_refl _) _
     generalize w3.alloc (.cells #[SV x] 181) = w4 at *
     have c8:w4.cell? ⟨w2.heap.size,0,none⟩ = some (SV a):=(blk_cell ((hb4.block _ (by omega)).trans HN3.out) 0).trans rfl
     have c9:w4.cell? ⟨w2.heap.size + 1,0,none⟩ = some (SV x):=by rw [hz3] at n4;exact (blk_cell n4 0).trans rfl
     have hm4:w4.heap[R.m]? = some (.map ms cl):=(hb4.block _ (Array.getElem?_eq_some_iff.1 HM3.out).1).trans HM3.out
     have hb4' : w4.heap[R.b]? = some (.cells #[R.v,.map (some R.m)] 179 (0,0)):=(hb4.block _ (Array.getElem?_eq_some_iff.1 HB3.out).1).trans HB3.out
     have c1' : w4.cell? ⟨R.b,1,none⟩ = some (.map (some R.m)):=(blk_cell hb4' 1).trans rfl
     obtain ⟨w5,hu5,es5,cl5,hs5,hr5⟩:=ans_set (w:=w4.drew) HRP.out.out hm4 hcl a
     have RR:Hid (Turn (fun k => k = R.m) w w5 (fun k => k = R.m)∧∃ ms cl,w5.heap[R.m]? = some (.map ms cl)∧ReplyAt ms ((nowQ es R.qs).take (k + 1) ++ R.ans.drop (k + 1))):=by
      refine ⟨(T3.out.trans (Turn.of_below hb4)).trans ⟨hs5.os,hs5.tape,hs5.output,Nat.le_of_eq hs5.size.symm,fun j _ h => hs5.other j h,fun _ h => .inl h⟩,es5,cl5,hs5.here,?_⟩
      rw [← HNK.out] at hr5;rw [← cur_set (by rw [now_len];exact hfull) hkl];exact hr5
     have DU:Hid (decide ((nowQ es R.qs).take (k + 1) ≠ R.ans.take (k + 1)) = true):=due_diff hkl hka (by rw [HX.out,HNK.out];exact hxa)
     clear n4 hb4 hm4 hb4' hs5 hr5 T3 HR HB HM HRP HN3 HM3 HB3 LE c1
     go_wp2
     go_region
     all_goals
      go_wp2
      go_roundw
      case rel => exact ⟨k + 1,by omega,by go_num,by rw [DU.out],RR.out⟩
      case measure => simp [intOf];omega
  ·have hki:¬ (k:Int) < (R.qs.length:Int):=by omega
   obtain rfl:k = R.qs.length:=by omega
   have e1:(nowQ es R.qs).take R.qs.length = nowQ es R.qs:=List.take_of_length_le (by rw [now_len];exact Nat.le_refl _)
   have e2:R.ans.drop R.qs.length = []∧R.ans.take R.qs.length = R.ans:=by
    rcases HR.out.full with h | h
    ·rw [h];simp
    ·exact ⟨List.drop_of_length_le (by omega),List.take_of_length_le (by omega)⟩
   have hrep':=HRP.out.out
   rw [e1,e2.1,List.append_nil] at hrep'
   rw [e1,e2.2]
   have hblk:∀ j,j < w.heap.size→j ≠ R.m→wr.heap[j]? = w.heap[j]?:=fun j h1 h2 => ht.blk j h1 h2
   have RR:Hid (BuildOut w R (nowQ es R.qs) (.returned (.bool (decide (nowQ es R.qs ≠ R.ans)))) wr) :=
    ⟨rfl,⟨(hblk R.b (Array.getElem?_eq_some_iff.1 HR.out.cell).1 HR.out.ne).trans HR.out.cell,⟨ms,cl,hmap,hrep'⟩,
     HR.out.asked.keep ht.size (fun j h1 h2 => hblk j (by have:=HR.out.asked.1;omega) (fun e => HR.out.outM ⟨by omega,by omega⟩)),HR.out.ne,HR.out.outB,HR.out.outM,.inr (now_len _ _),HR.out.short,HR.out.few⟩,ht⟩
   clear ht hmap hrep hrep' HRP HR HB HM HT HMP c0 hblk
   generalize decide (nowQ es R.qs ≠ R.ans) = due at *
   go_wp2
   go_ret
   exact RR.out
end Go.Proofs.YtdcbgfhkfmohiaaGreatDoor

namespace Go.Proofs.YtdcbgfhkfmohiaaGreatDoor
open Go.RowKit
attribute [local go_sem] Oper.semAt_some
def Ow (rr:Nat) (Rs:List RuleP) (k:Nat):Prop:=k = rr∨∃ R ∈ Rs,k = R.b∨k = R.m
def Foot (rr:Nat) (Rs:List RuleP) (k:Nat):Prop:=Ow rr Rs k∨∃ R ∈ Rs,R.lo ≤ k∧k < R.hi
structure RulesAt (w:World) (rr:Nat) (Rs:List RuleP):Prop where
 map:∃ es c,w.heap[rr]? = some (.map es c)∧Holds es (fun x:Str × Nat => SV x.1) (fun x => ptrV x.2) (Rs.map fun R => (R.name,R.b))∧MapKept.Stamped es c
 each:∀ R ∈ Rs,RuleAt w R
 nd:(Rs.map (·.name)).Nodup
 apB:∀ R ∈ Rs,R.b ≠ rr∧R.m ≠ rr
 apS:∀ R ∈ Rs,∀ R' ∈ Rs,R.name ≠ R'.name→R.b ≠ R'.b∧R.b ≠ R'.m∧R.m ≠ R'.m
 out:∀ R ∈ Rs,∀ k,Ow rr Rs k→¬ (R.lo ≤ k∧k < R.hi)
 few:Rs.length ≤ 8
 short:∀ R ∈ Rs,R.name.length ≤ 8
theorem RuleAt.keep {w w' : World} {R:RuleP} (h:RuleAt w R) (hs:w.heap.size ≤ w'.heap.size) (h1:w'.heap[R.b]? = w.heap[R.b]?) (h2:w'.heap[R.m]? = w.heap[R.m]?) (hb:∀ k,R.lo ≤ k→k < R.hi→w'.heap[k]? = w.heap[k]?):RuleAt w' R:=by
 obtain ⟨es,c,h3,h4⟩:=h.amap
 exact ⟨h1.trans h.cell,⟨es,c,h2.trans h3,h4⟩,h.asked.keep hs hb,h.ne,h.outB,h.outM,h.full,h.short,h.few⟩
theorem RulesAt.keep {w w' : World} {rr:Nat} {Rs:List RuleP} (h:RulesAt w rr Rs) (hs:w.heap.size ≤ w'.heap.size) (hb:∀ k,Foot rr Rs k→w'.heap[k]? = w.heap[k]?):RulesAt w' rr Rs:=by
 obtain ⟨es,c,h3,h4⟩:=h.map
 exact ⟨⟨es,c,(hb rr (.inl (.inl rfl))).trans h3,h4⟩,fun R hR => (h.each R hR).keep hs (hb _ (.inl (.inr ⟨R,hR,.inl rfl⟩))) (hb _ (.inl (.inr ⟨R,hR,.inr rfl⟩))) (fun k h1 h2 => hb k (.inr ⟨R,hR,h1,h2⟩)),h.nd,h.apB,h.apS,h.out,h.few,h.short⟩
theorem RulesAt.lt {w:World} {rr:Nat} {Rs:List RuleP} (h:RulesAt w rr Rs) {k:Nat} (hk:Foot rr Rs k):k < w.heap.size:=by
 rcases hk with (rfl | ⟨R,hR,rfl | rfl⟩) | ⟨R,hR,h1,h2⟩
 ·obtain ⟨es,c,h3,h4⟩:=h.map
  exact (Array.getElem?_eq_some_iff.1 h3).1
 ·exact (Array.getElem?_eq_some_iff.1 (h.each R hR).cell).1
 ·obtain ⟨es,c,h3,h4⟩:=(h.each R hR).amap
  exact (Array.getElem?_eq_some_iff.1 h3).1
 ·have:=(h.each R hR).asked.1;omega
theorem RulesAt.below {w w' : World} {rr:Nat} {Rs:List RuleP} (h:RulesAt w rr Rs) (hb:Below w.heap.size w w'):RulesAt w' rr Rs:=h.keep hb.size fun _ hk => hb.block _ (h.lt hk)
theorem name_inj {Rs:List RuleP} (hnd:(Rs.map (·.name)).Nodup) {R R' : RuleP} (h:R ∈ Rs) (h' : R' ∈ Rs) (e:R.name = R'.name):R = R':=by
 induction Rs with
 | nil => simp at h
 | cons a l ih =>
  simp only [List.map_cons,List.nodup_cons,List.mem_map,not_exists,not_and] at hnd
  rw [List.mem_cons] at h h'
  rcases h with rfl | h <;> rcases h' with rfl | h'
  ·rfl
  ·exact absurd e.symm (hnd.1 R' h')
  ·exact absurd e (hnd.1 R h)
  ·exact ih hnd.2 h h'
theorem rules_find {w:World} {rr:Nat} {Rs:List RuleP} (h:RulesAt w rr Rs) {R:RuleP} (hR:R ∈ Rs):(Instr.lookup 85 (.map (some rr)) (SV R.name) false).run Tryz.prog w = .ok (ptrV R.b) w:=by
 obtain ⟨es,c,h3,h4⟩:=h.map
 exact run_lookup_in (V:=fun x:Str × Nat => ptrV x.2) (x0:=(R.name,R.b)) Tryz.underlying85 h3 (finds_str (w:=w) (g:=fun x:Str × Nat => x.1) (x0:=(R.name,R.b)) h4.1 (fun x hx e => by
  simp only [List.mem_map] at hx
  obtain ⟨R',hR',rfl⟩:=hx
  rw [name_inj h.nd hR hR' e])) (List.mem_map.2 ⟨R,hR,rfl⟩)
theorem rules_finds_no {w W:World} {rr:Nat} {Rs:List RuleP} (_:RulesAt w rr Rs) {es:Array MapEntry} (h4:Holds es (fun x:Str × Nat => SV x.1) (fun x => ptrV x.2) (Rs.map fun R => (R.name,R.b))) {n:Str} (hn:∀ R ∈ Rs,R.name ≠ n):Finds W 9 (SV n) es (fun x:Str × Nat => ptrV x.2) (Rs.map fun R => (R.name,R.b)) (n,0)∧(n,0) ∉ (Rs.map fun R => (R.name,R.b)):=by
 have hno:∀ x ∈ (Rs.map fun R => (R.name,R.b)),n ≠ x.1:=fun x hx e => by
  simp only [List.mem_map] at hx
  obtain ⟨R',hR',rfl⟩:=hx
  exact hn R' hR' e.symm
 exact ⟨finds_str (w:=W) (g:=fun x:Str × Nat => x.1) (x0:=(n,0)) h4 (fun x hx e => absurd e (hno x hx)),fun hm => hno _ hm rfl⟩
theorem rules_none {w:World} {rr:Nat} {Rs:List RuleP} (h:RulesAt w rr Rs) {n:Str} (hn:∀ R ∈ Rs,R.name ≠ n):(Instr.lookup 85 (.map (some rr)) (SV n) false).run Tryz.prog w = .ok (.pointer none) w:=by
 obtain ⟨es,c,h3,h4⟩:=h.map
 obtain ⟨h5,h6⟩:=rules_finds_no (W:=w) h h4.1 hn
 exact run_lookup_out Tryz.underlying85 h3 h5 h6 (Tryz.zeroRule w)
structure RView where
 name:Str
 qs:List Qn
 ans:List Str
def RuleP.view (R:RuleP):RView:=⟨R.name,R.qs,R.ans⟩
def setV (V:List RView) (n:Str) (qs:List Qn):List RView :=
 if V.any (·.name == n) then V.map fun x => if x.name == n then ⟨n,qs,[]⟩ else x else V ++ [⟨n,qs,[]⟩]
def RulesOut (N:Nat) (w:World) (rr:Nat) (Rs:List RuleP) (V:List RView) (w' : World):Prop :=
 ∃ Rs',RulesAt w' rr Rs'∧Rs'.map (·.view) = V∧Turn (Ow rr Rs) w w' (Ow rr Rs')∧∀ k,Foot rr Rs' k→Foot rr Rs k∨N ≤ k
structure NewQs (w:World) (rr:Nat) (Rs:List RuleP) (qv:Value) (qs:List Qn) (lo:Nat):Prop where
 at' : QsAt lo w qv qs
 le:lo ≤ w.heap.size
 out:∀ k,Ow rr Rs k→k < lo
 short:∀ q ∈ qs,shortQ q
 few:qs ≠ []∧qs.length ≤ 6
def reask (n:Str) (qs:List Qn) (qv:Value) (lo hi:Nat) (x:RuleP):RuleP:=if x.name == n then { x with qs:=qs,ans:=[],v:=qv,lo:=lo,hi:=hi } else x
theorem reask_keeps (n:Str) (qs:List Qn) (qv:Value) (lo hi:Nat) (x:RuleP):(reask n qs qv lo hi x).name = x.name∧(reask n qs qv lo hi x).b = x.b∧(reask n qs qv lo hi x).m = x.m:=by
 unfold reask;split <;> simp
theorem reask_ow {n:Str} {qs:List Qn} {qv:Value} {lo hi rr:Nat} {Rs:List RuleP} {k:Nat}:Ow rr (Rs.map (reask n qs qv lo hi)) k ↔ Ow rr Rs k:=by
 unfold Ow
 constructor
 ·rintro (h | ⟨R,hR,h⟩)
  ·exact .inl h
  ·rw [List.mem_map] at hR
   obtain ⟨x,hx,rfl⟩:=hR
   obtain ⟨_,h2,h3⟩:=reask_keeps n qs qv lo hi x
   rw [h2,h3] at h
   exact .inr ⟨x,hx,h⟩
 ·rintro (h | ⟨R,hR,h⟩)
  ·exact .inl h
  ·obtain ⟨_,h2,h3⟩:=reask_keeps n qs qv lo hi R
   exact .inr ⟨_,List.mem_map.2 ⟨R,hR,rfl⟩,by rw [h2,h3];exact h⟩
theorem rules_change {w w2 w3:World} {rr:Nat} {Rs:List RuleP} {R:RuleP} {qv:Value} {qs:List Qn} {lo c:Nat} (h:RulesAt w rr Rs) (hR:R ∈ Rs) (hq:NewQs w rr Rs qv qs lo) (h2:Set1 w w2 R.m (.map #[] c)) (h3:Set1 w2 w3 R.b (.cells #[qv,.map (some R.m)] 179 (0,0))) :
  RulesOut lo w rr Rs (setV (Rs.map (·.view)) R.name qs) w3:=by
 have hoth:∀ k,k ≠ R.m→k ≠ R.b→w3.heap[k]? = w.heap[k]?:=fun k h4 h5 => (h3.other k h5).trans (h2.other k h4)
 have hsz:w3.heap.size = w.heap.size:=h3.size.trans h2.size
 have hRa:=h.each R hR
 have hoR:∀ k,k = R.b∨k = R.m→Ow rr Rs k:=fun k hk => .inr ⟨R,hR,hk⟩
 have hout:∀ x ∈ Rs.map (reask R.name qs qv lo w.heap.size),∀ k,Ow rr Rs k→¬ (x.lo ≤ k∧k < x.hi):=by
  intro x hx k hk
  rw [List.mem_map] at hx
  obtain ⟨y,hy,rfl⟩:=hx
  unfold reask
  split
  ·have:=hq.out k hk;simp only;omega
  ·exact h.out y hy k hk
 refine ⟨Rs.map (reask R.name qs qv lo w.heap.size),⟨?_,?_,?_,?_,?_,?_,?_,?_⟩,?_,?_,?_⟩
 ·obtain ⟨es,cl,h4,h5⟩:=h.map
  refine ⟨es,cl,(hoth rr (Ne.symm (h.apB R hR).2) (Ne.symm (h.apB R hR).1)).trans h4,?_⟩
  have e:(Rs.map (reask R.name qs qv lo w.heap.size)).map (fun R => (R.name,R.b)) = Rs.map (fun R => (R.name,R.b)):=by
   rw [List.map_map]
   apply List.map_congr_left
   intro x _
   obtain ⟨e1,e2,_⟩:=reask_keeps R.name qs qv lo w.heap.size x
   simp only [Function.comp,e1,e2]
  rw [e];exact h5
 ·intro x hx
  rw [List.mem_map] at hx
  obtain ⟨y,hy,rfl⟩:=hx
  by_cases e:y.name = R.name
  ·have:=name_inj h.nd hy hR e
   subst this
   unfold reask
   rw [if_pos (by simp)]
   exact ⟨h3.here,⟨#[],c,(h3.other _ (Ne.symm hRa.ne)).trans h2.here,ReplyAt.nil⟩,⟨by simp only;omega,w,rfl,hq.at',fun k h4 h5 => hoth k (fun e => by have:=hq.out k (hoR k (.inr e));simp only at h4;omega) (fun e => by have:=hq.out k (hoR k (.inl e));simp only at h4;omega)⟩,hRa.ne,
    by have:=hq.out _ (hoR y.b (.inl rfl));simp only;omega,by have:=hq.out _ (hoR y.m (.inr rfl));simp only;omega,.inl rfl,hq.short,hq.few⟩
  ·unfold reask
   rw [if_neg (by simpa using e)]
   have a1:=h.apS y hy R hR e
   have a2:=h.apS R hR y hy (Ne.symm e)
   refine (h.each y hy).keep (by omega) (hoth _ a1.2.1 a1.1) (hoth _ a1.2.2 (Ne.symm a2.2.1)) (fun k h4 h5 => hoth k ?_ ?_)
   ·intro e;exact h.out y hy k (hoR k (.inr e)) ⟨h4,h5⟩
   ·intro e;exact h.out y hy k (hoR k (.inl e)) ⟨h4,h5⟩
 ·have e:(Rs.map (reask R.name qs qv lo w.heap.size)).map (·.name) = Rs.map (·.name):=by
   rw [List.map_map]
   apply List.map_congr_left
   intro x _
   exact (reask_keeps R.name qs qv lo w.heap.size x).1
  rw [e];exact h.nd
 ·intro x hx
  rw [List.mem_map] at hx
  obtain ⟨y,hy,rfl⟩:=hx
  obtain ⟨_,e2,e3⟩:=reask_keeps R.name qs qv lo w.heap.size y
  rw [e2,e3];exact h.apB y hy
 ·intro x hx x' hx' hne
  rw [List.mem_map] at hx hx'
  obtain ⟨y,hy,rfl⟩:=hx
  obtain ⟨y',hy',rfl⟩:=hx'
  obtain ⟨e1,e2,e3⟩:=reask_keeps R.name qs qv lo w.heap.size y
  obtain ⟨f1,f2,f3⟩:=reask_keeps R.name qs qv lo w.heap.size y'
  rw [e1,f1] at hne
  rw [e2,e3,f2,f3];exact h.apS y hy y' hy' hne
 ·intro x hx k hk
  exact hout x hx k (reask_ow.1 hk)
 ·rw [List.length_map];exact h.few
 ·intro x hx
  rw [List.mem_map] at hx
  obtain ⟨y,hy,rfl⟩:=hx
  rw [(reask_keeps R.name qs qv lo w.heap.size y).1];exact h.short y hy
 ·unfold setV
  rw [if_pos (by rw [List.any_eq_true];exact ⟨R.view,List.mem_map.2 ⟨R,hR,rfl⟩,by simp [RuleP.view]⟩),List.map_map,List.map_map]
  apply List.map_congr_left
  intro x _
  by_cases e:x.name = R.name <;> simp [reask,RuleP.view,e]
 ·exact ⟨h3.os.trans h2.os,h3.tape.trans h2.tape,h3.output.trans h2.output,by omega,fun k _ hk => hoth k (fun e => hk (hoR k (.inr e))) (fun e => hk (hoR k (.inl e))),fun k hk => .inl (reask_ow.1 hk)⟩
 ·rintro k (hk | ⟨x,hx,h4,h5⟩)
  ·exact .inl (.inl (reask_ow.1 hk))
  ·rw [List.mem_map] at hx
   obtain ⟨y,hy,rfl⟩:=hx
   unfold reask at h4 h5
   split at h4
   ·rename_i he
    exact .inr h4
   ·rename_i he
    rw [if_neg he] at h5
    exact .inl (.inr ⟨y,hy,h4,h5⟩)
theorem rules_more {w w1 w2 w3 w4 w5:World} {rr:Nat} {Rs:List RuleP} {n:Str} {qv:Value} {qs:List Qn} {lo c c2:Nat} {es:Array MapEntry} (h:RulesAt w rr Rs) (hn:∀ R ∈ Rs,R.name ≠ n) (h8:Rs.length < 8) (hn8:n.length ≤ 8) (hq:NewQs w rr Rs qv qs lo)
  (hs1:w1 = w.alloc (.map #[] 0)) (hs2:w2 = w1.alloc (.cells #[.slice none 0 0,.map (some w.heap.size)] 179))
  (hh:Holds es (fun x:Str × Nat => SV x.1) (fun x => ptrV x.2) (Rs.map fun R => (R.name,R.b))) (hst:MapKept.Stamped es c)
  (h3:Set1 w2 w3 rr (.map (es.push { key:=SV n,val:=ptrV (w.heap.size + 1),born:=c }) (c + 1))) (h4:Set1 w3 w4 w.heap.size (.map #[] c2)) (h5:Set1 w4 w5 (w.heap.size + 1) (.cells #[qv,.map (some w.heap.size)] 179 (0,0))) :
  RulesOut lo w rr Rs (setV (Rs.map (·.view)) n qs) w5:=by
 have hz1:w1.heap.size = w.heap.size + 1:=by rw [hs1];simp
 have hz2:w2.heap.size = w.heap.size + 2:=by rw [hs2];simp [hz1]
 have hz:w5.heap.size = w.heap.size + 2:=by rw [h5.size,h4.size,h3.size,hz2]
 have hb2:Below w.heap.size w w2:=by
  have b1:Below w.heap.size w w1:=by rw [hs1];exact (Below.refl _ _).alloc (Nat.le_refl _) _
  have b2:Below w1.heap.size w1 w2:=by rw [hs2];exact (Below.refl _ _).alloc (Nat.le_refl _) _
  exact b1.trans (b2.mono (by omega))
 have hold:∀ k,k < w.heap.size→k ≠ rr→w5.heap[k]? = w.heap[k]?:=fun k h6 h7 => (h5.other k (by omega)).trans ((h4.other k (by omega)).trans ((h3.other k h7).trans (hb2.block k h6)))
 have hrr:rr < w.heap.size:=h.lt (.inl (.inl rfl))
 have hlo:∀ k,Ow rr Rs k→k < w.heap.size:=fun k hk => h.lt (.inl hk)
 have hmem:∀ x,x ∈ Rs ++ [(⟨n,qs,[],w.heap.size + 1,w.heap.size,qv,lo,w.heap.size⟩ : RuleP)]→x ∈ Rs∨x = ⟨n,qs,[],w.heap.size + 1,w.heap.size,qv,lo,w.heap.size⟩:=fun x hx => by
  rw [List.mem_append] at hx
  exact hx.imp id (fun h => by simpa using h)
 have how:∀ k,Ow rr (Rs ++ [(⟨n,qs,[],w.heap.size + 1,w.heap.size,qv,lo,w.heap.size⟩ : RuleP)]) k→Ow rr Rs k∨w.heap.size ≤ k:=by
  rintro k (hk | ⟨R,hR,hk⟩)
  ·exact .inl (.inl hk)
  ·rcases hmem R hR with hR | rfl
   ·exact .inl (.inr ⟨R,hR,hk⟩)
   ·right;simp only at hk;omega
 refine ⟨Rs ++ [⟨n,qs,[],w.heap.size + 1,w.heap.size,qv,lo,w.heap.size⟩],⟨?_,?_,?_,?_,?_,?_,?_,?_⟩,?_,?_,?_⟩
 ·refine ⟨_,_,(h5.other rr (by omega)).trans ((h4.other rr (by omega)).trans h3.here),?_⟩
  rw [List.map_append]
  refine ⟨Holds.push (K:=fun x:Str × Nat => SV x.1) (V:=fun x:Str × Nat => ptrV x.2) hh (x:=(n,w.heap.size + 1)) rfl,MapKept.stamped_push hst fun x hx e => ?_⟩
  have h6:(x.key,x.val) ∈ es.toList.map (fun e => (e.key,e.val)):=List.mem_map.2 ⟨x,hx,rfl⟩
  rw [hh,List.mem_map] at h6
  obtain ⟨y,hy,e2⟩:=h6
  rw [List.mem_map] at hy
  obtain ⟨R,hR,rfl⟩:=hy
  simp only [Prod.mk.injEq] at e2
  rw [← e2.1] at e
  simp at e
  exact hn R hR e
 ·intro x hx
  rcases hmem x hx with hx | rfl
  ·have hf:∀ k,Foot rr Rs k→k ≠ rr→w5.heap[k]? = w.heap[k]?:=fun k hk hne => hold k (h.lt hk) hne
   exact (h.each x hx).keep (by omega) (hf _ (.inl (.inr ⟨x,hx,.inl rfl⟩)) (h.apB x hx).1) (hf _ (.inl (.inr ⟨x,hx,.inr rfl⟩)) (h.apB x hx).2) (fun k h6 h7 => hf k (.inr ⟨x,hx,h6,h7⟩) (fun e => h.out x hx k (.inl e) ⟨h6,h7⟩))
  ·exact ⟨h5.here,⟨#[],c2,(h5.other _ (by simp only;omega)).trans h4.here,ReplyAt.nil⟩,⟨by simp only;omega,w,rfl,hq.at',fun k h6 h7 => hold k h7 (fun e => by have:=hq.out k (.inl e);simp only at h6;omega)⟩,by simp only;omega,
    by simp only;omega,by simp only;omega,.inl rfl,hq.short,hq.few⟩
 ·rw [List.map_append,List.nodup_append]
  refine ⟨h.nd,by simp,?_⟩
  intro a ha b hb
  simp only [List.mem_map] at ha
  obtain ⟨R,hR,rfl⟩:=ha
  simp at hb
  rw [hb];exact hn R hR
 ·intro x hx
  rcases hmem x hx with hx | rfl
  ·exact h.apB x hx
  ·simp only;omega
 ·intro x hx x' hx' hne
  have hl:∀ y ∈ Rs,y.b < w.heap.size∧y.m < w.heap.size:=fun y hy => ⟨hlo _ (.inr ⟨y,hy,.inl rfl⟩),hlo _ (.inr ⟨y,hy,.inr rfl⟩)⟩
  rcases hmem x hx with hx | rfl <;> rcases hmem x' hx' with hx' | rfl
  ·exact h.apS x hx x' hx' hne
  ·have:=hl x hx;simp only;omega
  ·have:=hl x' hx';simp only;omega
  ·exact absurd rfl hne
 ·intro x hx k hk
  rcases hmem x hx with hx | rfl
  ·rcases how k hk with hk | hk
   ·exact h.out x hx k hk
   ·have:=(h.each x hx).asked.1;omega
  ·rcases how k hk with hk | hk
   ·have:=hq.out k hk;simp only;omega
   ·simp only;omega
 ·simp;omega
 ·intro x hx
  rcases hmem x hx with hx | rfl
  ·exact h.short x hx
  ·exact hn8
 ·unfold setV
  rw [if_neg,List.map_append]
  ·rfl
  ·rw [List.any_eq_true]
   rintro ⟨v,hv,e⟩
   simp only [List.mem_map] at hv
   obtain ⟨R,hR,rfl⟩:=hv
   exact hn R hR (by simpa [RuleP.view] using e)
 ·refine ⟨?_,?_,?_,by omega,fun k h6 h7 => hold k h6 (fun e => h7 (.inl e)),fun k hk => how k hk⟩
  ·rw [h5.os,h4.os,h3.os];exact hb2.os
  ·rw [h5.tape,h4.tape,h3.tape];exact hb2.tape
  ·rw [h5.output,h4.output,h3.output];exact hb2.output
 ·rintro k (hk | ⟨x,hx,h6,h7⟩)
  ·rcases how k hk with hk | hk
   ·exact .inl (.inl hk)
   ·exact .inr (by have:=hq.le;omega)
  ·rcases hmem x hx with hx | rfl
   ·exact .inl (.inr ⟨x,hx,h6,h7⟩)
   ·exact .inr h6
end Go.Proofs.YtdcbgfhkfmohiaaGreatDoor

namespace Go.Proofs.YtdcbgfhkfmohiaaGreatDoor
open Go.RowKit
attribute [local go_sem] Oper.semAt_some
theorem cells_set0 {w:World} {b:Nat} {x y:Value} {t:TypeId} (h:w.heap[b]? = some (.cells #[x,y] t (0,0))) (v:Value):Set1 w (w.setCell ⟨b,0,none⟩ v) b (.cells #[v,y] t (0,0)):=setCell_set1 h _
set_option maxHeartbeats 8000000 in
set_option maxRecDepth 50000 in
theorem setRule_found (sb rr:Nat) (Rs:List RuleP) (R:RuleP) (qv:Value) (qs:List Qn) (lo:Nat) (w:World) (hs:w.cell? ⟨sb,5,none⟩ = some (.map (some rr))) (h:RulesAt w rr Rs) (hR:R ∈ Rs) (hq:NewQs w rr Rs qv qs lo) :
  Calls Tryz.prog 60 #[ptrV sb,SV R.name,qv] w fun e w' => e = .returned (.tuple #[])∧RulesOut lo w rr Rs (setV (Rs.map (·.view)) R.name qs) w':=by
 have LE:=rules_find h hR
 obtain ⟨es,c,hm,ha⟩:=(h.each R hR).amap
 obtain ⟨w2,h2,hs2⟩:=run_clear_map (w:=w) Tryz.underlying177 hm 0
 have c1:w.cell? ⟨R.b,1,none⟩ = some (.map (some R.m)):=(blk_cell (h.each R hR).cell 1).trans rfl
 have hb2:w2.heap[R.b]? = some (.cells #[R.v,.map (some R.m)] 179 (0,0)):=(hs2.other _ (h.each R hR).ne).trans (h.each R hR).cell
 obtain ⟨ao',n',cp',hv⟩:=qs_form (h.each R hR).asked.at'
 have c0:w2.cell? ⟨R.b,0,none⟩ = some (.slice ao' n' cp'):=by rw [← hv];exact (blk_cell hb2 0).trans rfl
 have f0:w2.frozen? ⟨R.b,0,none⟩ = false:=blk_free hb2 0
 have RR:Hid (RulesOut lo w rr Rs (setV (Rs.map (·.view)) R.name qs) (w2.setCell ⟨R.b,0,none⟩ qv)):=rules_change h hR hq hs2 (cells_set0 hb2 qv)
 obtain ⟨ao,n,cp,rfl⟩:=qs_form hq.at'
 clear hm ha hq h hR hs2 hb2 hv
 go_enter Tryz.func60,Tryz.ntmps60
 go_wp2
 go_end0
 exact ⟨rfl,RR.out⟩
set_option maxHeartbeats 8000000 in
set_option maxRecDepth 50000 in
theorem setRule_new (sb rr:Nat) (Rs:List RuleP) (nm:Str) (qv:Value) (qs:List Qn) (lo:Nat) (w:World) (hs:w.cell? ⟨sb,5,none⟩ = some (.map (some rr))) (h:RulesAt w rr Rs) (hn:∀ R ∈ Rs,R.name ≠ nm) (h8:Rs.length < 8) (hn8:nm.length ≤ 8) (hq:NewQs w rr Rs qv qs lo) :
  Calls Tryz.prog 60 #[ptrV sb,SV nm,qv] w fun e w' => e = .returned (.tuple #[])∧RulesOut lo w rr Rs (setV (Rs.map (·.view)) nm qs) w':=by
 have LE:=rules_none h hn
 have hsl:sb < w.heap.size:=World.block_lt_of_cell? w _ hs
 obtain ⟨w1,hw1⟩ : ∃ w1,w1 = w.alloc (.map #[] 0):=⟨_,rfl⟩
 have hz1:w1.heap.size = w.heap.size + 1:=by rw [hw1];simp
 obtain ⟨w2,hw2⟩ : ∃ w2,w2 = w1.alloc (.cells #[.slice none 0 0,.map (some w.heap.size)] 179):=⟨_,rfl⟩
 have hb1:Below w.heap.size w w1:=by rw [hw1];exact (Below.refl _ _).alloc (Nat.le_refl _) _
 have hb2:Below w1.heap.size w1 w2:=by rw [hw2];exact (Below.refl _ _).alloc (Nat.le_refl _) _
 have hb:Below w.heap.size w w2:=hb1.trans (hb2.mono (by omega))
 have s5:w2.cell? ⟨sb,5,none⟩ = some (.map (some rr)):=(hb.cell (p:=⟨sb,5,none⟩) hsl).trans hs
 obtain ⟨es,c,hm,hh,hst⟩:=h.map
 have hrr:rr < w.heap.size:=(Array.getElem?_eq_some_iff.1 hm).1
 have hm2:w2.heap[rr]? = some (.map es c):=(hb.block _ hrr).trans hm
 obtain ⟨hf,hout⟩:=rules_finds_no (W:=w2) h hh hn
 obtain ⟨w3,hu3,hs3⟩:=run_mapUpdate_new (w:=w2) Tryz.underlying85 hm2 hf hout (ptrV (w.heap.size + 1))
 have hn1:w2.heap[w.heap.size]? = some (.map #[] 0):=by
  rw [hb2.block _ (by omega),hw1];exact heap_alloc_new w _
 have hn2:w2.heap[w.heap.size + 1]? = some (.cells #[.slice none 0 0,.map (some w.heap.size)] 179 (0,0)):=by
  rw [← hz1,hw2,hz1];exact (by rw [← hz1];exact heap_alloc_new w1 _)
 have hn3:w3.heap[w.heap.size]? = some (.map #[] 0):=(hs3.other _ (by omega)).trans hn1
 have hn4:w3.heap[w.heap.size + 1]? = some (.cells #[.slice none 0 0,.map (some w.heap.size)] 179 (0,0)):=(hs3.other _ (by omega)).trans hn2
 have c1:w3.cell? ⟨w.heap.size + 1,1,none⟩ = some (.map (some w.heap.size)):=(blk_cell hn4 1).trans rfl
 obtain ⟨w4,hu4,hs4⟩:=run_clear_map (w:=w3) Tryz.underlying177 hn3 0
 have hn5:w4.heap[w.heap.size + 1]? = some (.cells #[.slice none 0 0,.map (some w.heap.size)] 179 (0,0)):=(hs4.other _ (by omega)).trans hn4
 have c0:w4.cell? ⟨w.heap.size + 1,0,none⟩ = some (.slice none 0 0):=(blk_cell hn5 0).trans rfl
 have f0:w4.frozen? ⟨w.heap.size + 1,0,none⟩ = false:=blk_free hn5 0
 have RR:Hid (RulesOut lo w rr Rs (setV (Rs.map (·.view)) nm qs) (w4.setCell ⟨w.heap.size + 1,0,none⟩ qv)):=rules_more h hn h8 hn8 hq hw1 hw2 hh hst hs3 hs4 (cells_set0 hn5 qv)
 obtain ⟨ao,n,cp,rfl⟩:=qs_form hq.at'
 have hmm:=@run_makeMap Tryz.prog
 have HW1:Hid _:=hw1
 have HW2:Hid _:=hw2
 clear hst hm hh hq h hs3 hs4 hn1 hn2 hn3 hn4 hn5 hf hout hm2 hb hb1 hb2 hn h8 hw1 hw2
 go_enter Tryz.func60,Tryz.ntmps60
 go_upto_region 3 with fail
 rw [← HW1.out,← HW2.out]
 go_wp2
 go_end0
 exact ⟨rfl,RR.out⟩
end Go.Proofs.YtdcbgfhkfmohiaaGreatDoor

namespace Go.Proofs.YtdcbgfhkfmohiaaGreatDoor
open Go.RowKit
attribute [local go_sem] Oper.semAt_some
def qnsL (xs:List Str):List Qn:=xs.map fun x => (qnOf (splitL 32 x)).getD (.ex none)
theorem qns_eq {xs:List Str} {qs:List Qn} (h:QnsOf xs qs):qs = qnsL xs:=by
 have:=congrArg (List.map fun o:Option Qn => o.getD (.ex none)) h.1
 rw [List.map_map,List.map_map] at this
 unfold qnsL
 rw [show (fun x:Str => (qnOf (splitL 32 x)).getD (.ex none)) = ((fun o:Option Qn => o.getD (.ex none)) ∘ fun x => qnOf (splitL 32 x)) from rfl,← this]
 rw [show ((fun o:Option Qn => o.getD (.ex none)) ∘ some) = id from rfl,List.map_id]
def ruleE (V:List RView) (n:Str) (xs:List Str):Nat :=
 if isNameL n false then (if 6 < xs.length∨(V.any (·.name == n) = false∧8 ≤ V.length) then 7 else checkAll xs) else 3
def ruleV (V:List RView) (n:Str) (xs:List Str):List RView :=
 if ruleE V n xs = 0 then (if xs = [] then V.filter (fun x => !(x.name == n)) else setV V n (qnsL xs)) else V
def RuleOut (w:World) (rr:Nat) (Rs:List RuleP) (n:Str) (xs:List Str) (e:Ending) (w' : World):Prop :=
 e = .returned (.int .i64 (ruleE (Rs.map (·.view)) n xs))∧RulesOut w.heap.size w rr Rs (ruleV (Rs.map (·.view)) n xs) w'
theorem RulesAt.same {w w' : World} {rr:Nat} {Rs:List RuleP} (h:RulesAt w rr Rs) (hb:Below w.heap.size w w'):RulesOut w.heap.size w rr Rs (Rs.map (·.view)) w' :=
 ⟨Rs,h.below hb,rfl,Turn.of_below hb,fun _ hk => .inl hk⟩
theorem rule_bad {w w' : World} {rr:Nat} {Rs:List RuleP} {n:Str} {xs:List Str} {k:Nat} (h:RulesAt w rr Rs) (hb:Below w.heap.size w w') (he:ruleE (Rs.map (·.view)) n xs = k) (hk:k ≠ 0):RuleOut w rr Rs n xs (.returned (.int .i64 k)) w':=by
 refine ⟨by rw [he],?_⟩
 rw [ruleV,if_neg (by omega)]
 exact h.same hb
theorem RulesOut.after {w w1 w2:World} {rr:Nat} {Rs:List RuleP} {V:List RView} (hb:Below w.heap.size w w1) (h:RulesOut w.heap.size w1 rr Rs V w2):RulesOut w.heap.size w rr Rs V w2:=by
 obtain ⟨Rs',h1,h2,h3,h4⟩:=h
 exact ⟨Rs',h1,h2,(Turn.of_below hb).trans h3,h4⟩
theorem ow_filter {rr:Nat} {Rs:List RuleP} {p:RuleP→Bool} {k:Nat} (h:Ow rr (Rs.filter p) k):Ow rr Rs k:=by
 rcases h with h | ⟨R,hR,h⟩
 ·exact .inl h
 ·exact .inr ⟨R,(List.mem_filter.1 hR).1,h⟩
theorem erase_name {Rs:List RuleP} (hnd:(Rs.map (·.name)).Nodup) {n:Str} {j:Nat} {R:RuleP} (hj:Rs[j]? = some R) (hn:R.name = n):Rs.eraseIdx j = Rs.filter (fun x => !(x.name == n)):=by
 induction Rs generalizing j with
 | nil => simp at hj
 | cons a l ih =>
  simp only [List.map_cons,List.nodup_cons,List.mem_map,not_exists,not_and] at hnd
  cases j with
  | zero =>
   simp at hj;subst hj
   rw [List.eraseIdx_zero,List.tail_cons,List.filter_cons,if_neg (by simp [hn])]
   symm;rw [List.filter_eq_self]
   intro x hx
   have:=hnd.1 x hx
   simp;intro e;exact this (by rw [e,hn])
  | succ j =>
   simp only [List.getElem?_cons_succ] at hj
   rw [List.eraseIdx_cons_succ,List.filter_cons,if_pos,ih hnd.2 hj]
   have:=hnd.1 R (List.mem_of_getElem? hj)
   simp;intro e;exact this (by rw [hn,e])
theorem rules_less {w w2:World} {rr:Nat} {Rs:List RuleP} {n:Str} {es:Array MapEntry} {c:Nat} (h:RulesAt w rr Rs) (h2:Set1 w w2 rr (.map es c)) (hh:Holds es (fun x:Str × Nat => SV x.1) (fun x => ptrV x.2) ((Rs.filter (fun x => !(x.name == n))).map fun R => (R.name,R.b))) (hst:MapKept.Stamped es c) (N:Nat) :
  RulesOut N w rr Rs ((Rs.map (·.view)).filter (fun x => !(x.name == n))) w2:=by
 refine ⟨Rs.filter (fun x => !(x.name == n)),⟨⟨es,c,h2.here,hh,hst⟩,?_,?_,?_,?_,?_,?_,?_⟩,?_,?_,?_⟩
 ·intro R hR
  have hR:=(List.mem_filter.1 hR).1
  exact (h.each R hR).keep (Nat.le_of_eq h2.size.symm) (h2.other _ (h.apB R hR).1) (h2.other _ (h.apB R hR).2) (fun k h4 h5 => h2.other k (fun e => h.out R hR k (.inl e) ⟨h4,h5⟩))
 ·exact (List.Sublist.map _ List.filter_sublist).nodup h.nd
 ·exact fun R hR => h.apB R (List.mem_filter.1 hR).1
 ·exact fun R hR R' hR' => h.apS R (List.mem_filter.1 hR).1 R' (List.mem_filter.1 hR').1
 ·exact fun R hR k hk => h.out R (List.mem_filter.1 hR).1 k (ow_filter hk)
 ·exact Nat.le_trans (List.length_filter_le _ _) h.few
 ·exact fun R hR => h.short R (List.mem_filter.1 hR).1
 ·rw [List.filter_map];rfl
 ·exact ⟨h2.os,h2.tape,h2.output,Nat.le_of_eq h2.size.symm,fun k _ hk => h2.other k (fun e => hk (.inl e)),fun k hk => .inl (ow_filter hk)⟩
 ·rintro k (hk | ⟨R,hR,h4,h5⟩)
  ·exact .inl (.inl (ow_filter hk))
  ·exact .inl (.inr ⟨R,(List.mem_filter.1 hR).1,h4,h5⟩)
theorem run_delete_out {α:Type} {w:World} {t kt et:TypeId} {key:Value} {es:Array MapEntry} {V:α→Value} {L:List α} {x0:α} {r clock:Nat} (hu:Tryz.prog.underlying t = some (.map kt et)) (hb:w.heap[r]? = some (.map es clock)) (hf:Finds w kt key es V L x0) (hout:x0 ∉ L) (ty:TypeId) :
  ∃ w',(Builtin.delete_ #[t,kt] ty #[.map (some r),key]).run Tryz.prog w = .ok (.tuple #[]) w'∧Set1 w w' r (.map es clock):=by
 rcases hf.2 with ⟨_,h2⟩ | ⟨j,h1,_⟩
 ·exact ⟨_,by simp [Builtin.delete_,run_underlying hu,MapKept.run_getObj_map hb,hf.1,h2,MapKept.run_setObj_map _ hb,Result.andThen],set1_of hb⟩
 ·exact absurd (List.mem_of_getElem? h1) hout
theorem rules_drop {w:World} {rr:Nat} {Rs:List RuleP} (h:RulesAt w rr Rs) (n:Str) (N:Nat) :
  ∃ w2,(Builtin.delete_ #[85,9] 0 #[.map (some rr),SV n]).run Tryz.prog w = .ok (.tuple #[]) w2∧RulesOut N w rr Rs ((Rs.map (·.view)).filter (fun x => !(x.name == n))) w2:=by
 obtain ⟨es,c,hm,hh,hst⟩:=h.map
 by_cases hin:∃ R ∈ Rs,R.name = n
 ·obtain ⟨R,hR,rfl⟩:=hin
  obtain ⟨w2,j,hj,h1,h2⟩:=run_delete_in (V:=fun x:Str × Nat => ptrV x.2) (x0:=(R.name,R.b)) Tryz.underlying85 hm (finds_str (w:=w) (g:=fun x:Str × Nat => x.1) (x0:=(R.name,R.b)) hh (fun x hx e => by
   simp only [List.mem_map] at hx
   obtain ⟨R',hR',rfl⟩:=hx
   rw [name_inj h.nd hR hR' e])) (List.mem_map.2 ⟨R,hR,rfl⟩) 0
  refine ⟨w2,h1,rules_less h h2 ?_ (MapKept.stamped_erase hst j) N⟩
  rw [List.getElem?_map,Option.map_eq_some_iff] at hj
  obtain ⟨R',hR',e⟩:=hj
  have:=Holds.erase hh j
  rw [← map_erase,erase_name h.nd hR' (by simpa using congrArg Prod.fst e)] at this
  exact this
 ·have hn:∀ R ∈ Rs,R.name ≠ n:=fun R hR e => hin ⟨R,hR,e⟩
  obtain ⟨h5,h6⟩:=rules_finds_no (W:=w) h hh hn
  obtain ⟨w2,h7,h8⟩:=run_delete_out Tryz.underlying85 hm h5 h6 0
  have e:Rs.filter (fun x => !(x.name == n)) = Rs:=by
   rw [List.filter_eq_self]
   intro R hR
   have:=hn R hR
   simp [this]
  exact ⟨w2,h7,rules_less h h8 (by rw [e];exact hh) hst N⟩
end Go.Proofs.YtdcbgfhkfmohiaaGreatDoor

namespace Go.Proofs.YtdcbgfhkfmohiaaGreatDoor
open Go.RowKit
attribute [local go_sem] Oper.semAt_some
theorem name_len {n:Str} (h:isNameL n false = true):n.length ≤ 8:=by
 unfold isNameL at h
 simp at h
 omega
theorem any_view {Rs:List RuleP} {n:Str}:(Rs.map (·.view)).any (·.name == n) = Rs.any (·.name == n):=by
 rw [List.any_map];rfl
theorem len_rules {w:World} {rr:Nat} {Rs:List RuleP} (h:RulesAt w rr Rs):(Builtin.len_ #[85] 3 #[.map (some rr)]).run Tryz.prog w = .ok (.int .i64 Rs.length) w:=by
 obtain ⟨es,c,hm,hh,_⟩:=h.map
 rw [run_lenMap Tryz.underlying85 hm,hh.len,List.length_map]
 rfl
set_option maxHeartbeats 8000000 in
set_option maxRecDepth 50000 in
theorem storeRule_any (sb rr:Nat) (Rs:List RuleP) (nm:Str) (xs:List Str) (nv:Value) (w:World) (hs:w.cell? ⟨sb,5,none⟩ = some (.map (some rr))) (h:RulesAt w rr Rs) (hn:NamesAt w nv xs) (hmx:MaxOk w) (hl:nm.length ≤ maxLen) :
  Calls Tryz.prog 37 #[ptrV sb,SV nm,nv] w fun e w' => RuleOut w rr Rs nm xs e w':=by
 have CN:=prgIsName_any nm w hl
 have HR:Hid _:=h
 have HNA:Hid _:=hn
 have HMX:Hid _:=hmx
 obtain ⟨ao,cap,rfl,hcap,hmaxl,_⟩:=id hn
 clear h hn hmx
 cases hname:isNameL nm false
 ·rw [hname] at CN
  have RB:Hid (RuleOut w rr Rs nm xs (.returned (.int .i64 (3:Nat))) w):=rule_bad HR.out (Below.refl _ _) (by rw [ruleE,if_neg (by rw [hname];simp)]) (by omega)
  clear HR HNA HMX
  go_enter Tryz.func37,Tryz.ntmps37
  go_wp2_with (go_at_call 58;refine CN.mono ?_;rintro e w ⟨rfl,rfl⟩)
  go_ret
  exact RB.out
 rw [hname] at CN
 by_cases h6:6 < xs.length
 ·have h6i:(6:Int) < (xs.length:Int):=by omega
  have RB:Hid (RuleOut w rr Rs nm xs (.returned (.int .i64 (7:Nat))) w):=rule_bad HR.out (Below.refl _ _) (by rw [ruleE,if_pos hname,if_pos (.inl h6)]) (by omega)
  clear HR HNA HMX hname
  go_enter Tryz.func37,Tryz.ntmps37
  go_wp2_with (go_at_call 58;refine CN.mono ?_;rintro e w ⟨rfl,rfl⟩)
  go_ret
  exact RB.out
 have h6i:¬ (6:Int) < (xs.length:Int):=by omega
 have CP:Hid (Calls Tryz.prog 59 #[.slice ao xs.length cap] w fun e w' => ParseAllOut w xs e w'):=parseAll_any xs _ w HNA.out (by omega) HMX.out
 by_cases hin:∃ R ∈ Rs,R.name = nm
 ·obtain ⟨R,hR,rfl⟩:=hin
  have LE:=rules_find HR.out hR
  have HE:Hid (ruleE (Rs.map (·.view)) R.name xs = checkAll xs):=by
   rw [Hid,ruleE,if_pos hname,if_neg]
   rintro (h | ⟨h,_⟩)
   ·exact h6 h
   ·rw [any_view,List.any_eq_false] at h
    exact h R hR (by simp)
  clear hname HNA HMX
  go_enter Tryz.func37,Tryz.ntmps37
  go_wp2_with (go_at_call 58;refine CN.mono ?_;rintro e w ⟨rfl,rfl⟩)
  go_wp2_with fail
  refine Calls.mono (show Calls _ _ _ _ _ from CP.out) ?_
  rintro e w1 ⟨hb1,hp⟩
  have HB1:Hid _:=hb1
  have HR1:Hid (RulesAt w1 rr Rs):=HR.out.below hb1
  have s51:w1.cell? ⟨sb,5,none⟩ = some (.map (some rr)):=(hb1.cell (p:=⟨sb,5,none⟩) (World.block_lt_of_cell? w _ hs)).trans hs
  rcases hp with ⟨hc,rfl⟩ | ⟨hc,hok,v,qs,rfl,hQ,hv⟩
  ·have RB:Hid (RuleOut w rr Rs R.name xs (.returned (.int .i64 (checkAll xs:Nat))) w1):=rule_bad HR.out hb1 (HE.out) hc
   have hc' : ¬ (checkAll xs:Int) = 0:=by omega
   clear hc hb1 CP LE hs s51
   generalize (checkAll xs:Int) = ce at *
   go_wp2
   go_ret
   exact RB.out
  ·have hl:=hQ.len
   have he0:ruleE (Rs.map (·.view)) R.name xs = 0:=by rw [HE.out,hc]
   obtain ⟨ao2,n2,c2,rfl⟩:=qs_form hv
   obtain ⟨rfl,_,_,_⟩:=qs_cells hv
   by_cases hx:xs = []
   ·have hl0:qs.length = 0:=by rw [hl,hx];rfl
    obtain ⟨w2,hd,hro⟩:=rules_drop HR1.out R.name w.heap.size
    have RB:Hid (RuleOut w rr Rs R.name xs (.returned (.int .i64 0)) w2):=⟨by rw [he0];rfl,by rw [ruleV,if_pos he0,if_pos hx];exact RulesOut.after HB1.out hro⟩
    rw [hl0]
    clear hc hok hb1 CP LE hs hQ hv hro hx hl hl0 he0
    go_wp2
    go_ret
    exact RB.out
   ·have hx0:¬ (qs.length:Int) = 0:=by
     intro e
     have:xs.length = 0:=by omega
     exact hx (List.length_eq_zero_iff.1 this)
    have hq:NewQs w1 rr Rs (.slice ao2 qs.length c2) qs w.heap.size:=by
     refine ⟨hv,hb1.size,fun k hk => HR.out.lt (.inl hk),fun q hq => ?_,fun e => ?_,by omega⟩
     ·obtain ⟨j,hj,rfl⟩:=List.getElem_of_mem hq
      have h1:=congrArg (fun l => l[j]?) hQ.1
      simp only [List.getElem?_map,List.getElem?_eq_getElem hj,Option.map_some] at h1
      rw [List.getElem?_eq_getElem (by omega),Option.map_some,Option.some.injEq] at h1
      have h60:=(check_ok (hok _ (List.getElem_mem (show j < xs.length by omega)))).1
      exact short_qn (fun x hx => by have:=splitL_piece 32 _ x hx;omega) h1.symm (hQ.2 _ (List.getElem_mem hj))
     ·rw [e] at hl;exact hx (List.length_eq_zero_iff.1 hl.symm)
    have CS:Hid (Calls Tryz.prog 60 #[ptrV sb,SV R.name,.slice ao2 qs.length c2] w1 fun e w' => e = .returned (.tuple #[])∧RulesOut w.heap.size w1 rr Rs (setV (Rs.map (·.view)) R.name qs) w'):=setRule_found sb rr Rs R _ qs w.heap.size w1 s51 HR1.out hR hq
    have RB:Hid (∀ w2,RulesOut w.heap.size w1 rr Rs (setV (Rs.map (·.view)) R.name qs) w2→RuleOut w rr Rs R.name xs (.returned (.int .i64 0)) w2):=fun w2 h2 => ⟨by rw [he0];rfl,by rw [ruleV,if_pos he0,if_neg hx,← qns_eq hQ];exact RulesOut.after HB1.out h2⟩
    clear hc hok hb1 CP LE hs hQ hv hx hl he0 hq s51
    go_wp2_with fail
    refine Calls.mono (show Calls _ _ _ _ _ from CS.out) ?_
    rintro e w2 ⟨rfl,h2⟩
    have RB2:Hid _:=RB.out w2 h2
    clear h2 RB CS
    go_wp2
    go_ret
    exact RB2.out
 ·have hno:∀ R ∈ Rs,R.name ≠ nm:=fun R hR e => hin ⟨R,hR,e⟩
  have hany:(Rs.map (·.view)).any (·.name == nm) = false:=by
   rw [any_view,List.any_eq_false]
   intro R hR e
   exact hno R hR (by simpa using e)
  have LE:=rules_none HR.out hno
  have LN:=len_rules HR.out
  by_cases h8:8 ≤ Rs.length
  ·have h8i:(8:Int) ≤ (Rs.length:Int):=by omega
   have RB:Hid (RuleOut w rr Rs nm xs (.returned (.int .i64 (7:Nat))) w):=rule_bad HR.out (Below.refl _ _) (by rw [ruleE,if_pos hname,if_pos (.inr ⟨hany,by rw [List.length_map];exact h8⟩)]) (by omega)
   clear HR HNA HMX hname hno hany CP hin
   go_enter Tryz.func37,Tryz.ntmps37
   go_wp2_with (go_at_call 58;refine CN.mono ?_;rintro e w ⟨rfl,rfl⟩)
   go_ret
   exact RB.out
  have h8i:¬ (8:Int) ≤ (Rs.length:Int):=by omega
  have HE:Hid (ruleE (Rs.map (·.view)) nm xs = checkAll xs):=by
   rw [Hid,ruleE,if_pos hname,if_neg]
   rintro (h | ⟨_,h⟩)
   ·exact h6 h
   ·rw [List.length_map] at h;exact h8 h
  have HNO:Hid (∀ R ∈ Rs,R.name ≠ nm):=hno
  have HN8:Hid (nm.length ≤ 8):=name_len hname
  clear hname HNA HMX hno hany hin
  go_enter Tryz.func37,Tryz.ntmps37
  go_wp2_with (go_at_call 58;refine CN.mono ?_;rintro e w ⟨rfl,rfl⟩)
  go_wp2_with fail
  refine Calls.mono (show Calls _ _ _ _ _ from CP.out) ?_
  rintro e w1 ⟨hb1,hp⟩
  have HB1:Hid _:=hb1
  have HR1:Hid (RulesAt w1 rr Rs):=HR.out.below hb1
  have s51:w1.cell? ⟨sb,5,none⟩ = some (.map (some rr)):=(hb1.cell (p:=⟨sb,5,none⟩) (World.block_lt_of_cell? w _ hs)).trans hs
  rcases hp with ⟨hc,rfl⟩ | ⟨hc,hok,v,qs,rfl,hQ,hv⟩
  ·have RB:Hid (RuleOut w rr Rs nm xs (.returned (.int .i64 (checkAll xs:Nat))) w1):=rule_bad HR.out hb1 (HE.out) hc
   have hc' : ¬ (checkAll xs:Int) = 0:=by omega
   clear hc hb1 CP LE hs s51
   generalize (checkAll xs:Int) = ce at *
   go_wp2
   go_ret
   exact RB.out
  ·have hl:=hQ.len
   have he0:ruleE (Rs.map (·.view)) nm xs = 0:=by rw [HE.out,hc]
   obtain ⟨ao2,n2,c2,rfl⟩:=qs_form hv
   obtain ⟨rfl,_,_,_⟩:=qs_cells hv
   by_cases hx:xs = []
   ·have hl0:qs.length = 0:=by rw [hl,hx];rfl
    obtain ⟨w2,hd,hro⟩:=rules_drop HR1.out nm w.heap.size
    have RB:Hid (RuleOut w rr Rs nm xs (.returned (.int .i64 0)) w2):=⟨by rw [he0];rfl,by rw [ruleV,if_pos he0,if_pos hx];exact RulesOut.after HB1.out hro⟩
    rw [hl0]
    clear hc hok hb1 CP LE hs hQ hv hro hx hl hl0 he0
    go_wp2
    go_ret
    exact RB.out
   ·have hx0:¬ (qs.length:Int) = 0:=by
     intro e
     have:xs.length = 0:=by omega
     exact hx (List.length_eq_zero_iff.1 this)
    have hq:NewQs w1 rr Rs (.slice ao2 qs.length c2) qs w.heap.size:=by
     refine ⟨hv,hb1.size,fun k hk => HR.out.lt (.inl hk),fun q hq => ?_,fun e => ?_,by omega⟩
     ·obtain ⟨j,hj,rfl⟩:=List.getElem_of_mem hq
      have h1:=congrArg (fun l => l[j]?) hQ.1
      simp only [List.getElem?_map,List.getElem?_eq_getElem hj,Option.map_some] at h1
      rw [List.getElem?_eq_getElem (by omega),Option.map_some,Option.some.injEq] at h1
      have h60:=(check_ok (hok _ (List.getElem_mem (show j < xs.length by omega)))).1
      exact short_qn (fun x hx => by have:=splitL_piece 32 _ x hx;omega) h1.symm (hQ.2 _ (List.getElem_mem hj))
     ·rw [e] at hl;exact hx (List.length_eq_zero_iff.1 hl.symm)
    have CS:Hid (Calls Tryz.prog 60 #[ptrV sb,SV nm,.slice ao2 qs.length c2] w1 fun e w' => e = .returned (.tuple #[])∧RulesOut w.heap.size w1 rr Rs (setV (Rs.map (·.view)) nm qs) w'):=setRule_new sb rr Rs nm _ qs w.heap.size w1 s51 HR1.out HNO.out (by omega) HN8.out hq
    have RB:Hid (∀ w2,RulesOut w.heap.size w1 rr Rs (setV (Rs.map (·.view)) nm qs) w2→RuleOut w rr Rs nm xs (.returned (.int .i64 0)) w2):=fun w2 h2 => ⟨by rw [he0];rfl,by rw [ruleV,if_pos he0,if_neg hx,← qns_eq hQ];exact RulesOut.after HB1.out h2⟩
    clear hc hok hb1 CP LE hs hQ hv hx hl he0 hq s51
    go_wp2_with fail
    refine Calls.mono (show Calls _ _ _ _ _ from CS.out) ?_
    rintro e w2 ⟨rfl,h2⟩
    have RB2:Hid _:=RB.out w2 h2
    clear h2 RB CS
    go_wp2
    go_ret
    exact RB2.out
end Go.Proofs.YtdcbgfhkfmohiaaGreatDoor

namespace Go.Proofs.YtdcbgfhkfmohiaaGreatDoor
open Go.RowKit
def told (n:Str) (a:List Str) (x:RuleP):RuleP:=if x.name == n then { x with ans:=a } else x
theorem told_keeps (n:Str) (a:List Str) (x:RuleP):(told n a x).name = x.name∧(told n a x).b = x.b∧(told n a x).m = x.m∧(told n a x).qs = x.qs∧(told n a x).lo = x.lo∧(told n a x).hi = x.hi∧(told n a x).v = x.v:=by
 unfold told;split <;> simp
theorem told_ow {n:Str} {a:List Str} {rr:Nat} {Rs:List RuleP} {k:Nat}:Ow rr (Rs.map (told n a)) k ↔ Ow rr Rs k:=by
 unfold Ow
 constructor
 ·rintro (h | ⟨R,hR,h⟩)
  ·exact .inl h
  ·rw [List.mem_map] at hR
   obtain ⟨x,hx,rfl⟩:=hR
   obtain ⟨_,h2,h3,_⟩:=told_keeps n a x
   rw [h2,h3] at h
   exact .inr ⟨x,hx,h⟩
 ·rintro (h | ⟨R,hR,h⟩)
  ·exact .inl h
  ·obtain ⟨_,h2,h3,_⟩:=told_keeps n a R
   exact .inr ⟨_,List.mem_map.2 ⟨R,hR,rfl⟩,by rw [h2,h3];exact h⟩
theorem rules_told {w w' : World} {rr:Nat} {Rs:List RuleP} {R:RuleP} {a:List Str} (h:RulesAt w rr Rs) (hR:R ∈ Rs) (hA:RuleAt w' { R with ans:=a }) (ht:Turn (fun k => k = R.m) w w' (fun k => k = R.m)):RulesAt w' rr (Rs.map (told R.name a)):=by
 have hoth:∀ k,Foot rr Rs k→k ≠ R.m→w'.heap[k]? = w.heap[k]?:=fun k hk hne => ht.blk k (h.lt hk) hne
 refine ⟨?_,?_,?_,?_,?_,?_,?_,?_⟩
 ·obtain ⟨es,c,h4,h5⟩:=h.map
  refine ⟨es,c,(hoth rr (.inl (.inl rfl)) (Ne.symm (h.apB R hR).2)).trans h4,?_⟩
  have e:(Rs.map (told R.name a)).map (fun R => (R.name,R.b)) = Rs.map (fun R => (R.name,R.b)):=by
   rw [List.map_map]
   apply List.map_congr_left
   intro x _
   obtain ⟨e1,e2,_⟩:=told_keeps R.name a x
   simp only [Function.comp,e1,e2]
  rw [e];exact h5
 ·intro x hx
  rw [List.mem_map] at hx
  obtain ⟨y,hy,rfl⟩:=hx
  by_cases e:y.name = R.name
  ·have:=name_inj h.nd hy hR e
   subst this
   unfold told
   rw [if_pos (by simp)]
   exact hA
  ·unfold told
   rw [if_neg (by simpa using e)]
   have a1:=h.apS y hy R hR e
   refine (h.each y hy).keep ht.size (hoth _ (.inl (.inr ⟨y,hy,.inl rfl⟩)) a1.2.1) (hoth _ (.inl (.inr ⟨y,hy,.inr rfl⟩)) a1.2.2) (fun k h4 h5 => hoth k (.inr ⟨y,hy,h4,h5⟩) (fun e => h.out y hy k (.inr ⟨R,hR,.inr e⟩) ⟨h4,h5⟩))
 ·have e:(Rs.map (told R.name a)).map (·.name) = Rs.map (·.name):=by
   rw [List.map_map]
   apply List.map_congr_left
   intro x _
   exact (told_keeps R.name a x).1
  rw [e];exact h.nd
 ·intro x hx
  rw [List.mem_map] at hx
  obtain ⟨y,hy,rfl⟩:=hx
  obtain ⟨_,e2,e3,_⟩:=told_keeps R.name a y
  rw [e2,e3];exact h.apB y hy
 ·intro x hx x' hx' hne
  rw [List.mem_map] at hx hx'
  obtain ⟨y,hy,rfl⟩:=hx
  obtain ⟨y',hy',rfl⟩:=hx'
  obtain ⟨e1,e2,e3,_⟩:=told_keeps R.name a y
  obtain ⟨f1,f2,f3,_⟩:=told_keeps R.name a y'
  rw [e1,f1] at hne
  rw [e2,e3,f2,f3];exact h.apS y hy y' hy' hne
 ·intro x hx k hk
  rw [List.mem_map] at hx
  obtain ⟨y,hy,rfl⟩:=hx
  obtain ⟨_,_,_,_,e5,e6,_⟩:=told_keeps R.name a y
  rw [e5,e6];exact h.out y hy k (told_ow.1 hk)
 ·rw [List.length_map];exact h.few
 ·intro x hx
  rw [List.mem_map] at hx
  obtain ⟨y,hy,rfl⟩:=hx
  rw [(told_keeps R.name a y).1];exact h.short y hy
noncomputable def bump (es:Ents) (S:List Str) (x:RuleP):RuleP:=if S.contains x.name then { x with ans:=nowQ es x.qs } else x
theorem bump_keeps (es:Ents) (S:List Str) (x:RuleP):(bump es S x).name = x.name∧(bump es S x).b = x.b∧(bump es S x).m = x.m∧(bump es S x).qs = x.qs∧(bump es S x).lo = x.lo∧(bump es S x).hi = x.hi:=by
 unfold bump;split <;> simp
theorem bump_nil (es:Ents) (Rs:List RuleP):Rs.map (bump es []) = Rs:=by
 rw [show bump es [] = id from funext fun x => by simp [bump],List.map_id]
theorem bump_told {es:Ents} {S:List Str} {Rs:List RuleP} {R:RuleP} (hnd:(Rs.map (·.name)).Nodup) (hR:R ∈ Rs):(Rs.map (bump es S)).map (told R.name (nowQ es R.qs)) = Rs.map (bump es (S ++ [R.name])):=by
 rw [List.map_map]
 apply List.map_congr_left
 intro x hx
 simp only [Function.comp]
 by_cases e:x.name = R.name
 ·have:=name_inj hnd hx hR e
  subst this
  unfold told
  rw [if_pos (by simp [(bump_keeps es S x).1])]
  unfold bump
  simp only [List.contains_append,List.contains_cons,beq_self_eq_true,Bool.true_or,Bool.or_true,if_true]
  split <;> rfl
 ·unfold told
  rw [if_neg (by simpa [(bump_keeps es S x).1] using e)]
  unfold bump
  have:(S ++ [R.name]).contains x.name = S.contains x.name:=by
   rw [Bool.eq_iff_iff];simp [e]
  rw [this]
theorem bump_ow {es:Ents} {S:List Str} {rr:Nat} {Rs:List RuleP} {k:Nat}:Ow rr (Rs.map (bump es S)) k ↔ Ow rr Rs k:=by
 unfold Ow
 constructor
 ·rintro (h | ⟨R,hR,h⟩)
  ·exact .inl h
  ·rw [List.mem_map] at hR
   obtain ⟨x,hx,rfl⟩:=hR
   obtain ⟨_,h2,h3,_⟩:=bump_keeps es S x
   rw [h2,h3] at h
   exact .inr ⟨x,hx,h⟩
 ·rintro (h | ⟨R,hR,h⟩)
  ·exact .inl h
  ·obtain ⟨_,h2,h3,_⟩:=bump_keeps es S R
   exact .inr ⟨_,List.mem_map.2 ⟨R,hR,rfl⟩,by rw [h2,h3];exact h⟩
theorem bump_foot {es:Ents} {S:List Str} {rr:Nat} {Rs:List RuleP} {k:Nat}:Foot rr (Rs.map (bump es S)) k→Foot rr Rs k:=by
 rintro (h | ⟨R,hR,h⟩)
 ·exact .inl (bump_ow.1 h)
 ·rw [List.mem_map] at hR
  obtain ⟨x,hx,rfl⟩:=hR
  obtain ⟨_,_,_,_,h5,h6⟩:=bump_keeps es S x
  rw [h5,h6] at h
  exact .inr ⟨x,hx,h⟩
noncomputable def lineP (es:Ents) (V:List RView) (n:Str):Str:=if V.any (fun x => x.name == n && decide (nowQ es x.qs ≠ x.ans)) then n ++ [10] else []
theorem lineP_of {es:Ents} {Rs:List RuleP} {R:RuleP} (hnd:(Rs.map (·.name)).Nodup) (hR:R ∈ Rs):lineP es (Rs.map (·.view)) R.name = if decide (nowQ es R.qs ≠ R.ans) then R.name ++ [10] else []:=by
 unfold lineP
 have:(Rs.map (·.view)).any (fun x => x.name == R.name && decide (nowQ es x.qs ≠ x.ans)) = decide (nowQ es R.qs ≠ R.ans):=by
  rw [Bool.eq_iff_iff,List.any_eq_true]
  constructor
  ·rintro ⟨v,hv,h⟩
   rw [List.mem_map] at hv
   obtain ⟨x,hx,rfl⟩:=hv
   simp only [Bool.and_eq_true,beq_iff_eq] at h
   have:=name_inj hnd hx hR h.1
   subst this
   exact h.2
  ·intro h
   exact ⟨R.view,List.mem_map.2 ⟨R,hR,rfl⟩,by simp only [Bool.and_eq_true];exact ⟨by simp [RuleP.view],h⟩⟩
 rw [this]
end Go.Proofs.YtdcbgfhkfmohiaaGreatDoor

namespace Go.Proofs.YtdcbgfhkfmohiaaGreatDoor
open Go.RowKit Go.Maps Go.Sort Go.ChangeMaps
theorem insert_perm {H:Type} (x:Lit × DataW H) (l:List (Lit × DataW H)):(DataW.insert x l).Perm (x :: l):=by
 induction l with
 | nil => exact List.Perm.refl _
 | cons y r ih =>
  rw [DataW.insert]
  split
  ·exact List.Perm.refl _
  ·exact (List.Perm.cons y ih).trans (List.Perm.swap x y r)
theorem foldr_perm {H:Type} (l:List (Lit × DataW H)):(l.foldr DataW.insert []).Perm l:=by
 induction l with
 | nil => exact List.Perm.refl _
 | cons a r ih => exact (insert_perm a _).trans (List.Perm.cons a ih)
def anyElem (_:Value):Option (DataW Unit × List MemPlace):=some (.nil,[])
theorem read_name {n v:Value} {s:Str} {c:Nat} (hn:n = SV s) (hs:s.length ≤ 8):WideElems.rd Tryz.prog 9 anyElem { key:=n,val:=v,born:=c } = some (.string s,.nil):=by
 unfold WideElems.rd anyElem
 rw [hn,WideMaps.keyOf_string_mk Tryz.underlying9 (by simp [ByteArray.size];unfold maxLen;omega)]
 simp
theorem rules_own {w:World} {rr:Nat} {Rs:List RuleP} (h:RulesAt w rr Rs):∃ D0:DataW Unit,w.ownsMap Tryz.prog 9 anyElem rr 8 D0∧(strKeys D0).Perm (Rs.map (·.name))∧Maps.size D0 ≤ 8:=by
 obtain ⟨es,c,hm,hh,hst⟩:=h.map
 have hl:es.size = Rs.length:=by rw [hh.len,List.length_map]
 have hx:∀ x ∈ es.toList,∃ R ∈ Rs,x.key = SV R.name:=fun x hx => by
  have h6:(x.key,x.val) ∈ es.toList.map (fun e => (e.key,e.val)):=List.mem_map.2 ⟨x,hx,rfl⟩
  rw [hh,List.mem_map] at h6
  obtain ⟨y,hy,e2⟩:=h6
  rw [List.mem_map] at hy
  obtain ⟨R,hR,rfl⟩:=hy
  simp only [Prod.mk.injEq] at e2
  exact ⟨R,hR,e2.1.symm⟩
 have hkeys:es.toList.map (·.key) = Rs.map fun R => SV R.name:=by
  have:=congrArg (List.map Prod.fst) hh
  rw [List.map_map,List.map_map,List.map_map] at this
  exact this
 have hp:=foldr_perm (es.toList.map (WideElems.rg Tryz.prog 9 anyElem))
 refine ⟨_,⟨es,c,hm,⟨by unfold maxLen;have:=h.few;omega,hst,fun x hxm => ?_⟩,by have:=h.few;omega,rfl⟩,?_,?_⟩
 ·obtain ⟨R,hR,e⟩:=hx x hxm
  exact ⟨_,read_name (c:=x.born) e (h.short R hR)⟩
 ·refine (hp.map _).trans ?_
  rw [List.map_map]
  have e:es.toList.map ((fun p:Lit × DataW Unit => strOf p.1) ∘ WideElems.rg Tryz.prog 9 anyElem) = Rs.map (·.name):=by
   have hg:∀ x ∈ es.toList,((fun p:Lit × DataW Unit => strOf p.1) ∘ WideElems.rg Tryz.prog 9 anyElem) x = (match x.key with | .string s => s.data.toList | _ => []):=fun x hxm => by
    obtain ⟨R,hR,e⟩:=hx x hxm
    have:=read_name (v:=x.val) (c:=x.born) e (h.short R hR)
    simp only [Function.comp,WideElems.rg]
    rw [show x = { key:=x.key,val:=x.val,born:=x.born } from rfl,this,e]
    simp [strOf]
   rw [List.map_congr_left hg]
   have:=congrArg (List.map fun v:Value => match v with | .string s => s.data.toList | _ => []) hkeys
   rw [List.map_map,List.map_map] at this
   exact this.trans (List.map_congr_left fun R _ => by simp [Function.comp])
  rw [e]
 ·rw [size_eq,hp.length_eq,List.length_map]
  have:=h.few
  simp;omega
end Go.Proofs.YtdcbgfhkfmohiaaGreatDoor

namespace Go.Proofs.YtdcbgfhkfmohiaaGreatDoor
open Go.RowKit Go.Sort Go.Shelf
attribute [local go_sem] Oper.semAt_some
noncomputable def srt (V:List RView):List Str:=(V.map (·.name)).mergeSort leB
theorem srt_perm (V:List RView):(srt V).Perm (V.map (·.name)):=List.mergeSort_perm _ _
noncomputable def planR (r:RSt) (V:List RView) (n:Int) (es:Ents):Str × Nat :=
 match findL r.all n with
 | none => ([],2)
 | some _ => if V = [] then ([],11) else ((srt V).flatMap (lineP es V),0)
noncomputable def builtV (es:Ents) (V:List RView):List RView:=V.map fun x => { x with ans:=nowQ es x.qs }
structure Planned (w w3:World) (rr:Nat) (Rs:List RuleP) (es:Ents) (N:List Str) (k:Nat) (O:Nat→Prop) (wr:World):Prop where
 bld:Bld w.heap.size ((N.take k).flatMap (lineP es (Rs.map (·.view)))) O wr
 rules:RulesAt wr rr (Rs.map (bump es (N.take k)))
 turn:Turn (fun j => Ow rr Rs j∨j = w.heap.size) w3 wr (fun j => Ow rr Rs j∨O j)
theorem planLines_len {es:Ents} {V:List RView} {l:List Str} (h:∀ x ∈ l,x.length ≤ 8):(l.flatMap (lineP es V)).length ≤ l.length * 9 :=
 flatM_len (lineP es V) 9 l (fun x hx => by
  have:=h x hx
  unfold lineP
  split
  ·simp;omega
  ·simp)
theorem turn_wide {O O' P P' : Nat→Prop} {w w' : World} (h:Turn O w w' O') (h1:∀ k,O k→P k) (h2:∀ k,P' k→P k∨w.heap.size ≤ k):Turn P w w' P' :=
 ⟨h.os,h.tape,h.output,h.size,fun k hk hn => h.blk k hk (fun ho => hn (h1 k ho)),h2⟩
theorem planned_quiet {w w3 wr w4:World} {rr:Nat} {Rs:List RuleP} {es:Ents} {N:List Str} {k:Nat} {O:Nat→Prop} (h:Planned w w3 rr Rs es N k O wr) (hR0:RulesAt w rr Rs) {R:RuleP} (hR:R ∈ Rs) (hk:k < N.length) (hn:N[k] = R.name) (hno:R.name ∉ N.take k) (hA:RuleAt w4 { R with ans:=nowQ es R.qs }) (ht:Turn (fun j => j = R.m) wr w4 (fun j => j = R.m)) :
  Bld w.heap.size ((N.take k).flatMap (lineP es (Rs.map (·.view)))) O w4∧RulesAt w4 rr (Rs.map (bump es (N.take (k + 1))))∧Turn (fun j => Ow rr Rs j∨j = w.heap.size) w3 w4 (fun j => Ow rr Rs j∨O j):=by
 have how:∀ j,Ow rr Rs j→j < w.heap.size:=fun j hj => hR0.lt (.inl hj)
 have hm:Ow rr Rs R.m:=.inr ⟨R,hR,.inr rfl⟩
 have hb:bump es (N.take k) R = R:=by
  unfold bump
  rw [if_neg]
  intro hc
  exact hno (by simpa using hc)
 have hRb:R ∈ Rs.map (bump es (N.take k)):=List.mem_map.2 ⟨R,hR,hb⟩
 refine ⟨?_,?_,?_⟩
 ·refine h.bld.keep fun j hj => ht.blk j (h.bld.lt j hj).2 (fun e => ?_)
  have:=(h.bld.lt j hj).1
  have:=how R.m hm
  omega
 ·have:=rules_told h.rules hRb hA ht
  rw [bump_told hR0.nd hR] at this
  rw [List.take_succ_eq_append_getElem hk,hn]
  exact this
 ·exact h.turn.trans (turn_wide ht (fun j e => .inl (e ▸ hm)) (fun j hj => .inl hj))
theorem planned_write {w w3 w4 w5:World} {rr:Nat} {Rs Rs' : List RuleP} {O O' : Nat→Prop} {l:Str} (hR0:RulesAt w rr Rs) (hf:∀ j,Foot rr Rs' j→Foot rr Rs j) (hb:Bld w.heap.size l O w4) (hr:RulesAt w4 rr Rs') (ht3:Turn (fun j => Ow rr Rs j∨j = w.heap.size) w3 w4 (fun j => Ow rr Rs j∨O j)) (ht:Turn O w4 w5 O') :
  RulesAt w5 rr Rs'∧Turn (fun j => Ow rr Rs j∨j = w.heap.size) w3 w5 (fun j => Ow rr Rs j∨O' j):=by
 refine ⟨hr.keep ht.size fun j hj => ht.blk j (hr.lt hj) (fun ho => ?_),ht3.trans (turn_wide ht (fun j h => .inr h) (fun j hj => ?_))⟩
 ·have:=(hb.lt j ho).1
  have:=hR0.lt (hf j hj)
  omega
 ·rcases hj with hj | hj
  ·exact .inl (.inl hj)
  ·exact (ht.own j hj).imp (fun h => .inr h) id
end Go.Proofs.YtdcbgfhkfmohiaaGreatDoor

namespace Go.Proofs.YtdcbgfhkfmohiaaGreatDoor
open Go.RowKit Go.Sort Go.Shelf
attribute [local go_sem] Oper.semAt_some
def PlanOut (w:World) (rr:Nat) (Rs:List RuleP) (o:Str × Nat) (V:List RView) (e:Ending) (w' : World):Prop :=
 e = .returned (.tuple #[SV o.1,.int .i64 o.2])∧RulesOut w.heap.size w rr Rs V w'
set_option maxHeartbeats 8000000 in
set_option maxRecDepth 50000 in
theorem plan_go (B:Bank) (es:Ents) (b1:Nat) (n:Int) (Rs:List RuleP) (w:World) (hb1:B.ad (.dir es) = b1) (hB:BankAt w B) (hes:es ∈ B.ds) (hw:WFE es) (h5:heightE es ≤ 5) (hfew:(filesE es).length ≤ 20)
  (LE:(Instr.lookup 82 (.map (some B.rs)) (.int .i64 n) false).run Tryz.prog w = .ok (ptrV b1) w) (hR:RulesAt w B.rr Rs) (hne:Rs ≠ []) (hap:∀ k,Foot B.rr Rs k→¬ B.own k) :
  Calls Tryz.prog 35 #[ptrV B.sb,.int .i64 n] w fun e w' => PlanOut w B.rr Rs ((srt (Rs.map (·.view))).flatMap (lineP es (Rs.map (·.view))),0) (builtV es (Rs.map (·.view))) e w':=by
 have s2:w.cell? ⟨B.sb,2,none⟩ = some (.map (some B.rs)):=(blk_cell hB.store 2).trans rfl
 have s5:w.cell? ⟨B.sb,5,none⟩ = some (.map (some B.rr)):=(blk_cell hB.store 5).trans rfl
 have LN:=len_rules hR
 have hl0:¬ (Rs.length:Int) = 0:=by
  intro e
  exact hne (List.length_eq_zero_iff.1 (by omega))
 have hsb:B.sb < w.heap.size:=World.block_lt_of_cell? w _ s2
 obtain ⟨w1,hw1⟩ : ∃ w1,w1 = w.alloc (.cells #[.pointer none,.slice none 0 0] 94):=⟨_,rfl⟩
 have hb1' : Below w.heap.size w w1:=by rw [hw1];exact (Below.refl _ _).alloc (Nat.le_refl _) _
 have hz1:w1.heap.size = w.heap.size + 1:=by rw [hw1];simp
 have hn1:w1.heap[w.heap.size]? = some (.cells #[.pointer none,.slice none 0 0] 94 (0,0)):=by rw [hw1];exact heap_alloc_new _ _
 have s51:w1.cell? ⟨B.sb,5,none⟩ = some (.map (some B.rr)):=(hb1'.cell (p:=⟨B.sb,5,none⟩) hsb).trans s5
 have hR1:RulesAt w1 B.rr Rs:=hR.below hb1'
 obtain ⟨D0,hown,hperm,hsize⟩:=rules_own hR1
 have CS:Hid _:=prgSorted_any B.rr 8 D0 anyElem w1 hown (by unfold maxLen;omega) (by omega)
 have HW1:Hid _:=hw1
 have HB1' : Hid _:=hb1'
 have HN1:Hid _:=hn1
 have HR:Hid _:=hR
 have HR1:Hid _:=hR1
 have HP:Hid _:=hperm
 have HB:Hid _:=hB
 have HAP:Hid _:=hap
 have HE1:Hid _:=hb1
 clear hw1 hb1' hn1 hR hR1 hperm hown hB hap hne hb1
 go_enter Tryz.func35,Tryz.ntmps35
 go_upto_region 7 with fail
 rw [← HW1.out]
 clear HW1 s2 s5 LE LN
 go_wp2_with (go_at_call 56;refine (prgKeys_any _ _).mono ?_;rintro e w2 ⟨rfl,rfl⟩)
 have CS':=CS.out
 rw [hz1] at CS'
 refine Calls.mono (show Calls _ _ _ _ _ from CS') ?_
 rintro e w3 ⟨v,ss,rfl,hS,hrow,_,hb3⟩
 have HN:Hid (ss.mergeSort leB = srt (Rs.map (·.view))):=by
  have e:(Rs.map (·.view)).map (·.name) = Rs.map (·.name):=by rw [List.map_map];rfl
  rw [Hid,srt,e]
  exact mergeSort_of_perm (hS.trans HP.out)
 have hrow' : w3.ownsRow (w1.alloc (.cells #[.map (some B.rr)] 85)).heap.size 9 1 v ss.length ((ss.mergeSort leB).map encStr):=hrow
 rw [HN.out] at hrow'
 have hpn:=srt_perm (Rs.map (·.view))
 rw [show (Rs.map (·.view)).map (·.name) = Rs.map (·.name) by rw [List.map_map];rfl] at hpn
 have hln:ss.length = (srt (Rs.map (·.view))).length:=by
  rw [← HN.out];simp
 have hlr:(srt (Rs.map (·.view))).length = Rs.length:=by rw [hpn.length_eq,List.length_map]
 generalize hNN:srt (Rs.map (·.view)) = N at *
 have h8:N.length ≤ 8:=by rw [hlr];exact HR.out.few
 have hz2:(w1.alloc (.cells #[.map (some B.rr)] 85)).heap.size = w.heap.size + 2:=by simp [hz1]
 have hb2:Below w1.heap.size w1 (w1.alloc (.cells #[.map (some B.rr)] 85)):=(Below.refl _ _).alloc (Nat.le_refl _) _
 rw [hz2] at hrow' hb3
 have hb13:Below w1.heap.size w1 w3:=hb2.trans (hb3.mono (by omega))
 have hb03:Below w.heap.size w w3:=HB1'.out.trans (hb13.mono (by omega))
 have HB03:Hid _:=hb03
 have HN3:Hid (w3.heap[w.heap.size]? = some (.cells #[.pointer none,.slice none 0 0] 94 (0,0))):=(hb13.block _ (by omega)).trans HN1.out
 have HR3:Hid (RulesAt w3 B.rr Rs):=HR.out.below hb03
 have HNE:Hid (N ≠ []):=by
  intro e
  rw [e] at hlr
  simp at hlr
  omega
 have HNP:Hid (N.Perm (Rs.map (·.name))):=hpn
 have HNN:Hid (srt (Rs.map (·.view)) = N):=hNN
 rw [hln] at hrow'
 have hsz3:w.heap.size + 2 ≤ w3.heap.size:=by have:=hb3.size;rw [hz2] at this;exact this
 have HC:Hid (∃ g cap,v = .slice (some ⟨g,0,none⟩) N.length cap∧w.heap.size + 2 ≤ g∧g < w3.heap.size∧N.length ≤ cap∧cap ≤ maxLen∧∀ k (h:k < N.length),w3.cell? ⟨g,k,none⟩ = some (SV N[k])):=by
  rcases row_cells hrow' with ⟨_,h3⟩ | ⟨g,cap,e,h4,h4b,h6,h7,h9⟩
  ·exact absurd (List.length_eq_zero_iff.1 h3) HNE.out
  ·refine ⟨g,cap,e,by first | exact h4b | omega,h4,h6,h7,fun k hk => ?_⟩
   exact (h9 k (encStr N[k]) (by rw [List.getElem?_map,List.getElem?_eq_getElem hk];rfl)).trans rfl
 clear hS hrow hrow' hb3 hpn hln hb2 hb13 hb03 CS CS' hsize HP HN HB1' HN1 HR1 hz2 s51 hNN
 obtain ⟨g,cap,rfl,hg1,hg2,hcap,hcm,hcell⟩:=HC.out
 have HCE:Hid _:=hcell
 clear hcell HC
 unfold maxLen at hcm
 go_wp2
 go_loopw [31] (fun i wr => ∃ k:Nat,k ≤ N.length∧i = .int .i64 k∧∃ O,Planned w w3 B.rr Rs es N k O wr) (fun i _ => N.length - (intOf i).toNat)
 case atStart =>
  exact ⟨0,Nat.zero_le _,rfl,fun k => k = w.heap.size,Bld.new HN3.out,by rw [List.take_zero,bump_nil];exact HR3.out,Turn.refl _ _⟩
 case round =>
  obtain ⟨k,hk,rfl,O,hP⟩:=hrel
  by_cases hlt:k < N.length
  ·have hki:(k:Int) < (N.length:Int):=by omega
   have hgw:∀ j,j < w3.heap.size→¬ (Ow B.rr Rs j∨j = w.heap.size)→wr.heap[j]? = w3.heap[j]?:=hP.turn.blk
   have hoL:∀ j,Ow B.rr Rs j→j < w.heap.size:=fun j hj => HR.out.lt (.inl hj)
   have hgn:¬ (Ow B.rr Rs g∨g = w.heap.size):=by
    intro h
    rcases h with h | h
    ·have:=hoL g h;omega
    ·omega
   have ck:wr.cell? ⟨g,k,none⟩ = some (SV N[k]):=(World.cell?_of_block (hgw g hg2 hgn)).trans (HCE.out k hlt)
   have hgr:g < wr.heap.size:=Nat.lt_of_lt_of_le hg2 hP.turn.size
   have hmem:N[k] ∈ Rs.map (·.name):=HNP.out.mem_iff.1 (List.getElem_mem hlt)
   obtain ⟨R,hRm,hRn⟩:=List.mem_map.1 hmem
   have hnod:N.Nodup:=HNP.out.nodup_iff.2 HR.out.nd
   have hno:R.name ∉ N.take k:=by
    rw [hRn]
    intro hm
    obtain ⟨j,hj,e⟩:=List.getElem_of_mem hm
    rw [List.length_take] at hj
    rw [List.getElem_take] at e
    exact List.pairwise_iff_getElem.1 hnod j k (by omega) hlt (by omega) e
   have hbm:bump es (N.take k) R = R:=by
    unfold bump
    rw [if_neg]
    intro hc
    exact hno (by simpa using hc)
   have hRb:R ∈ Rs.map (bump es (N.take k)):=List.mem_map.2 ⟨R,hRm,hbm⟩
   have hown:∀ j,B.own j→wr.heap[j]? = w.heap[j]?:=fun j hj => (hgw j (by have:=HB.out.own_lt hj;omega) (by
    rintro (h | h)
    ·exact HAP.out j (.inl h) hj
    ·have:=HB.out.own_lt hj;omega)).trans (HB03.out.block j (HB.out.own_lt hj))
   have hBr:BankAt wr B:=HB.out.frame hown
   have s5r:wr.cell? ⟨B.sb,5,none⟩ = some (.map (some B.rr)):=(blk_cell hBr.store 5).trans rfl
   have LE2:=rules_find hP.rules hRb
   rw [hRn] at LE2
   have C:Hid _:=build_any B es R wr hBr hes hw h5 hfew (hP.rules.each R hRb) (HAP.out _ (.inl (.inr ⟨R,hRm,.inr rfl⟩)))
   rw [HE1.out] at C
   have HPQ:Hid (∀ w4,RuleAt w4 { R with ans:=nowQ es R.qs }→Turn (fun j => j = R.m) wr w4 (fun j => j = R.m)→Bld w.heap.size ((N.take k).flatMap (lineP es (Rs.map (·.view)))) O w4∧RulesAt w4 B.rr (Rs.map (bump es (N.take (k + 1))))∧Turn (fun j => Ow B.rr Rs j∨j = w.heap.size) w3 w4 (fun j => Ow B.rr Rs j∨O j)):=fun w4 hA ht => planned_quiet hP HR.out hRm hlt hRn.symm hno hA ht
   have HL:Hid (((N.take k).flatMap (lineP es (Rs.map (·.view)))).length ≤ 100):=by
    have:=planLines_len (es:=es) (V:=Rs.map (·.view)) (l:=N.take k) (fun x hx => by
     have h1:=HNP.out.mem_iff.1 (List.mem_of_mem_take hx)
     obtain ⟨y,hy,rfl⟩:=List.mem_map.1 h1
     exact HR.out.short y hy)
    rw [List.length_take] at this
    have h2:min k N.length * 9 ≤ 8 * 9:=Nat.mul_le_mul_right _ (by omega)
    exact Nat.le_trans this (by omega)
   have HL2:Hid (N[k].length ≤ 8):=by rw [Hid,← hRn];exact HR.out.short R hRm
   have HLP:Hid (lineP es (Rs.map (·.view)) N[k] = if decide (nowQ es R.qs ≠ R.ans) then N[k] ++ [10] else []):=by rw [Hid,← hRn];exact lineP_of HR.out.nd hRm
   have HFM:Hid ((N.take (k + 1)).flatMap (lineP es (Rs.map (·.view))) = (N.take k).flatMap (lineP es (Rs.map (·.view))) ++ lineP es (Rs.map (·.view)) N[k]):=by
    rw [Hid,List.take_succ_eq_append_getElem hlt,List.flatMap_append];simp
   clear hP hgw hoL hmem hRn hno hbm hRb hown hBr hnod hRm
   go_wp2_with fail
   refine Calls.mono (show Calls _ _ _ _ _ from C.out) ?_
   rintro e w4 ⟨rfl,hA,ht⟩
   obtain ⟨hq1,hq2,hq3⟩:=HPQ.out w4 hA ht
   have H41:Hid _:=hq1
   have H42:Hid _:=hq2
   have H43:Hid _:=hq3
   obtain ⟨due,hdue⟩ : ∃ due,decide (nowQ es R.qs ≠ R.ans) = due:=⟨_,rfl⟩
   rw [hdue] at HLP ⊢
   clear hA ht hq1 hq2 hq3 C HPQ LE2 s5r ck hdue
   cases due
   ·have RR:Hid (Planned w w3 B.rr Rs es N (k + 1) O w4):=⟨by rw [HFM.out,show lineP es (Rs.map (·.view)) N[k] = [] by rw [HLP.out];simp,List.append_nil];exact H41.out,H42.out,H43.out⟩
    clear H41 H42 H43
    go_wp2
    go_roundw
    case rel => exact ⟨k + 1,by omega,by go_num,O,RR.out⟩
    case measure => simp [intOf];omega
   ·have C2:Hid _:=writeString_any w.heap.size _ N[k] O w4 H41.out (by have:=HL.out;have:=HL2.out;omega)
    go_wp2_with fail
    refine Calls.mono (show Calls _ _ _ _ _ from C2.out) ?_
    rintro e w5 ⟨rfl,O5,hb5,ht5⟩
    have hw5:=planned_write HR.out (fun _ => bump_foot) H41.out H42.out H43.out ht5
    have H51:Hid _:=hb5
    have H52:Hid _:=hw5.1
    have H53:Hid _:=hw5.2
    have C3:Hid _:=writeByte_any w.heap.size _ 10 O5 w5 hb5 (by have:=HL.out;have:=HL2.out;rw [List.length_append];omega)
    clear hb5 ht5 hw5 C2 H41 H42 H43
    go_wp2_with fail
    refine Calls.mono (show Calls _ _ _ _ _ from C3.out) ?_
    rintro e w6 ⟨rfl,O6,hb6,ht6⟩
    have hw6:=planned_write HR.out (fun _ => bump_foot) H51.out H52.out H53.out ht6
    have RR:Hid (Planned w w3 B.rr Rs es N (k + 1) O6 w6):=⟨by rw [HFM.out,show lineP es (Rs.map (·.view)) N[k] = N[k] ++ [10] by rw [HLP.out];simp,← List.append_assoc];exact hb6,hw6.1,hw6.2⟩
    clear hb6 ht6 hw6 C3 H51 H52 H53
    go_wp2
    go_roundw
    case rel => exact ⟨k + 1,by omega,by go_num,O6,RR.out⟩
    case measure => simp [intOf];omega
  ·have hki:¬ (k:Int) < (N.length:Int):=by omega
   have C:=string_any w.heap.size _ O wr hP.bld
   have HPL:Hid _:=hP
   have hkN:N.take k = N:=List.take_of_length_le (by omega)
   rw [hkN] at C
   clear hP
   go_wp2_with fail
   refine C.mono ?_
   rintro e w6 ⟨rfl,hb6,hk6⟩
   have RR:Hid (PlanOut w B.rr Rs (N.flatMap (lineP es (Rs.map (·.view))),0) (builtV es (Rs.map (·.view))) (.returned (.tuple #[SV (N.flatMap (lineP es (Rs.map (·.view)))),.int .i64 0])) w6):=by
    have hoL:∀ j,Ow B.rr Rs j→j < w.heap.size:=fun j hj => HR.out.lt (.inl hj)
    have hr6:RulesAt w6 B.rr (Rs.map (bump es N)):=by
     have:=HPL.out.rules
     rw [hkN] at this
     exact this.keep hb6.size fun j hj => hb6.block j (HR.out.lt (bump_foot hj))
    refine ⟨rfl,Rs.map (bump es N),hr6,?_,?_,fun j hj => .inl (bump_foot hj)⟩
    ·unfold builtV
     rw [List.map_map,List.map_map]
     apply List.map_congr_left
     intro x hx
     have hc:N.contains x.name = true:=by
      rw [List.contains_iff_mem]
      exact HNP.out.mem_iff.2 (List.mem_map.2 ⟨x,hx,rfl⟩)
     simp only [Function.comp,bump,hc,if_true,RuleP.view]
    ·have t1:Turn (fun j => Ow B.rr Rs j∨w.heap.size ≤ j) w w3 (fun j => Ow B.rr Rs j∨w.heap.size ≤ j):=Turn.of_below HB03.out
     have t2:Turn (fun j => Ow B.rr Rs j∨w.heap.size ≤ j) w3 wr (fun j => Ow B.rr Rs j∨w.heap.size ≤ j):=turn_wide HPL.out.turn (fun j h => h.imp id (fun e => by omega)) (fun j h => .inl h)
     have t3:=t1.trans t2
     refine ⟨hb6.os.trans t3.os,hb6.tape.trans t3.tape,hb6.output.trans t3.output,Nat.le_trans t3.size hb6.size,fun j hj hn => (hb6.block j hj).trans (t3.blk j hj (by rintro (h | h);exact hn h;omega)),fun j hj => .inl (bump_ow.1 hj)⟩
   clear C hb6 hk6 HPL
   go_wp2
   go_ret2
   rw [HNN.out]
   exact RR.out
end Go.Proofs.YtdcbgfhkfmohiaaGreatDoor

namespace Go.Proofs.YtdcbgfhkfmohiaaGreatDoor
open Go.RowKit
attribute [local go_sem] Oper.semAt_some
def PlanRes (w:World) (rr:Nat) (Rs:List RuleP) (r:RSt) (n:Int) (e:Ending) (w' : World):Prop :=
 (findL r.all n = none∧PlanOut w rr Rs ([],2) (Rs.map (·.view)) e w') ∨
 ∃ es,findL r.all n = some (toF (filesE es))∧WFE es∧heightE es ≤ 5 ∧
  ((Rs = []∧PlanOut w rr Rs ([],11) (Rs.map (·.view)) e w') ∨
   (Rs ≠ []∧PlanOut w rr Rs ((srt (Rs.map (·.view))).flatMap (lineP es (Rs.map (·.view))),0) (builtV es (Rs.map (·.view))) e w'))
set_option maxHeartbeats 8000000 in
set_option maxRecDepth 50000 in
theorem storePlan_any (B:Bank) (r:RSt) (n:Int) (Rs:List RuleP) (w:World) (hO:Okay w B) (ha:Agree B r) (hR:RulesAt w B.rr Rs) (hap:∀ k,Foot B.rr Rs k→¬ B.own k) :
  Calls Tryz.prog 35 #[ptrV B.sb,.int .i64 n] w fun e w' => PlanRes w B.rr Rs r n e w':=by
 have s2:w.cell? ⟨B.sb,2,none⟩ = some (.map (some B.rs)):=(blk_cell hO.at'.store 2).trans rfl
 have s5:w.cell? ⟨B.sb,5,none⟩ = some (.map (some B.rr)):=(blk_cell hO.at'.store 5).trans rfl
 obtain ⟨v1,hl1,h1⟩:=snap_any hO ha n
 have LE:(Instr.lookup 82 (.map (some B.rs)) (.int .i64 n) false).run Tryz.prog w = .ok v1 w:=hl1 w ⟨0,rfl⟩
 rcases h1 with ⟨rfl,hf1⟩ | ⟨es1,k1,hk1,rfl,hf1⟩
 ·have R:Hid (PlanRes w B.rr Rs r n (.returned (.tuple #[SV [],.int .i64 2])) w):=.inl ⟨hf1,rfl,hR.same (Below.refl _ _)⟩
  clear hO hf1 hl1 hR hap ha
  go_enter Tryz.func35,Tryz.ntmps35
  go_wp2
  go_ret2
  exact R.out
 ·have hw1:=hO.wf _ hk1
  have hd1:es1 ∈ B.ds:=hO.at'.roots _ hk1
  by_cases hne:Rs = []
  ·have LN:=len_rules hR
   rw [hne,List.length_nil] at LN
   have R:Hid (PlanRes w B.rr Rs r n (.returned (.tuple #[SV [],.int .i64 11])) w):=.inr ⟨es1,hf1,hw1.1,hw1.2.2,.inl ⟨hne,rfl,hR.same (Below.refl _ _)⟩⟩
   obtain ⟨b1,hb1⟩ : ∃ b1,B.ad (.dir es1) = b1:=⟨_,rfl⟩
   rw [hb1] at LE
   clear hO hf1 hl1 hR hap ha hk1 hw1 hd1 hne hb1
   go_enter Tryz.func35,Tryz.ntmps35
   go_wp2
   go_ret2
   exact R.out
  ·exact (plan_go B es1 _ n Rs w rfl hO.at' hd1 hw1.1 hw1.2.2 hw1.2.1 LE hR hne hap).mono fun e w' h => .inr ⟨es1,hf1,hw1.1,hw1.2.2,.inr ⟨hne,h⟩⟩
end Go.Proofs.YtdcbgfhkfmohiaaGreatDoor
