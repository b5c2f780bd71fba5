/- For every script and every count of batches handed to All, the call returns true and each argument reads afterwards as it read before; conditions: the two tables of unicode/utf8 that the row lists stand as the program's text lays them when the call begins, and each string and slice of the arguments takes at most the bytes that the form grants. -/
import Derived.Test.YtdcbgfhkfmohiaaGreatDoorAl38
import Derived.Test.YtdcbgfhkfmohiaaGreatDoorAl46
import Derived.Test.YtdcbgfhkfmohiaaGreatDoorAl47
import Derived.Deep.DeepHandedRow
import Derived.Lay
namespace Go.Proofs.YtdcbgfhkfmohiaaGreatDoor
open Go.ChangeShapes Go.WideShapes Go.ChangeAt Go.RowKit Go.Deep
theorem Tryz.bytesStr:Tryz.prog.bytesOf 9 = 16:=by kernel_rfl
theorem add_plain (g o k:Nat):(⟨g,o,none⟩ : Addr).add k = ⟨g,o + k,none⟩:=by
 unfold Addr.add
 by_cases h:k = 0
 ·rw [if_pos h,h,Nat.add_zero]
 ·rw [if_neg h]
theorem spot_none {W:World} {g o:Nat} {sp:Option Nat} {v:Value} (h:W.cell? ⟨g,o,sp⟩ = some v):sp = none:=by
 unfold World.cell? at h
 cases sp with
 | none => rfl
 | some s => simp at h;split at h <;> simp at h
theorem open_names {H:Type} {enc:TypeId × Value→H} {W:World} {sp:Nat→Bool} {held:Bool} {fuel:Nat} {v:Value} {x:DataW H × List MemPlace} (h:DataW.trod enc Tryz.prog W 0 sp held fuel 48 [v] = some x) :
  ∃ qs:List Str,NamesAt W v qs∧(∀ q ∈ qs,q.length ∈ x.1.weights Tryz.prog 48)∧(qs = []∨∃ n ∈ x.1.weights Tryz.prog 48,qs.length * 16 ≤ n):=by
 rcases open_slice1 Tryz.underlying48 Tryz.cellsStr h with ⟨hcs,hx⟩ | ⟨a,len,cap,m,n,V,D,Pl,hcs,_,hl,hm,hmm,hx,hel⟩
 ·obtain rfl:v = .slice none 0 0:=by simpa using hcs
  exact ⟨[],⟨none,0,rfl,Nat.le_refl _,Nat.zero_le _,by simp⟩,by simp,.inl rfl⟩
 ·obtain rfl:v = .slice (some a) len cap:=by simpa using hcs
  have hlm:len ≤ m:=by rw [hmm];split <;> omega
  have each:∀ i,i < len→∃ s:Str,V i = SV s∧D i = .lit (.string s):=by
   intro i hi
   have ht:=(hel i (by omega)).2
   obtain ⟨s,e,y,_⟩:=DataW.trod_string Tryz.underlying9 ht
   have e1:V i = .string s:=by simpa using e
   have y1:D i = .lit (.string s.data.toList):=congrArg Prod.fst y
   exact ⟨s.data.toList,by rw [e1],y1⟩
  obtain ⟨F,hF⟩:=choose_lt each
  subst hx
  refine ⟨(List.range len).map F,⟨some a,cap,by simp,by simpa using hl,hm,?_⟩,?_,.inr ⟨(((List.range len).map D).length + ((List.range (m - len)).map fun j => D (len + j)).length) * Tryz.prog.bytesOf 9,by simp [DataW.weights,Tryz.underlying48],?_⟩⟩
  ·intro k hk
   rw [List.length_map,List.length_range] at hk
   have hc:=(hel k (by omega)).1
   have h0:=(hel 0 (by omega)).1
   have h0' : W.cell? a = some (V 0):=by simpa [Addr.add] using h0
   obtain ⟨g,o,sq⟩:=a
   obtain rfl:=spot_none h0'
   refine ⟨g,o,rfl,World.block_lt_of_cell? W _ h0',?_⟩
   rw [add_plain] at hc
   rw [hc,(hF k hk).1,List.getElem_map,List.getElem_range]
  ·intro q hq
   obtain ⟨i,hi,rfl⟩:=List.mem_map.1 hq
   have hi:=List.mem_range.1 hi
   refine weights_slice Tryz.underlying48 (List.mem_map_of_mem (List.mem_range.2 hi)) ?_
   rw [(hF i hi).2]
   simp [DataW.weights]
  ·rw [Tryz.bytesStr,List.length_map,List.length_range,List.length_map,List.length_range,List.length_map,List.length_range]
   omega
theorem open_opX {H:Type} {enc:TypeId × Value→H} {W:World} {sp:Nat→Bool} {held:Bool} {fuel:Nat} {cs:List Value} {x:DataW H × List MemPlace} (h:DataW.trod enc Tryz.prog W 0 sp held fuel 78 cs = some x) :
  ∃ o:OpD,cs = o.cells∧InI o.W∧(o.S.length ∈ x.1.weights Tryz.prog 78)∧(o.T.length ∈ x.1.weights Tryz.prog 78)∧∃ qs:List Str,NamesAt W o.L qs∧(∀ q ∈ qs,q.length ∈ x.1.weights Tryz.prog 78)∧(qs = []∨∃ n ∈ x.1.weights Tryz.prog 78,qs.length * 16 ≤ n):=by
 obtain ⟨o,rfl,hW,hS,hT⟩:=open_op h
 refine ⟨o,rfl,hW,hS,hT,?_⟩
 clear hS hT
 obtain ⟨xs,n,rfl,rfl,hl,hxl,hf⟩:=DataW.trod_struct Tryz.underlying78 h
 obtain ⟨x0,x1,x2,x3,x4,x5,x6,rfl⟩:=seven (show xs.length = 7 from hxl)
 have f6:DataW.trod enc Tryz.prog W 0 sp held n 48 ((o.cells.drop 6).take (Tryz.prog.cellsOf 48)) = some x6:=hf 6 _ rfl
 rw [Tryz.cellsStrs] at f6
 have f7:DataW.trod enc Tryz.prog W 0 sp held n 48 [o.L] = some x6:=f6
 obtain ⟨qs,h1,h2,h3⟩:=open_names f7
 have hm:∀ k ∈ x6.1.weights Tryz.prog 48,k ∈ (DataW.agg ([x0,x1,x2,x3,x4,x5,x6].map (·.1))).weights Tryz.prog 78:=by
  intro k hk
  simp [DataW.weights,Tryz.underlying78,DataW.weightsEach,hk]
 exact ⟨qs,h1,fun q hq => hm _ (h2 q hq),h3.imp id fun ⟨n,a,b⟩ => ⟨n,hm n a,b⟩⟩
set_option maxHeartbeats 1000000 in
set_option maxRecDepth 100000 in
theorem open_scriptX {H:Type} {enc:TypeId × Value→H} {W:World} {base:Nat} {v0 v1:Value} {d0 d1:DataW H} {p0 p1:List MemPlace} (hv0:Value.okWide Tryz.prog W .any base 22 v0) (hv1:Value.okWide Tryz.prog W .any base 3 v1)
  (h0:DataW.Trod enc Tryz.prog W 0 (fun _ => true) true 22 v0 d0 p0) (h1:DataW.Trod enc Tryz.prog W 0 (fun _ => true) true 3 v1 d1 p1)
  (hsz:(DataW.weightsEach Tryz.prog [22,3] [d0,d1]).all (· ≤ reachBytes) = true) :
  ∃ c:Int,v1 = .int .i64 c∧InI c∧(v0 = .slice none 0 0∨∃ (a:Addr) (len cap:Nat) (O:Nat→OpD) (Q:Nat→List Str),v0 = .slice (some a) len cap∧(∀ i,i < len→∀ j v,(O i).cells[j]? = some v→W.cell? ((a.add (i * 7)).add j) = some v)∧(0 < len→a.block < W.heap.size)∧(∀ i,i < len→(O i).Ok)∧len ≤ 2000000000000∧∀ i,i < len→NamesAt W (O i).L (Q i)∧QOk (Q i)):=by
 obtain ⟨c,rfl,rfl,_,hw⟩:=open_int Tryz.underlying3 hv1 h1
 refine ⟨c,rfl,wf_in hw,?_⟩
 obtain ⟨a0,len,cap,rfl⟩:=okWide_slice Tryz.underlying22 hv0
 obtain ⟨fuel,hf⟩:=h0
 rcases open_slice Tryz.underlying22 hf with ⟨hcs,hx⟩ | ⟨a,len',cap',m,n,D,Pl,hcs,_,hl,hm,hmm,hx,hel⟩
 ·left
  simpa [Value.cells] using hcs
 ·right
  simp [Value.cells] at hcs
  obtain ⟨rfl,rfl,rfl⟩:=hcs
  simp only [Prod.mk.injEq] at hx
  obtain ⟨rfl,rfl⟩:=hx
  simp only [if_true] at hmm
  subst hmm
  have hs:=sized_slice hsz (j:=0) rfl rfl Tryz.underlying22
  rw [Tryz.bytesOp] at hs
  simp only [List.length_map,List.length_range] at hs
  have hs2:(len + (m - len)) * 88 ≤ 140737488351232:=hs
  rw [Tryz.cellsOp] at hel
  have each:∀ i,i < len→∃ o:OpD × List Str,(∀ j v,o.1.cells[j]? = some v→W.cell? ((a.add (i * 7)).add j) = some v)∧o.1.Ok∧NamesAt W o.1.L o.2∧QOk o.2:=by
   intro i hi
   obtain ⟨cs',hc,ht⟩:=hel i (by omega)
   obtain ⟨_,hl7,hcell⟩:=World.cells?_some hc
   obtain ⟨o,rfl,hW,hS,hT,qs,hN,hq1,hq2⟩:=open_opX ht
   have hmem:D i ∈ (List.range len).map D:=List.mem_map_of_mem (by simpa using hi)
   have bS:=weights_in hsz (weights_slice Tryz.underlying22 hmem hS)
   have bT:=weights_in hsz (weights_slice Tryz.underlying22 hmem hT)
   have bQ:QOk qs:=by
    refine ⟨?_,fun q hq => ?_⟩
    ·rcases hq2 with rfl | ⟨k,hk,hk2⟩
     ·simp
     ·have:=weights_in hsz (weights_slice Tryz.underlying22 hmem hk)
      omega
    ·have:=weights_in hsz (weights_slice Tryz.underlying22 hmem (hq1 q hq))
     unfold maxLen;omega
   have hok:o.Ok:=⟨hW,by unfold maxLen;omega,by unfold maxLen;omega⟩
   refine ⟨(o,qs),fun j v hv => ?_,hok,hN,bQ⟩
   rw [hcell j (by rw [← hl7];exact (List.getElem?_eq_some_iff.1 hv).1)];exact hv
  haveI:Inhabited (OpD × List Str):=⟨⟨⟨0,0,0,0,[],[],.nilIface⟩,[]⟩⟩
  obtain ⟨O,hO⟩:=choose_lt each
  refine ⟨a,len,m,fun i => (O i).1,fun i => (O i).2,rfl,fun i hi => (hO i hi).1,fun hpos => ?_,fun i hi => (hO i hi).2.1,by omega,fun i hi => (hO i hi).2.2⟩
  have:=World.block_lt_of_cell? W _ ((hO 0 hpos).1 0 _ rfl)
  rw [add_block,add_block] at this;exact this
set_option maxRecDepth 100000 in
theorem allContract (H:Type) (enc:TypeId × Value→H) (W:World) (base:Nat) (args:Array Value) (ds gs:List (DataW H)) (before:List MemPlace)
  (hval:∀ (j:Nat) t v,Tryz.f12.params[j]? = some t→args[j]? = some v→Value.okWide Tryz.prog W .any base t v)
  (hW:DataW.Whole enc Tryz.prog Tryz.f12.params.toList Rows.allSpec.vars false W args.toList ds gs before)
  (hsz:(DataW.weightsEach Tryz.prog (Tryz.f12.params.toList ++ (OpenSpec.ofChange Rows.allSpec).bare.plain.varTypes Tryz.prog) (ds ++ gs)).all (· ≤ reachBytes) = true) (hmx:MaxOk W) :
  Calls Tryz.prog 12 args W fun e W' => ∃ v,e = .returned v∧Rows.allSpec.post enc Tryz.prog Tryz.f12 false true false false W args v W':=by
 have hW':=hW
 obtain ⟨p,q,hA0,hV,rfl,hfz,hnd⟩:=hW
 have hA:DataW.TrodAll enc Tryz.prog W 0 (fun _ => true) true Tryz.f12.params.toList args.toList ds p:=hA0
 rw [Tryz.params12] at hA hval
 obtain ⟨v0,v1,d0,d1,p0,p1,rfl,rfl,rfl,h0,h1⟩:=trodAll_two hA
 obtain ⟨rfl,rfl⟩:=trodVars_none hV
 have hsz' : (DataW.weightsEach Tryz.prog [22,3] [d0,d1]).all (· ≤ reachBytes) = true:=hsz
 obtain ⟨c,rfl,hc,hv⟩:=open_scriptX (hval 0 22 v0 rfl rfl) (hval 1 3 v1 rfl rfl) h0 h1 hsz'
 clear hA0 hsz
 simp only [List.append_nil] at hW'
 have hlt:∀ x ∈ p0 ++ p1,x.block < W.heap.size:=fun x hx => by simpa using hW'.lt x hx
 have walk:Calls Tryz.prog 12 #[v0,.int .i64 c] W fun e w' => e = .returned (.bool true)∧Below W.heap.size W w':=by
  rcases hv with rfl | ⟨a,len,cap,O,Q,rfl,hO,hbl,hok,hlen,hQ⟩
  ·exact all_law (plays_nil c 11 W hmx hc)
  ·exact all_law (plays_someX a len cap O c 11 W hmx hO hbl hok hlen hc Q (fun i hi => (hQ i hi).1) (fun i hi _ => asks_okX (hok i hi).s (hQ i hi).2))
 refine walk.mono fun e W' ⟨he,hb⟩ => ?_
 subst he
 exact ⟨_,rfl,⟨_,_,_,[],_,[],hW',trodAll_mk1 (shut_bool Tryz.underlying4 true),trodAll_mk2 (Below.trod Tryz.laidOut (by kernel_rfl) (of_decide_eq_true (by kernel_rfl)) h0 hb (fun x hx => hlt x (List.mem_append_left _ hx))) (Below.trod Tryz.laidOut (by kernel_rfl) (of_decide_eq_true (by kernel_rfl)) h1 hb (fun x hx => hlt x (List.mem_append_right _ hx))),rfl,hb.frame _,fun h => by cases h⟩⟩
theorem ownA:ownKnob Tryz.prog.godebug = none:=by kernel_rfl
def witArgsA:Array Value:=#[.slice none 0 0,.int .i64 0]
theorem laid_metA (os:Os):laidMetH Tryz.prog Rows.allRow.laid ((World.laidAll Tryz.prog os Rows.allRow.laid).forCall (fun _ _ => 0) ⟨#[],witArgsA,[]⟩).memory:=by
 rw [MakeChecks.laidMetH_plain _ _ _ (by kernel_rfl)]
 exact laidMet_of_run' 8 (by kernel_rfl) (by kernel_rfl)
theorem wit_readsA (os:Os) {H:Type} (enc:TypeId × Value→H):∃ places,DataW.whole enc Tryz.prog ((World.laidAll Tryz.prog os Rows.allRow.laid).forCall (fun _ _ => 0) ⟨#[],witArgsA,[]⟩).memory Tryz.f12.params.toList Rows.allSpec.vars false witArgsA.toList 8 = some ([.nil,.lit (.int .i64 0)],[],places) :=
 ⟨[],by kernel_rfl⟩
set_option maxRecDepth 100000 in
theorem allLifted (os:Os) (started:os.Started) (H:Type) (enc:TypeId × Value→H) (F:Stop.Interp) :
  ReturnsInHanded {} Tryz.checked os 12 .any ((OpenSpec.ofChange Rows.allSpec).preRow enc Tryz.prog Tryz.f12 Rows.allRow.domain false Rows.allRow.laid) (((OpenSpec.ofChange Rows.allSpec).at F).post enc Tryz.prog Tryz.f12 false true false false):=by
 obtain ⟨places,hx⟩:=wit_readsA os enc
 refine returnsInHanded_of_row (C:=Tryz.checked) (s:=OpenSpec.ofChange Rows.allSpec) ownA started (by kernel_rfl) Tryz.func12
  (witness_row_at (enc:=enc) (C:=Tryz.checked) false (World.laidAll Tryz.prog os Rows.allRow.laid) witArgsA (World.laidAll_os _ _ _) (by kernel_rfl) (by kernel_rfl) (by kernel_rfl)
   (OpenSpec.preRow_of_cond 8 hx (by kernel_rfl) (fun k hk => by cases hk) (by kernel_rfl) (laid_metA os))) ?_
 intro W base args ds gs before hval hW _ _ hsz hL hsh _
 exact allContract H enc W base args ds gs before hval hW hsz (max_shaped hsh)
theorem allSaid:Rows.AllSaid :=
 OpenClaim.holds_of_cond 12 Tryz.f12 rfl rfl rfl rfl rfl rfl rfl ⟨rfl,rfl,rfl,rfl,rfl⟩ rfl rfl rfl rfl rfl (by kernel_rfl) Tryz.func12 (by kernel_rfl)
  (of_decide_eq_true (by kernel_rfl)) (by unfold Func.isWrapper;first | (rw [if_pos (by decide +kernel)];kernel_rfl) | (rw [if_neg (by decide +kernel)];exact ⟨rfl,rfl⟩))
  (fun os started H enc _ F => by rw [OpenClaim.pre_eq_preRow];exact allLifted os started H enc F)
theorem allPlain (f : FuncId) (fn : Func) (hf : Tryz.pinned.checked.prog.funcNamed "canopy/canopylaw.All" = some f) (hfn : Tryz.pinned.checked.prog.funcs[f]? = some fn) :
  true = Tryz.pinned.checked.prog.looks []∧∀ (j:Nat) t,fn.params[j]? = some t→Tryz.pinned.checked.prog.wantsStandIn t = false:=by
 obtain rfl : f = 12 := Option.some.inj ((show Tryz.prog.funcNamed "canopy/canopylaw.All" = some 12 by kernel_rfl).symm.trans hf) |>.symm
 obtain rfl:fn = Tryz.f12:=(Option.some.inj (Tryz.func12.symm.trans hfn)).symm
 refine ⟨by kernel_rfl,fun j t ht => ?_⟩
 rw [Tryz.params12] at ht
 have hm:t = 22∨t = 3:=by simpa using Array.mem_of_getElem? ht
 rcases hm with rfl | rfl
 ·exact (show Tryz.prog.wantsStandIn 22 = false by kernel_rfl)
 ·exact (show Tryz.prog.wantsStandIn 3 = false by kernel_rfl)
theorem all_card:Rows.AllCardSaid :=
 Claim7.holds_tied_plain_at .later [] _ _ _ _ allSaid (fun _ h => by cases h) (by kernel_rfl) (fun _ h => by cases h) all_row_tie rfl ⟨rfl,rfl⟩ (by kernel_rfl) rfl allPlain (by kernel_rfl)
end Go.Proofs.YtdcbgfhkfmohiaaGreatDoor
