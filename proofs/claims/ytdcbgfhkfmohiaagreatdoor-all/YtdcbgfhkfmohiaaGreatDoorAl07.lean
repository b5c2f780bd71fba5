/- The program's listing: without. -/
import Derived.Test.YtdcbgfhkfmohiaaGreatDoorAl06
import Derived.LaidEql
import Derived.ChangeKeysEq
import Derived.WideKeyRuns
namespace Go.Proofs.YtdcbgfhkfmohiaaGreatDoor
open Go.RowKit
def withoutV (vs:List (Str × Value)) (x:Str):List (Str × Value):=if thereE vs x then vs.eraseIdx (posE vs x) else vs
theorem erase_cells {vs:List (Str × Value)} {at' : Nat} (ha:at' < vs.length) (hl:vs.length ≤ 20) (c:Value) :
  (((((listCells vs).take (1 + at' * 2) ++ flatE (vs.drop (at' + 1)) ++ (listCells vs).drop (1 + at' * 2 + (flatE (vs.drop (at' + 1))).length)).set 0 c).set (1 + (vs.length - 1) * 2) (SV [])).set (1 + (vs.length - 1) * 2 + 1) .nilIface) =
   c :: (flatE (vs.eraseIdx at') ++ padE (20 - (vs.length - 1))):=by
 have e0:listCells vs = (.int .i64 vs.length :: flatE (vs.take at')) ++ ([SV vs[at'].1,vs[at'].2] ++ flatE (vs.drop (at' + 1)) ++ padE (20 - vs.length)):=by
  rw [listCells_eq]
  have:vs = vs.take at' ++ vs[at'] :: vs.drop (at' + 1):=by
   conv => lhs;rw [← List.take_append_drop at' vs,List.drop_eq_getElem_cons ha]
  have h2:flatE (vs.take at' ++ vs[at'] :: vs.drop (at' + 1)) = flatE (vs.take at') ++ ([SV vs[at'].1,vs[at'].2] ++ flatE (vs.drop (at' + 1))):=by rw [flatE_app];rfl
  rw [← this] at h2
  rw [h2];simp
 have hA:(flatE (vs.take at')).length = at' * 2:=by rw [flatE_len];simp;omega
 have hB:(flatE (vs.drop (at' + 1))).length = (vs.length - (at' + 1)) * 2:=by rw [flatE_len];simp
 have hE:flatE (vs.eraseIdx at') = flatE (vs.take at') ++ flatE (vs.drop (at' + 1)):=by rw [← flatE_app,List.eraseIdx_eq_take_drop_succ]
 have hp:padE (20 - (vs.length - 1)) = SV [] :: .nilIface :: padE (20 - vs.length):=by
  rw [show 20 - (vs.length - 1) = (20 - vs.length) + 1 from by omega,padE_succ]
 generalize flatE (vs.drop (at' + 1)) = B at *
 generalize flatE (vs.take at') = A at *
 generalize SV vs[at'].1 = y1 at *
 generalize vs[at'].2 = y2 at *
 have hdl:(([y1,y2] ++ B).drop B.length).length = 2:=by rw [List.length_drop,List.length_append];simp
 obtain ⟨z1,z2,hz⟩ : ∃ z1 z2,([y1,y2] ++ B).drop B.length = [z1,z2]:=by
  match h:([y1,y2] ++ B).drop B.length with
  | [] => rw [h] at hdl;simp at hdl
  | [_] => rw [h] at hdl;simp at hdl
  | [a,b] => exact ⟨a,b,rfl⟩
  | _ :: _ :: _ :: _ => rw [h] at hdl;simp at hdl
 have ht:(listCells vs).take (1 + at' * 2) = .int .i64 vs.length :: A:=by
  rw [e0,List.take_left' (by simp;omega)]
 have hd:(listCells vs).drop (1 + at' * 2 + B.length) = z1 :: z2 :: padE (20 - vs.length):=by
  rw [e0,← List.drop_drop,List.drop_left' (by simp;omega),List.drop_append_of_le_length (by simp;omega),hz];rfl
 rw [ht,hd,hE,hp]
 simp only [List.cons_append,List.set_cons_zero]
 rw [show 1 + (vs.length - 1) * 2 + 1 = ((vs.length - 1) * 2 + 1) + 1 from by omega,show 1 + (vs.length - 1) * 2 = (vs.length - 1) * 2 + 1 from by omega,List.set_cons_succ,List.set_cons_succ]
 congr 1
 have hl2:(A ++ B).length = (vs.length - 1) * 2:=by simp;omega
 rw [List.set_append_right _ _ (by omega),List.set_append_right _ _ (by omega),hl2]
 simp
set_option maxHeartbeats 8000000 in
set_option maxRecDepth 50000 in
theorem without_list (vs:List (Str × Value)) (x:Str) (w:World) (hv:∀ e ∈ vs,∃ t n,e.2 = .iface t (.pointer (some ⟨n,0,none⟩))) (hl:vs.length ≤ 20) :
  Calls Tryz.prog 96 #[.agg (listCells vs).toArray,SV x] w fun e w' => e = .returned (.agg (listCells (withoutV vs x)).toArray)∧Below w.heap.size w w':=by
 have hlen:=listCells_len hl
 obtain ⟨LC,hLC⟩ : ∃ LC,LC = (listCells vs).toArray:=⟨_,rfl⟩
 rw [← hLC]
 have HLC:Hid _:=hLC
 have hls:LC.size = 41:=by rw [hLC];simpa using hlen
 have hpos:=posE_le vs x
 clear hLC
 go_enter Tryz.func96,Tryz.ntmps96
 go_wp2_with fail
 refine (search_any w.heap.size 0 vs x _ ?_).mono ?_
 ·refine ⟨hl,fun i u hu => ?_⟩
  rw [Nat.zero_add,World.cell?_alloc_past _ _ _ (by simp),World.cell?_alloc_at _ _ _ _ rfl,HLC.out]
  simpa using hu
 rintro e w1 ⟨rfl,hb1⟩
 obtain ⟨Z,hZ,hR⟩ : ∃ Z:Array Value,Z.size = 41∧w1.heap[w.heap.size + 1]? = some (.cells Z 147 (0,0)):=by
  refine ⟨_,?_,(hb1.block _ (by simp)).trans (by rw [show w.heap.size + 1 = (w.alloc (.cells LC 147)).heap.size from by simp];exact heap_alloc_new _ _)⟩
  rfl
 have hA:w1.heap[w.heap.size]? = some (.cells LC 147 (0,0)):=by
  rw [hb1.block _ (by simp;omega),Below.heap_alloc _ _ _ (by simp)];exact heap_alloc_new _ _
 have hB:Below w.heap.size w w1:=(((Below.refl _ _).alloc (Nat.le_refl _) _).alloc (by simp) _).trans (hb1.mono (by simp;omega))
 clear hb1
 cases ht:thereE vs x
 ·have R:Hid (withoutV vs x = vs):=by rw [Hid,withoutV,ht];rfl
  have hone:LC.all (·.oneCell') = true:=by rw [HLC.out];exact cells_one hv
  have HSZ:Hid ((Tryz.prog.info? 147).map (·.size) = some LC.size):=by rw [Hid,Tryz.sizeListing,hls]
  have HZS:Hid (Z.size = LC.size):=by rw [Hid,hZ,hls]
  have HA:Hid _:=hA
  have HR:Hid _:=hR
  clear hA hR
  go_upto_region 3 with fail
  go_wp2_with (first | (refine wpList_load_row rfl 147 (.tmp 2) rfl w.heap.size rfl 147 LC (0,0) _ HA.out Tryz.underlying147 rfl HSZ.out ?_) | (refine wpList_store_row rfl 147 (.tmp 4) (.tmp 14) rfl (w.heap.size + 1) LC rfl rfl 147 Z HR.out HSZ.out HZS.out hone ?_))
  refine bodyPost_ret (v:=.agg LC) ?_ rfl ⟨?_,?_⟩
  ·rw [results_one (p:=4) (ty:=147) (by kernel_rfl)]
   have hh:=setRow_heap _ (w.heap.size + 1) Z LC 147 (0,0) HR.out
   exact run_loadVar_row _ (w.heap.size + 1) 147 147 LC (0,0) _ hh Tryz.underlying147 rfl HSZ.out
  ·rw [R.out,HLC.out]
  ·exact below_setRow hB (by omega) _
 ·have hp:posE vs x < vs.length:=by
   unfold thereE at ht
   cases hx:vs[posE vs x]? with
   | none => rw [hx] at ht;simp at ht
   | some e => exact (List.getElem?_eq_some_iff.1 hx).1
  have R:Hid (withoutV vs x = vs.eraseIdx (posE vs x)):=by rw [Hid,withoutV,if_pos ht]
  generalize hpe:posE vs x = at' at *
  have Hpe:Hid _:=hpe
  clear hpe
  have c0:=blk_cell hA 0
  have e0:LC[0]? = some (.int .i64 vs.length):=by rw [HLC.out];rfl
  rw [e0] at c0
  have i1:(0:Int) ≤ at':=by omega
  have i2:(at' : Int) + 1 ≤ (vs.length:Int):=by omega
  have i3:(vs.length:Int) ≤ 20:=by omega
  have i4:(at' : Int) ≤ 20:=by omega
  clear e0
  have hwr:IntKind.i64.wrap ((at' : Int) + 1) = (at' : Int) + 1:=IntWalk.i64_in _ (by omega)
  have hAL:Tryz.prog.arrayLen 145 = 20:=by kernel_rfl
  have i5:(0:Int) ≤ (at' : Int) + 1:=by omega
  have hfl:(flatE (vs.drop (at' + 1))).length = (vs.length - (at' + 1)) * 2:=by rw [flatE_len];simp
  have HA:Hid _:=hA
  have HR:Hid _:=hR
  clear hA hR
  have Hn:Hid ((flatE (vs.drop (at' + 1))).length = Nat.min (vs.length - (at' + 1)) (20 - at') * 2):=by rw [Hid,hfl];congr 1;exact (Nat.min_eq_left (by omega)).symm
  have Hda:Hid (0 < (flatE (vs.drop (at' + 1))).length→(if 20 = at' then (⟨w.heap.size,1,none⟩ : Addr) else ⟨w.heap.size,1 + at' * 2,none⟩) = ⟨w.heap.size,1 + at' * 2,none⟩):=by
   intro h;rw [if_neg (by omega)]
  have Hsrc:Hid (∀ j u,(flatE (vs.drop (at' + 1)))[j]? = some u→w1.drew.cell? ((if at' = 19 then (⟨w.heap.size,1,none⟩ : Addr) else ⟨w.heap.size,1 + (at' + 1) * 2,none⟩).add j) = some u):=by
   intro j u hu
   have hj:=(List.getElem?_eq_some_iff.1 hu).1
   rw [if_neg (by omega)]
   have ha:(Addr.mk w.heap.size (1 + (at' + 1) * 2) none).add j = ⟨w.heap.size,1 + (at' + 1) * 2 + j,none⟩:=by simp only [Addr.add];split <;> simp_all
   rw [ha]
   show w1.cell? _ = _
   rw [blk_cell HA.out,HLC.out]
   have e1:flatE vs = flatE (vs.take (at' + 1)) ++ flatE (vs.drop (at' + 1)):=by rw [← flatE_app,List.take_append_drop]
   have e2:(flatE (vs.take (at' + 1))).length = (at' + 1) * 2:=by rw [flatE_len];simp;omega
   rw [List.getElem?_toArray,listCells_eq,show 1 + (at' + 1) * 2 + j = ((at' + 1) * 2 + j) + 1 from by omega,List.getElem?_cons_succ,e1,List.append_assoc,List.getElem?_append_right (by omega),e2,show (at' + 1) * 2 + j - (at' + 1) * 2 = j from by omega,List.getElem?_append_left hj]
   exact hu
  have Hfit:Hid (1 + at' * 2 + (flatE (vs.drop (at' + 1))).length ≤ LC.size):=by rw [Hid,hfl,hls];omega
  have Hone:Hid (∀ u ∈ flatE (vs.drop (at' + 1)),u.oneCell' = true):=by
   intro u hu;rw [List.mem_flatMap] at hu;obtain ⟨e,he,hu⟩:=hu
   obtain ⟨t,q,h⟩:=hv e (List.mem_of_mem_drop he)
   simp at hu;rcases hu with rfl | rfl
   ·rfl
   ·rw [h];rfl
  clear hfl
  go_wp2_with fail
  go_cut [5] (fun a wc => a = .int .i64 at'∧wc.heap[w.heap.size]? = some (.cells (LC.toList.take (1 + at' * 2) ++ flatE (vs.drop (at' + 1)) ++ LC.toList.drop (1 + at' * 2 + (flatE (vs.drop (at' + 1))).length)).toArray 147 (0,0))∧wc.heap[w.heap.size + 1]? = some (.cells Z 147 (0,0))∧Below w.heap.size w wc)
  case first =>
   go_region_law (refine step_copy2v rfl (.tmp 17) (.tmp 23) 229 229 rfl 101 Tryz.underlying229 (by kernel_rfl) _ _ _ _ _ _ rfl rfl w.heap.size (1 + at' * 2) LC 147 HA.out (flatE (vs.drop (at' + 1))) Hn.out Hda.out Hsrc.out Hfit.out Hone.out ?_;intro w2 hA2 hfr2)
   all_goals (go_wp2_with fail)
   all_goals
    go_meet
    case rel => exact ⟨by first | rfl | (congr 1;omega),hA2,(hfr2.2.2.2.2 _ (by omega)).trans HR.out,hB.trans ⟨hfr2.1,hfr2.2.1,hfr2.2.2.1,by rw [hfr2.2.2.2.1];exact Nat.le_refl _,fun k hk => hfr2.2.2.2.2 k (by omega)⟩⟩
  case rest =>
   obtain ⟨rfl,hA2,hR2,hB2⟩:=hcut
   have hsh:=erase_cells hp hl (.int .i64 ((vs.length:Int) - 1))
   have hLCl:LC.toList = listCells vs:=by rw [HLC.out]
   rw [hLCl] at hA2
   have hle1:(vs.eraseIdx at').length = vs.length - 1:=by rw [List.length_eraseIdx,if_pos hp]
   have hN:((listCells vs).take (1 + at' * 2) ++ flatE (vs.drop (at' + 1)) ++ (listCells vs).drop (1 + at' * 2 + (flatE (vs.drop (at' + 1))).length)).length = 41:=by
    have h1:=congrArg List.length hsh
    have e1:(flatE (vs.eraseIdx at')).length = (vs.length - 1) * 2:=by rw [flatE_len,hle1]
    simp only [List.length_set,List.length_cons,List.length_append] at h1
    rw [e1,padE_len] at h1
    simp only [List.length_append];omega
   have hc0' : ((listCells vs).take (1 + at' * 2) ++ flatE (vs.drop (at' + 1)) ++ (listCells vs).drop (1 + at' * 2 + (flatE (vs.drop (at' + 1))).length))[0]? = some (.int .i64 vs.length):=by
    rw [listCells_eq,show 1 + at' * 2 = (at' * 2) + 1 from by omega,List.take_succ_cons];rfl
   generalize ((listCells vs).take (1 + at' * 2) ++ flatE (vs.drop (at' + 1)) ++ (listCells vs).drop (1 + at' * 2 + (flatE (vs.drop (at' + 1))).length)) = NC at *
   obtain ⟨m,hm⟩ : ∃ m,vs.length = m + 1:=⟨vs.length - 1,by omega⟩
   have hm2:vs.length - 1 = m:=by omega
   rw [hm2] at hsh hle1
   have hidx:(m:Int) < 20:=by omega
   have hI:((vs.length:Int) - 1) = m:=by omega
   rw [hI] at hsh
   have hLF:((NC.toArray.setIfInBounds 0 (.int .i64 m)).setIfInBounds (1 + m * 2) (SV [])).setIfInBounds (1 + m * 2 + 1) .nilIface = (listCells (vs.eraseIdx at')).toArray:=by
    rw [listCells_eq,hle1]
    have:=congrArg List.toArray hsh
    simpa using this
   have k0:wc.cell? ⟨w.heap.size,0,none⟩ = some (.int .i64 ((m:Int) + 1)):=(blk_cell hA2 0).trans (by rw [hm] at hc0';simpa using hc0')
   obtain ⟨y1,k1⟩ : ∃ y,wc.cell? ⟨w.heap.size,1 + m * 2,none⟩ = some y:=⟨_,(blk_cell hA2 (1 + m * 2)).trans (by rw [List.getElem?_toArray,List.getElem?_eq_getElem (by omega)])⟩
   obtain ⟨y2,k2⟩ : ∃ y,wc.cell? ⟨w.heap.size,1 + m * 2 + 1,none⟩ = some y:=⟨_,(blk_cell hA2 (1 + m * 2 + 1)).trans (by rw [List.getElem?_toArray,List.getElem?_eq_getElem (by omega)])⟩
   have z0:=blk_free hA2 0
   have z1:=blk_free hA2 (1 + m * 2)
   have z2:=blk_free hA2 (1 + m * 2 + 1)
   have hA3:=setCell_blk (i:=1 + m * 2 + 1) (setCell_blk (i:=1 + m * 2) (setCell_blk (i:=0) hA2 (.int .i64 (m:Int))) (SV [])) .nilIface
   rw [hLF] at hA3
   have hR3:(((wc.setCell ⟨w.heap.size,0,none⟩ (.int .i64 (m:Int))).setCell ⟨w.heap.size,1 + m * 2,none⟩ (SV [])).setCell ⟨w.heap.size,1 + m * 2 + 1,none⟩ .nilIface).heap[w.heap.size + 1]? = some (.cells Z 147 (0,0)):=by
    rw [Below.heap_setCell _ _ _ _ (by simp),Below.heap_setCell _ _ _ _ (by simp),Below.heap_setCell _ _ _ _ (by simp)];exact hR2
   have hl3:(vs.eraseIdx at').length ≤ 20:=by omega
   have hone:(listCells (vs.eraseIdx at')).toArray.all (·.oneCell') = true:=cells_one fun e he => hv e (List.mem_of_mem_eraseIdx he)
   have hsz:(Tryz.prog.info? 147).map (·.size) = some (listCells (vs.eraseIdx at')).toArray.size:=by
    rw [Tryz.sizeListing,List.size_toArray,listCells_len hl3]
   have hzs:Z.size = (listCells (vs.eraseIdx at')).toArray.size:=by
    rw [hZ,List.size_toArray,listCells_len hl3]
   generalize hF:(listCells (vs.eraseIdx at')).toArray = LF at *
   have HF:Hid _:=hF
   have HA3:Hid _:=hA3
   have HR3:Hid _:=hR3
   have HSZ:Hid _:=hsz
   have HZS:Hid _:=hzs
   have Hm:Hid _:=hm
   clear hF hLF hA3 hR3 hsz hzs hA2 hR2 hsh hN hc0' hLCl c0 hwr hAL hm hm2 hI hle1
   go_upto_region 7 with fail
   go_wp2_with (first | (refine wpList_load_row rfl 147 (.tmp 2) rfl w.heap.size rfl 147 LF (0,0) _ HA3.out Tryz.underlying147 rfl HSZ.out ?_) | (refine wpList_store_row rfl 147 (.tmp 4) (.tmp 34) rfl (w.heap.size + 1) LF rfl rfl 147 Z HR3.out HSZ.out HZS.out hone ?_))
   refine bodyPost_ret (v:=.agg LF) ?_ rfl ⟨?_,?_⟩
   ·rw [results_one (p:=4) (ty:=147) (by kernel_rfl)]
    have hh:=setRow_heap _ (w.heap.size + 1) Z LF 147 (0,0) HR3.out
    exact run_loadVar_row _ (w.heap.size + 1) 147 147 LF (0,0) _ hh Tryz.underlying147 rfl HSZ.out
   ·rw [R.out,HF.out]
   ·exact below_setRow (((hB2.setCell (Nat.le_refl _) _).setCell (Nat.le_refl _) _).setCell (Nat.le_refl _) _) (by omega) _

open Go.RowKit
theorem wpList_load_cells {P:Program} {ops:Array Oper} {rest:List Oper} {o:Oper} {a:Act} {w:World} {Q:Exit→Act→World→Prop} (hgd:o.guard = none) (ty:TypeId) (x:Operand) (ho:o.op = .load ty x)
  (ad:Addr) (hx:a.eval x = .pointer (some ad)) (cs:List Value) (d:TypeDesc) (hc:∀ j v,cs[j]? = some v→w.cell? (ad.add j) = some v)
  (hu:P.underlying ty = some d) (hd:(match d with | .struct _ | .array _ _ => true | _ => false) = true) (hi:(P.info? ty).map (·.size) = some cs.length)
  (h:wpList P ops Q rest (a.put o.dst (.agg cs.toArray)) w):wpList P ops Q (o :: rest) a w:=by
 refine wpList_plain hgd fun K hK => ?_
 have hl:=run_loadCells_list (P:=P) w ad cs hc
 have hrun:(loadVar ty ad).run P w = .ok (.agg cs.toArray) w:=by
  cases hq:P.info? ty with
  | none => simp [hq] at hi
  | some i =>
   have hs:i.size = cs.length:=by simpa [hq] using hi
   have hagg:(isAgg ty).run P w = .ok true w:=by
    unfold isAgg
    rw [Sem.run_bind,run_underlying hu w]
    cases d <;> simp_all
   simp [loadVar,Sem.run_bind,hagg,sizeOf,typeInfo,hq,hs,hl]
 unfold Oper.wp execOp
 simp only [ho,hx,Instr.loadAt,Instr.sureAddr,Sem.run_bind,Sem.run_pure,Result.andThen_ok,hrun]
 exact hK _ _ h
theorem withV_less {y x:Str} {u v:Value} {vs:List (Str × Value)} (h:Op.bytesLess y x = true):withV ((y,u) :: vs) x v = (y,u) :: withV vs x v:=by
 have e1:posE ((y,u) :: vs) x = posE vs x + 1:=by rw [posE,if_pos h]
 have e2:thereE ((y,u) :: vs) x = thereE vs x:=by unfold thereE;rw [e1];rfl
 unfold withV;rw [e1,e2];split <;> simp
theorem withV_not {y x:Str} {u v:Value} {vs:List (Str × Value)} (h:¬ Op.bytesLess y x = true):withV ((y,u) :: vs) x v = if y = x then (x,v) :: vs else (x,v) :: (y,u) :: vs:=by
 have e1:posE ((y,u) :: vs) x = 0:=by rw [posE,if_neg h]
 have e2:thereE ((y,u) :: vs) x = (y == x):=by unfold thereE;rw [e1];rfl
 unfold withV;rw [e1,e2]
 by_cases e:y = x
 ·rw [if_pos (by simpa using e),if_pos e];rfl
 ·rw [if_neg (by simpa using e),if_neg e];rfl
theorem rep_with {w:World} {Q:Nat→Int→Prop} {vs:List (Str × Value)} {es:Ents} (h:RepE w Q vs es) {x:Str} {v:Value} {t:Tree} (ht:RepT w Q v t):RepE w Q (withV vs x v) (withE es x t):=by
 induction vs generalizing es with
 | nil => cases h;exact .cons ht .nil
 | cons f vs ih =>
  cases h with
  | @cons y u s _ es h hs =>
   by_cases hl:Op.bytesLess y x = true
   ·rw [withV_less hl,withE,if_neg (bl_ne hl),if_pos hl]
    exact .cons h (ih hs)
   ·rw [withV_not hl,withE]
    by_cases e:y = x
    ·rw [if_pos e,if_pos e];exact .cons ht hs
    ·rw [if_neg e,if_neg e,if_neg hl];exact .cons ht (.cons h hs)
theorem there_iff {w:World} {Q:Nat→Int→Prop} {vs:List (Str × Value)} {es:Ents} (h:RepE w Q vs es) (hw:WFE es) (x:Str):thereE vs x = (findE es x).isSome:=by
 induction vs generalizing es with
 | nil => cases h;rfl
 | cons f vs ih =>
  cases h with
  | @cons y u s _ es h hs =>
   unfold WFE at hw
   by_cases hl:Op.bytesLess y x = true
   ·have e1:posE ((y,u) :: vs) x = posE vs x + 1:=by rw [posE,if_pos hl]
    have e2:thereE ((y,u) :: vs) x = thereE vs x:=by unfold thereE;rw [e1];rfl
    rw [e2,ih hs hw.2.2.2,findE,if_neg (bl_ne hl)]
   ·have e1:posE ((y,u) :: vs) x = 0:=by rw [posE,if_neg hl]
    have e2:thereE ((y,u) :: vs) x = (y == x):=by unfold thereE;rw [e1];rfl
    rw [e2,findE]
    by_cases e:y = x
    ·rw [if_pos e];simp [e]
    ·rw [if_neg e,findE_none]
     ·simp [e]
     ·intro z hz e2;have h1:=hw.2.2.1 z hz;rw [e2] at h1;exact hl h1
theorem rep_without {w:World} {Q:Nat→Int→Prop} {vs:List (Str × Value)} {es:Ents} (h:RepE w Q vs es) (hw:WFE es) (x:Str):RepE w Q (withoutV vs x) (withoutE es x):=by
 induction vs generalizing es with
 | nil => cases h;exact .nil
 | cons f vs ih =>
  cases h with
  | @cons y u s _ es h hs =>
   have hw0:=hw
   unfold WFE at hw
   have ih:=ih hs hw.2.2.2
   by_cases hl:Op.bytesLess y x = true
   ·have e1:posE ((y,u) :: vs) x = posE vs x + 1:=by rw [posE,if_pos hl]
    have e2:thereE ((y,u) :: vs) x = thereE vs x:=by unfold thereE;rw [e1];rfl
    have e3:withoutV ((y,u) :: vs) x = (y,u) :: withoutV vs x:=by unfold withoutV;rw [e1,e2];split <;> simp
    have e4:withoutE ((y,s) :: es) x = (y,s) :: withoutE es x:=by
     unfold withoutE;rw [List.filter_cons,if_pos (by simpa using bl_ne hl)]
    rw [e3,e4];exact .cons h ih
   ·have e1:posE ((y,u) :: vs) x = 0:=by rw [posE,if_neg hl]
    have e2:thereE ((y,u) :: vs) x = (y == x):=by unfold thereE;rw [e1];rfl
    have hall:x = y∨Op.bytesLess x y = true:=by
     by_cases e:y = x
     ·exact .inl e.symm
     ·exact .inr (bl_total (by simpa using hl) e)
    have hno:∀ z ∈ es,z.1 ≠ x:=by
     intro z hz e2
     have h1:=hw.2.2.1 z hz
     rw [e2] at h1;exact hl h1
    have hkeep:withoutE es x = es:=by
     unfold withoutE;rw [List.filter_eq_self];intro z hz;simpa using hno z hz
    by_cases e:y = x
    ·have e3:withoutV ((y,u) :: vs) x = vs:=by unfold withoutV;rw [e1,e2,if_pos (by simpa using e)];rfl
     have e4:withoutE ((y,s) :: es) x = es:=by
      have:withoutE ((y,s) :: es) x = withoutE es x:=by unfold withoutE;rw [List.filter_cons,if_neg (by simp [e])]
      rw [this,hkeep]
     rw [e3,e4];exact hs
    ·have e3:withoutV ((y,u) :: vs) x = (y,u) :: vs:=by unfold withoutV;rw [e1,e2,if_neg (by simpa using e)]
     have e4:withoutE ((y,s) :: es) x = (y,s) :: es:=by
      have:withoutE ((y,s) :: es) x = (y,s) :: withoutE es x:=by unfold withoutE;rw [List.filter_cons,if_pos (by simpa using e)]
      rw [this,hkeep]
     rw [e3,e4];exact .cons h hs
theorem entries_le {es:Ents} (h:WFE es):es.length ≤ (filesE es).length:=by
 induction es with
 | nil => simp
 | cons e es ih =>
  obtain ⟨x,t⟩:=e
  unfold WFE at h
  have h1:=ih h.2.2.2
  have h2:1 ≤ (filesT t).length:=by
   obtain ⟨p,d,hp⟩:=WFT.some t h.2.1
   have:(p,d) ∈ filesT t:=by
    rw [mem_filesT t h.2.1];unfold fileAt at hp;split at hp
    ·rename_i hx;simp at hp;rw [hx,hp]
    ·simp at hp
   exact List.length_pos_of_mem this
  simp only [filesE,List.length_append,List.length_map,List.length_cons];omega
def BelowOut (w:World) (Q:Nat→Int→Prop) (es:Ents) (e:Ending) (w' : World):Prop :=
 ∃ b u vs,e = .returned (.pointer (some ⟨b,0,none⟩))∧DirAt w' b u vs∧RepE w' Q vs es∧Below w.heap.size w w'
set_option maxHeartbeats 2000000 in
theorem below_dir (Q:Nat→Int→Prop) (b:Nat) (u:Int) (vs:List (Str × Value)) (es:Ents) (x:Str) (w:World) (h:DirAt w b u vs) (he:RepE w Q vs es) (hw:WFE es) :
  Calls Tryz.prog 93 #[.pointer (some ⟨b,0,none⟩),SV x] w fun e w' => BelowOut w Q (belowE es x) e w':=by
 have hF:=rep_find he hw x
 have hL:=h.list
 have hbl:=h.lt
 have hforms:=he.forms
 go_enter Tryz.func93,Tryz.ntmps93
 go_wp2_with fail
 refine (find_list b 1 vs x _ hL hbl hforms).mono ?_
 rintro e w1 ⟨rfl,hb1⟩
 generalize valE vs x = v at *
 clear hL hforms h he
 cases hf:findE es x with
 | none =>
  rw [hf] at hF
  cases hF
  have R:Hid (belowE es x = []):=by rw [Hid,belowE,hf]
  have a2:=Tryz.assertNil2
  clear hf
  go_wp2
  go_ret
  refine ⟨w1.heap.size,0,[],rfl,⟨by simp,?_⟩,by rw [R.out];exact .nil,hb1.trans ((Below.refl _ _).alloc hb1.size _)⟩
  exact heap_alloc_new _ _
 | some t =>
  rw [hf] at hF
  cases hF with
  | @file b2 u2 d2 h2 hq2 =>
   have R:Hid (belowE es x = []):=by rw [Hid,belowE,hf]
   have a2:=Tryz.assertFileNo
   clear hf h2
   go_wp2
   go_ret
   refine ⟨w1.heap.size,0,[],rfl,⟨by simp,?_⟩,by rw [R.out];exact .nil,hb1.trans ((Below.refl _ _).alloc hb1.size _)⟩
   exact heap_alloc_new _ _
  | @dir b2 u2 vs2 es2 h2 hq2 he2 =>
   have R:Hid (belowE es x = es2):=by rw [Hid,belowE,hf]
   have a2:=Tryz.assertDir
   have H2:Hid (DirAt w b2 u2 vs2):=h2
   clear hf h2
   go_wp2
   go_ret
   exact ⟨b2,u2,vs2,rfl,DirAt.below H2.out hb1 (Nat.le_refl _),by rw [R.out];exact he2.later hb1 (Nat.le_refl _),hb1⟩

open Go.RowKit
def PutOut (w:World) (Q:Nat→Int→Prop) (es:Ents) (e:Ending) (w' : World):Prop :=
 ∃ b vs,w.heap.size ≤ b∧e = .returned (.pointer (some ⟨b,0,none⟩))∧DirAt w' b 0 vs∧RepE w' Q vs es∧Below w.heap.size w w'
theorem with_len {es:Ents} {x:Str} {t:Tree} (h:findE es x = none):(withE es x t).length = es.length + 1:=by
 induction es with
 | nil => rfl
 | cons e es ih =>
  obtain ⟨y,u⟩:=e
  rw [findE] at h
  by_cases h1:y = x
  ·rw [if_pos h1] at h;simp at h
  ·rw [if_neg h1] at h
   rw [withE,if_neg h1]
   by_cases h2:Op.bytesLess y x = true
   ·rw [if_pos h2,List.length_cons,ih h];rfl
   ·rw [if_neg h2];rfl
theorem withV_len {vs:List (Str × Value)} {x:Str} {v:Value} (hl:vs.length ≤ 20) (hroom:thereE vs x = false→vs.length < 20):(withV vs x v).length ≤ 20:=by
 unfold withV
 cases h:thereE vs x
 ·have:=hroom h;have:=posE_le vs x;simp;omega
 ·simp;exact hl
theorem fold_zip (L:List Value):∀ (A:Array Value) (i:Nat),A.size = 1 + i + L.length→(L.zipIdx i).foldl (fun cs x => cs.setIfInBounds (1 + x.2) x.1) A = (A.toList.take (1 + i) ++ L).toArray:=by
 induction L with
 | nil =>
  intro A i h
  simp only [List.length_nil,Nat.add_zero] at h
  simp only [List.zipIdx_nil,List.foldl_nil,List.append_nil]
  rw [List.take_of_length_le (by simp;omega)]
 | cons v L ih =>
  intro A i h
  simp only [List.length_cons] at h
  rw [List.zipIdx_cons,List.foldl_cons,ih _ (i + 1) (by simp;omega)]
  congr 1
  have h1:(A.setIfInBounds (1 + i) v).toList = A.toList.set (1 + i) v:=by simp
  rw [h1,show 1 + (i + 1) = (1 + i) + 1 from by omega,List.take_succ_eq_append_getElem (by simp;omega),List.take_set_of_le (Nat.le_refl _)]
  simp
theorem fold_dir {A:Array Value} {L:List Value} (h:A.size = 42) (hl:L.length = 41) (h0:A.toList.take 1 = [.int .i64 0]):L.zipIdx.foldl (fun cs x => cs.setIfInBounds (1 + x.2) x.1) A = (Value.int .i64 0 :: L).toArray:=by
 rw [fold_zip L A 0 (by omega),h0];rfl
theorem Hid.mk' {p:Prop} (h:p):Hid p:=h
set_option maxHeartbeats 4000000 in
set_option maxRecDepth 50000 in
theorem put_one (Q:Nat→Int→Prop) (b:Nat) (u:Int) (vs:List (Str × Value)) (es:Ents) (x:Str) (k n:Nat) (t:Tree) (nv:Value) (w:World) (h:DirAt w b u vs) (he:RepE w Q vs es)
  (hn:NamesAt w nv [x]) (hr:RepT w Q (.iface k (.pointer (some ⟨n,0,none⟩))) t) (hroom:thereE vs x = false→vs.length < 20) :
  Calls Tryz.prog 64 #[.pointer (some ⟨b,0,none⟩),nv,.iface k (.pointer (some ⟨n,0,none⟩))] w fun e w' => PutOut w Q (withE es x t) e w':=by
 have hL:=h.list
 have hbl:=h.lt
 have hforms:=he.forms
 have hl20:=h.1
 obtain ⟨ao,cap,rfl,hc,hm⟩:=names_form hn
 have ha:∃ a,ao = some a:=by
  obtain ⟨ao',cap',h1,_,_,h4⟩:=hn
  simp only [Value.slice.injEq] at h1
  obtain ⟨g,o,h5,_⟩:=h4 0 (by simp)
  exact ⟨_,h1.1.trans h5⟩
 obtain ⟨a,rfl⟩:=ha
 obtain ⟨g,o,rfl,_,hnc,hcm,hg,hcx,_⟩:=names_tail hn
 unfold maxLen at hcm
 have hcap1:(1:Int) ≤ (cap:Int):=by simp at hnc;omega
 have HE:Hid (RepE w Q vs es):=he
 have HR:Hid (RepT w Q (.iface k (.pointer (some ⟨n,0,none⟩))) t):=hr
 have hcells:∀ W:World,Like W w→∀ j v,(listCells vs)[j]? = some v→W.cell? ((⟨b,1,none⟩ : Addr).add j) = some v:=by
  intro W hW j v hj
  have hadd:(⟨b,1,none⟩ : Addr).add j = ⟨b,1 + j,none⟩:=by unfold Addr.add;split <;> simp_all
  rw [hadd,World.cell?_of_block (w:=w) (by rw [hW.heap])]
  exact hL.cell j v hj
 have HC:Hid _:=hcells
 have HSZ:Hid ((Tryz.prog.info? 147).map (·.size) = some (listCells vs).length):=by rw [Hid,Tryz.sizeListing,listCells_len hl20]
 have hwl:=listCells_len (withV_len (v:=.iface k (.pointer (some ⟨n,0,none⟩))) hl20 hroom)
 have HWL:Hid _:=withV_len (v:=.iface k (.pointer (some ⟨n,0,none⟩))) hl20 hroom
 clear hn h he hr hL hcells
 go_enter Tryz.func64,Tryz.ntmps64
 go_wp2
 go_quiet (fail)
 go_upto_region 4 with fail
 go_wp2_with (first | (refine wpList_load_cells rfl 147 (.tmp 26) rfl ⟨b,1,none⟩ rfl (listCells vs) _ ?_ Tryz.underlying147 rfl HSZ.out ?_;exact HC.out _ ⟨rfl,rfl,rfl,rfl⟩) | (go_at_call 94;refine (with_any vs x k n _ hforms hl20 hroom).mono ?_;rintro e w2 ⟨rfl,hb2⟩;generalize hLW:listCells (withV vs x (.iface k (.pointer (some ⟨n,0,none⟩)))) = LW at *;have HLW:=Hid.mk' hLW;clear hLW))
 all_goals
  go_ret
  refine ⟨w2.heap.size,withV vs x (.iface k (.pointer (some ⟨n,0,none⟩))),hb2.size,rfl,⟨HWL.out,?_⟩,rep_with ?_ ?_,?_⟩
  ·rw [heap_alloc_new,fold_dir rfl hwl rfl,HLW.out]
  ·exact HE.out.later (((below_drewN (Below.refl w.heap.size w) _).trans hb2).alloc hb2.size _) (Nat.le_refl _)
  ·exact HR.out.later (((below_drewN (Below.refl w.heap.size w) _).trans hb2).alloc hb2.size _) (Nat.le_refl _)
  ·exact ((below_drewN (Below.refl w.heap.size w) _).trans hb2).alloc hb2.size _
theorem with_files_le {es:Ents} {x:Str} {t:Tree}:(filesT t).length ≤ (filesE (withE es x t)).length:=by
 induction es with
 | nil => simp [withE,filesE]
 | cons e es ih =>
  obtain ⟨y,u⟩:=e
  rw [withE]
  split
  ·simp [filesE]
  ·split
   ·simp only [filesE,List.length_append];omega
   ·simp only [filesE,List.length_append,List.length_map];omega
theorem room_of {w:World} {Q:Nat→Int→Prop} {vs:List (Str × Value)} {es:Ents} {x:Str} {t:Tree} (he:RepE w Q vs es) (hw:WFE es) (hx:isNameL x false = true) (ht:WFT t) (hf:(filesE (withE es x t)).length ≤ 20):thereE vs x = false→vs.length < 20:=by
 intro h
 rw [there_iff he hw] at h
 have h1:findE es x = none:=by cases hh:findE es x;rfl;rw [hh] at h;simp at h
 have h2:=with_len (t:=t) h1
 have h3:=entries_le (with_wf hw hx ht)
 have:=he.len
 omega

open Go.RowKit
set_option maxHeartbeats 8000000 in
set_option maxRecDepth 50000 in
theorem putDir_any (Q:Nat→Int→Prop) (q:List Str):∀ (b:Nat) (u:Int) (vs:List (Str × Value)) (es:Ents) (k n:Nat) (t:Tree) (nv:Value) (w:World),q ≠ []→DirAt w b u vs→RepE w Q vs es→WFE es →
  NamesAt w nv q→RepT w Q (.iface k (.pointer (some ⟨n,0,none⟩))) t→WFT t→(∀ x ∈ q,isNameL x false = true)→(filesE (putE es q t)).length ≤ 20→(∀ j,w.heap.size ≤ j→Q j 0) →
  Calls Tryz.prog 64 #[.pointer (some ⟨b,0,none⟩),nv,.iface k (.pointer (some ⟨n,0,none⟩))] w fun e w' => PutOut w Q (putE es q t) e w':=by
 induction q with
 | nil => intro b u vs es k n t nv w h;exact absurd rfl h
 | cons x r ih =>
  intro b u vs es k n t nv w _ h he hw hn hr ht hok hfit hQ
  cases r with
  | nil => rw [putE] at hfit ⊢;exact put_one Q b u vs es x k n t nv w h he hn hr (room_of he hw (hok x (by simp)) ht hfit)
  | cons y r =>
   have Hput:Hid (putE es (x :: y :: r) t = withE es x (.dir (putE (belowE es x) (y :: r) t))):=by rw [Hid,putE]
   have hin:=put_wf (q:=y :: r) (belowE_wf hw x) (fun z hz => hok z (by simp [hz])) ht
   have hwd:WFT (.dir (putE (belowE es x) (y :: r) t)):=by unfold WFT;exact ⟨hin.2 (by simp),hin.1⟩
   rw [Hput.out] at hfit
   have hfi:(filesE (putE (belowE es x) (y :: r) t)).length ≤ 20:=by
    have:=with_files_le (es:=es) (x:=x) (t:=.dir (putE (belowE es x) (y :: r) t))
    rw [filesT] at this;omega
   have hroom:=room_of he hw (hok x (by simp)) hwd hfit
   have hL:=h.list
   have hbl:=h.lt
   have hforms:=he.forms
   have hl20:=h.1
   obtain ⟨ao,cap,rfl,hc,hm⟩:=names_form hn
   have ha:∃ a,ao = some a:=by
    obtain ⟨ao',cap',h1,_,_,h4⟩:=hn
    simp only [Value.slice.injEq] at h1
    obtain ⟨g,o,h5,_⟩:=h4 0 (by simp)
    exact ⟨_,h1.1.trans h5⟩
   obtain ⟨a,rfl⟩:=ha
   obtain ⟨g,o,rfl,hnn,hnc,hcm,hg,hcx,htail⟩:=names_tail hn
   have hcap2:(r.length + 1 + 1:Nat) ≤ cap:=by simpa using hnc
   have HD:Hid (DirAt w b u vs):=h
   have HE:Hid (RepE w Q vs es):=he
   have HR:Hid (RepT w Q (.iface k (.pointer (some ⟨n,0,none⟩))) t):=hr
   have HT:Hid (∀ W,Below w.heap.size w W→NamesAt W (.slice (some ⟨g,o + 1,none⟩) (r.length + 1) (cap - 1)) (y :: r)):=by
    intro W hW
    exact names_below (htail (some ⟨g,o + 1,none⟩) (cap - 1) (r.length + 1) (fun _ => rfl) (by simp) (by omega) (by omega)) hW (Nat.le_refl _)
   have HI:Hid _:=ih
   have HQ:Hid (∀ j,w.heap.size ≤ j→Q j 0):=hQ
   have hc1:¬ cap = 1:=by omega
   have hc2:¬ (cap:Int) = 1:=by omega
   have hcap1:(1:Int) ≤ (r.length:Int) + 1 + 1:=by omega
   have hcapI:(r.length:Int) + 1 + 1 ≤ (cap:Int):=by omega
   unfold maxLen at hcm
   clear hn h he hr htail ih hQ hnn hnc hc hin hfit
   go_enter Tryz.func64,Tryz.ntmps64
   go_wp2
   go_quiet (fail)
   go_wp2_with fail
   have hq0:Below w.heap.size w (w.drewN nq):=below_drewN (Below.refl w.heap.size w) _
   refine (below_dir Q b u vs es x _ (HD.out.below hq0 (Nat.le_refl _)) (HE.out.later hq0 (Nat.le_refl _)) hw).mono ?_
   rintro e w1 ⟨b2,u2,vs2,rfl,hd2,he2,hb2⟩
   have hb1:Below w.heap.size w w1:=hq0.trans (hb2.mono hq0.size)
   have HB1:Hid (Below w.heap.size w w1):=hb1
   have HD2:Hid (DirAt w1 b2 u2 vs2):=hd2
   have HE2:Hid (RepE w1 Q vs2 (belowE es x)):=he2
   clear hd2 he2 hb2 hq0 hb1
   go_wp2_with fail
   refine (HI.out b2 u2 vs2 (belowE es x) k n t _ _ (by simp) HD2.out HE2.out (belowE_wf hw x) (HT.out _ HB1.out) (HR.out.later HB1.out (Nat.le_refl _)) ht (fun z hz => hok z (by simp [hz])) hfi (fun j hj => HQ.out j (Nat.le_trans HB1.out.size hj))).mono ?_
   rintro e w3 ⟨b3,vs3,hb3,rfl,hd3,he3,hbb3⟩
   have hb13:Below w.heap.size w w3:=HB1.out.trans (hbb3.mono HB1.out.size)
   have HB3:Hid (Below w.heap.size w w3):=hb13
   have HRD:Hid (RepT w3 Q (.iface 89 (.pointer (some ⟨b3,0,none⟩))) (.dir (putE (belowE es x) (y :: r) t))):=.dir hd3 (HQ.out b3 (Nat.le_trans HB1.out.size hb3)) he3
   have hL3:ListAt w3 b 1 vs:=(HD.out.below hb13 (Nat.le_refl _)).list
   have hcells:∀ W:World,Like W w3→∀ j v,(listCells vs)[j]? = some v→W.cell? ((⟨b,1,none⟩ : Addr).add j) = some v:=by
    intro W hW j v hj
    have hadd:(⟨b,1,none⟩ : Addr).add j = ⟨b,1 + j,none⟩:=by unfold Addr.add;split <;> simp_all
    rw [hadd,World.cell?_of_block (w:=w3) (by rw [hW.heap])]
    exact hL3.cell j v hj
   have HC:Hid _:=hcells
   have HSZ:Hid ((Tryz.prog.info? 147).map (·.size) = some (listCells vs).length):=by rw [Hid,Tryz.sizeListing,listCells_len hl20]
   have hwl:=listCells_len (withV_len (v:=.iface 89 (.pointer (some ⟨b3,0,none⟩))) hl20 hroom)
   have HWL:Hid _:=withV_len (v:=.iface 89 (.pointer (some ⟨b3,0,none⟩))) hl20 hroom
   have hbl3:b < w3.heap.size:=Nat.lt_of_lt_of_le hbl hb13.size
   clear hb3 hd3 he3 hbb3 hb13 hL3 hcells hL hg hcx HD2 HE2 HB1 HT HI hbl
   go_upto_region 4 with fail
   go_wp2_with (first | (refine wpList_load_cells rfl 147 (.tmp 26) rfl ⟨b,1,none⟩ rfl (listCells vs) _ ?_ Tryz.underlying147 rfl HSZ.out ?_;exact HC.out _ ⟨rfl,rfl,rfl,rfl⟩) | (go_at_call 94;refine (with_any vs x 89 b3 _ hforms hl20 hroom).mono ?_;rintro e w2 ⟨rfl,hb2⟩;generalize hLW:listCells (withV vs x (.iface 89 (.pointer (some ⟨b3,0,none⟩)))) = LW at *;have HLW:=Hid.mk' hLW;clear hLW))
   all_goals
    go_ret
    have hbe:Below w.heap.size w w2:=HB3.out.trans (hb2.mono HB3.out.size)
    have hbe':=hbe.alloc hbe.size
    refine ⟨w2.heap.size,withV vs x (.iface 89 (.pointer (some ⟨b3,0,none⟩))),hbe.size,rfl,⟨HWL.out,?_⟩,Hput.out ▸ rep_with ?_ ?_,?_⟩
    ·rw [heap_alloc_new,fold_dir rfl hwl rfl,HLW.out]
    ·exact HE.out.later (hbe' _) (Nat.le_refl _)
    ·exact HRD.out.later (hb2.alloc hb2.size _) (Nat.le_refl _)
    ·exact hbe' _

open Go.RowKit
theorem withoutV_len {vs:List (Str × Value)} {x:Str} (hl:vs.length ≤ 20):(withoutV vs x).length ≤ 20:=by
 unfold withoutV
 split
 ·rw [List.length_eraseIdx];split <;> omega
 ·exact hl
theorem removeE_nil (q:List Str):removeE [] q = []:=by
 induction q with
 | nil => rfl
 | cons x r ih =>
  cases r with
  | nil => rfl
  | cons y r =>
   rw [removeE]
   have:belowE [] x = []:=rfl
   rw [this,ih,if_pos rfl];rfl
theorem findE_some_of_below {es:Ents} {x:Str} (h:belowE es x ≠ []):(findE es x).isSome = true:=by
 unfold belowE at h
 cases hf:findE es x with
 | none => rw [hf] at h;exact absurd rfl h
 | some t => rfl
set_option maxHeartbeats 4000000 in
set_option maxRecDepth 50000 in
theorem remove_one (Q:Nat→Int→Prop) (b:Nat) (u:Int) (vs:List (Str × Value)) (es:Ents) (x:Str) (nv:Value) (w:World) (h:DirAt w b u vs) (he:RepE w Q vs es) (hw:WFE es)
  (hn:NamesAt w nv [x]) :
  Calls Tryz.prog 66 #[.pointer (some ⟨b,0,none⟩),nv] w fun e w' => PutOut w Q (withoutE es x) e w':=by
 have hL:=h.list
 have hbl:=h.lt
 have hforms:=he.forms
 have hl20:=h.1
 obtain ⟨ao,cap,rfl,hc,hm⟩:=names_form hn
 have ha:∃ a,ao = some a:=by
  obtain ⟨ao',cap',h1,_,_,h4⟩:=hn
  simp only [Value.slice.injEq] at h1
  obtain ⟨g,o,h5,_⟩:=h4 0 (by simp)
  exact ⟨_,h1.1.trans h5⟩
 obtain ⟨a,rfl⟩:=ha
 obtain ⟨g,o,rfl,_,hnc,hcm,hg,hcx,_⟩:=names_tail hn
 unfold maxLen at hcm
 have hcap1:(1:Int) ≤ (cap:Int):=by simp at hnc;omega
 have HE:Hid (RepE w Q vs es):=he
 have hcells:∀ W:World,Like W w→∀ j v,(listCells vs)[j]? = some v→W.cell? ((⟨b,1,none⟩ : Addr).add j) = some v:=by
  intro W hW j v hj
  have hadd:(⟨b,1,none⟩ : Addr).add j = ⟨b,1 + j,none⟩:=by unfold Addr.add;split <;> simp_all
  rw [hadd,World.cell?_of_block (w:=w) (by rw [hW.heap])]
  exact hL.cell j v hj
 have HC:Hid _:=hcells
 have HSZ:Hid ((Tryz.prog.info? 147).map (·.size) = some (listCells vs).length):=by rw [Hid,Tryz.sizeListing,listCells_len hl20]
 have hwl:=listCells_len (withoutV_len (x:=x) hl20)
 have HWL:Hid _:=withoutV_len (x:=x) hl20
 clear hn h he hL hcells
 go_enter Tryz.func66,Tryz.ntmps66
 go_wp2
 go_quiet (fail)
 go_upto_region 6 with fail
 go_wp2_with (first | (refine wpList_load_cells rfl 147 (.tmp 39) rfl ⟨b,1,none⟩ rfl (listCells vs) _ ?_ Tryz.underlying147 rfl HSZ.out ?_;exact HC.out _ ⟨rfl,rfl,rfl,rfl⟩) | (go_at_call 96;refine (without_list vs x _ hforms hl20).mono ?_;rintro e w2 ⟨rfl,hb2⟩;generalize hLW:listCells (withoutV vs x) = LW at *;have HLW:=Hid.mk' hLW;clear hLW))
 all_goals
  go_ret
  refine ⟨w2.heap.size,withoutV vs x,hb2.size,rfl,⟨HWL.out,?_⟩,rep_without ?_ hw x,?_⟩
  ·rw [heap_alloc_new,fold_dir rfl hwl rfl,HLW.out]
  ·exact HE.out.later (((below_drewN (Below.refl w.heap.size w) _).trans hb2).alloc hb2.size _) (Nat.le_refl _)
  ·exact ((below_drewN (Below.refl w.heap.size w) _).trans hb2).alloc hb2.size _
set_option maxHeartbeats 8000000 in
set_option maxRecDepth 50000 in
theorem removeDir_any (Q:Nat→Int→Prop) (q:List Str):∀ (b:Nat) (u:Int) (vs:List (Str × Value)) (es:Ents) (nv:Value) (w:World),q ≠ []→DirAt w b u vs→RepE w Q vs es→WFE es →
  NamesAt w nv q→(∀ j,w.heap.size ≤ j→Q j 0) →
  Calls Tryz.prog 66 #[.pointer (some ⟨b,0,none⟩),nv] w fun e w' => PutOut w Q (removeE es q) e w':=by
 induction q with
 | nil => intro b u vs es nv w h;exact absurd rfl h
 | cons x r ih =>
  intro b u vs es nv w _ h he hw hn hQ
  cases r with
  | nil => rw [removeE];exact remove_one Q b u vs es x nv w h he hw hn
  | cons y r =>
   have Hrem:Hid (removeE es (x :: y :: r) = if removeE (belowE es x) (y :: r) = [] then withoutE es x else withE es x (.dir (removeE (belowE es x) (y :: r)))):=by rw [Hid,removeE]
   have hL:=h.list
   have hbl:=h.lt
   have hforms:=he.forms
   have hl20:=h.1
   obtain ⟨ao,cap,rfl,hc,hm⟩:=names_form hn
   have ha:∃ a,ao = some a:=by
    obtain ⟨ao',cap',h1,_,_,h4⟩:=hn
    simp only [Value.slice.injEq] at h1
    obtain ⟨g,o,h5,_⟩:=h4 0 (by simp)
    exact ⟨_,h1.1.trans h5⟩
   obtain ⟨a,rfl⟩:=ha
   obtain ⟨g,o,rfl,hnn,hnc,hcm,hg,hcx,htail⟩:=names_tail hn
   have hcap2:(r.length + 1 + 1:Nat) ≤ cap:=by simpa using hnc
   have HD:Hid (DirAt w b u vs):=h
   have HE:Hid (RepE w Q vs es):=he
   have HT:Hid (∀ W,Below w.heap.size w W→NamesAt W (.slice (some ⟨g,o + 1,none⟩) (r.length + 1) (cap - 1)) (y :: r)):=by
    intro W hW
    exact names_below (htail (some ⟨g,o + 1,none⟩) (cap - 1) (r.length + 1) (fun _ => rfl) (by simp) (by omega) (by omega)) hW (Nat.le_refl _)
   have HI:Hid _:=ih
   have HQ:Hid (∀ j,w.heap.size ≤ j→Q j 0):=hQ
   have hroom0:belowE es x ≠ []→thereE vs x = true:=fun hne => by rw [there_iff he hw];exact findE_some_of_below hne
   have hc1:¬ cap = 1:=by omega
   have hc2:¬ (cap:Int) = 1:=by omega
   have hcap1:(1:Int) ≤ (r.length:Int) + 1 + 1:=by omega
   have hcapI:(r.length:Int) + 1 + 1 ≤ (cap:Int):=by omega
   unfold maxLen at hcm
   clear hn h he htail ih hQ hnn hnc hc
   go_enter Tryz.func66,Tryz.ntmps66
   go_wp2
   go_quiet (fail)
   go_wp2_with fail
   have hq0:Below w.heap.size w (w.drewN nq):=below_drewN (Below.refl w.heap.size w) _
   refine (below_dir Q b u vs es x _ (HD.out.below hq0 (Nat.le_refl _)) (HE.out.later hq0 (Nat.le_refl _)) hw).mono ?_
   rintro e w1 ⟨b2,u2,vs2,rfl,hd2,he2,hb2⟩
   have hb1:Below w.heap.size w w1:=hq0.trans (hb2.mono hq0.size)
   have HB1:Hid (Below w.heap.size w w1):=hb1
   have HD2:Hid (DirAt w1 b2 u2 vs2):=hd2
   have HE2:Hid (RepE w1 Q vs2 (belowE es x)):=he2
   clear hd2 he2 hb2 hq0 hb1
   go_wp2_with fail
   refine (HI.out b2 u2 vs2 (belowE es x) _ _ (by simp) HD2.out HE2.out (belowE_wf hw x) (HT.out _ HB1.out) (fun j hj => HQ.out j (Nat.le_trans HB1.out.size hj))).mono ?_
   rintro e w3 ⟨b3,vs3,hb3,rfl,hd3,he3,hbb3⟩
   have hb13:Below w.heap.size w w3:=HB1.out.trans (hbb3.mono HB1.out.size)
   have HB3:Hid (Below w.heap.size w w3):=hb13
   have HRD:Hid (RepT w3 Q (.iface 89 (.pointer (some ⟨b3,0,none⟩))) (.dir (removeE (belowE es x) (y :: r)))):=.dir hd3 (HQ.out b3 (Nat.le_trans HB1.out.size hb3)) he3
   have hcnt:=hd3.list.count
   have hlen3:=he3.len
   have hL3:ListAt w3 b 1 vs:=(HD.out.below hb13 (Nat.le_refl _)).list
   have hcells:∀ W:World,Like W w3→∀ j v,(listCells vs)[j]? = some v→W.cell? ((⟨b,1,none⟩ : Addr).add j) = some v:=by
    intro W hW j v hj
    have hadd:(⟨b,1,none⟩ : Addr).add j = ⟨b,1 + j,none⟩:=by unfold Addr.add;split <;> simp_all
    rw [hadd,World.cell?_of_block (w:=w3) (by rw [hW.heap])]
    exact hL3.cell j v hj
   have HC:Hid _:=hcells
   have HSZ:Hid ((Tryz.prog.info? 147).map (·.size) = some (listCells vs).length):=by rw [Hid,Tryz.sizeListing,listCells_len hl20]
   have hbl3:b < w3.heap.size:=Nat.lt_of_lt_of_le hbl hb13.size
   have hlt3:=hd3.lt
   by_cases hz:removeE (belowE es x) (y :: r) = []
   ·have R:Hid (removeE es (x :: y :: r) = withoutE es x):=by rw [Hid,Hrem.out,if_pos hz]
    have hcz:vs3.length = 0:=by rw [hlen3,hz];rfl
    rw [hcz] at hcnt
    have hwl:=listCells_len (withoutV_len (x:=x) hl20)
    have HWL:Hid _:=withoutV_len (x:=x) hl20
    clear hb3 hd3 he3 hbb3 hb13 hL3 hcells hL hg hcx HD2 HE2 HB1 HT HI hbl hlen3 hz hcz HRD
    go_upto_region 6 with fail
    go_wp2_with (first | (refine wpList_load_cells rfl 147 (.tmp 39) rfl ⟨b,1,none⟩ rfl (listCells vs) _ ?_ Tryz.underlying147 rfl HSZ.out ?_;exact HC.out _ ⟨rfl,rfl,rfl,rfl⟩) | (go_at_call 96;refine (without_list vs x _ hforms hl20).mono ?_;rintro e w2 ⟨rfl,hb2⟩;generalize hLW:listCells (withoutV vs x) = LW at *;have HLW:=Hid.mk' hLW;clear hLW))
    all_goals
     go_ret
     have hbe:Below w.heap.size w w2:=HB3.out.trans (hb2.mono HB3.out.size)
     have hbe':=hbe.alloc hbe.size
     refine ⟨w2.heap.size,withoutV vs x,hbe.size,rfl,⟨HWL.out,?_⟩,R.out ▸ rep_without ?_ hw x,?_⟩
     ·rw [heap_alloc_new,fold_dir rfl hwl rfl,HLW.out]
     ·exact HE.out.later (hbe' _) (Nat.le_refl _)
     ·exact hbe' _
   ·have R:Hid (removeE es (x :: y :: r) = withE es x (.dir (removeE (belowE es x) (y :: r)))):=by rw [Hid,Hrem.out,if_neg hz]
    have hbn:belowE es x ≠ []:=fun e => hz (by rw [e];exact removeE_nil _)
    have hth:=hroom0 hbn
    have hroom:thereE vs x = false→vs.length < 20:=fun h => by rw [hth] at h;exact absurd h (by simp)
    have hcp:0 < vs3.length:=by rw [hlen3];exact List.length_pos_iff.2 hz
    have hcpI:(0:Int) < (vs3.length:Int):=by omega
    have hwl:=listCells_len (withV_len (v:=.iface 89 (.pointer (some ⟨b3,0,none⟩))) hl20 hroom)
    have HWL:Hid _:=withV_len (v:=.iface 89 (.pointer (some ⟨b3,0,none⟩))) hl20 hroom
    clear hb3 hd3 he3 hbb3 hb13 hL3 hcells hL hg hcx HD2 HE2 HB1 HT HI hbl hlen3 hz hbn hroom0
    go_upto_region 5 with fail
    go_wp2_with (first | (refine wpList_load_cells rfl 147 (.tmp 29) rfl ⟨b,1,none⟩ rfl (listCells vs) _ ?_ Tryz.underlying147 rfl HSZ.out ?_;exact HC.out _ ⟨rfl,rfl,rfl,rfl⟩) | (go_at_call 94;refine (with_any vs x 89 b3 _ hforms hl20 hroom).mono ?_;rintro e w2 ⟨rfl,hb2⟩;generalize hLW:listCells (withV vs x (.iface 89 (.pointer (some ⟨b3,0,none⟩)))) = LW at *;have HLW:=Hid.mk' hLW;clear hLW))
    all_goals
     go_ret
     have hbe:Below w.heap.size w w2:=HB3.out.trans (hb2.mono HB3.out.size)
     have hbe':=hbe.alloc hbe.size
     refine ⟨w2.heap.size,withV vs x (.iface 89 (.pointer (some ⟨b3,0,none⟩))),hbe.size,rfl,⟨HWL.out,?_⟩,R.out ▸ rep_with ?_ ?_,?_⟩
     ·rw [heap_alloc_new,fold_dir rfl hwl rfl,HLW.out]
     ·exact HE.out.later (hbe' _) (Nat.le_refl _)
     ·exact HRD.out.later (hb2.alloc hb2.size _) (Nat.le_refl _)
     ·exact hbe' _

open Go.RowKit
def NodeV (w:World) (v:Value):Prop :=
 v = .nilIface∨(∃ b c,v = fileV b∧w.heap[b]? = some (.cells c 135 (0,0)))∨(∃ b c,v = dirV b∧w.heap[b]? = some (.cells c 149 (0,0)))
theorem info_some {P:Program} {t:TypeId} {c:Bool} (h:(P.info? t).map (·.comparable) = some c):∃ i,P.info? t = some i∧i.comparable = c:=by
 cases hi:P.info? t with
 | none => rw [hi] at h;simp at h
 | some i => rw [hi] at h;exact ⟨i,rfl,by simpa using h⟩
theorem info_size {P:Program} {t:TypeId} {n:Nat} (h:(P.info? t).map (·.size) = some n):∃ i,P.info? t = some i∧i.size = n:=by
 cases hi:P.info? t with
 | none => rw [hi] at h;simp at h
 | some i => rw [hi] at h;exact ⟨i,rfl,by simpa using h⟩
theorem ptr_eq {w:World} (d:Nat) {tp te:TypeId} {n:Nat} {b b' : Nat} {c c' : Array Value} (hp:Tryz.prog.underlying tp = some (.pointer te)) (hc:(Tryz.prog.info? tp).map (·.comparable) = some true) (hs:(Tryz.prog.info? te).map (·.size) = some (n + 1))
  (hb:w.heap[b]? = some (.cells c te (0,0))) (hb' : w.heap[b']? = some (.cells c' te (0,0))) :
  ∃ r:Bool,(Op.equalIn (d + 2) 99 (.iface tp (.pointer (some ⟨b,0,none⟩))) (.iface tp (.pointer (some ⟨b',0,none⟩)))).run Tryz.prog w = .ok r w∧(r = true ↔ b = b'):=by
 obtain ⟨i,hi,hic⟩:=info_some hc
 obtain ⟨j,hj,hjs⟩:=info_size hs
 by_cases e:b = b'
 ·subst e
  exact ⟨true,run_equalIn_iface_ptr_same w d _ Tryz.underlying99 hp hi hic hj,by simp⟩
 ·exact ⟨false,run_equalIn_iface_ptr_other w d Tryz.underlying99 hp hi hic hj (by omega) (fun h => e (congrArg Addr.block h)) hb hb',by simp [e]⟩
theorem node_eq {w:World} (d:Nat) {v v' : Value} (h:NodeV w v) (h' : NodeV w v'):∃ r:Bool,(Op.equalIn (d + 2) 99 v v').run Tryz.prog w = .ok r w∧(r = true ↔ v = v'):=by
 have hu:=Tryz.underlying99
 rcases h with rfl | ⟨b,c,rfl,hb⟩ | ⟨b,c,rfl,hb⟩ <;> rcases h' with rfl | ⟨b',c',rfl,hb'⟩ | ⟨b',c',rfl,hb'⟩
 ·exact ⟨true,by rw [Op.equalIn];simp only [Sem.run_bind,run_underlying hu,Result.andThen_ok];rfl,by simp⟩
 ·exact ⟨false,by rw [Op.equalIn];simp only [Sem.run_bind,run_underlying hu,Result.andThen_ok];rfl,by simp⟩
 ·exact ⟨false,by rw [Op.equalIn];simp only [Sem.run_bind,run_underlying hu,Result.andThen_ok];rfl,by simp⟩
 ·exact ⟨false,by rw [Op.equalIn];simp only [Sem.run_bind,run_underlying hu,Result.andThen_ok];rfl,by simp⟩
 ·obtain ⟨r,h1,h2⟩:=ptr_eq (w:=w) d (n:=1) (b:=b) (b':=b') Tryz.underlying131 (by kernel_rfl) (by kernel_rfl) hb hb'
  exact ⟨r,h1,by rw [h2];simp⟩
 ·exact ⟨false,by rw [Op.equalIn];simp only [Sem.run_bind,run_underlying hu,Result.andThen_ok];rfl,by simp⟩
 ·exact ⟨false,by rw [Op.equalIn];simp only [Sem.run_bind,run_underlying hu,Result.andThen_ok];rfl,by simp⟩
 ·exact ⟨false,by rw [Op.equalIn];simp only [Sem.run_bind,run_underlying hu,Result.andThen_ok];rfl,by simp⟩
 ·obtain ⟨r,h1,h2⟩:=ptr_eq (w:=w) d (n:=41) (b:=b) (b':=b') Tryz.underlying89 (by kernel_rfl) (by kernel_rfl) hb hb'
  exact ⟨r,h1,by rw [h2];simp⟩
theorem run_part_one {P:Program} {w:World} {t:TypeId} {d:TypeDesc} {cs:Array Value} {off:Nat} {v:Value} (hu:P.underlying t = some d) (hd:(match d with | .struct _ | .array _ _ => true | _ => false) = false) (h:cs[off]? = some v):(part t cs off).run P w = .ok v w:=by
 have hagg:(isAgg t).run P w = .ok false w:=by
  unfold isAgg;rw [Sem.run_bind,run_underlying hu w];cases d <;> simp_all
 simp [part,Sem.run_bind,hagg,h]
theorem run_part_agg {P:Program} {w:World} {t:TypeId} {d:TypeDesc} {cs:Array Value} {off n:Nat} (hu:P.underlying t = some d) (hd:(match d with | .struct _ | .array _ _ => true | _ => false) = true) (hs:(P.info? t).map (·.size) = some n):(part t cs off).run P w = .ok (.agg (cs.extract off (off + n))) w:=by
 obtain ⟨j,hj,hjs⟩:=info_size hs
 have hagg:(isAgg t).run P w = .ok true w:=by
  unfold isAgg;rw [Sem.run_bind,run_underlying hu w];cases d <;> simp_all
 simp [part,Sem.run_bind,hagg,sizeOf,typeInfo,hj,hjs]
theorem fields_of {P:Program} {t:TypeId} {fs:Array Field} (h:P.underlying t = some (.struct fs)):P.fieldsOf t = fs:=by unfold Program.fieldsOf;rw [h]
theorem two_fields {P : Program} {w : World} {d : Nat} {xs ys : Array Value} {f g : Field} {a b c e : Value} {r1 r2 : Bool} (hf : f.name ≠ "_") (hg : g.name ≠ "_")
  (p1:(part f.type xs f.offset).run P w = .ok a w) (p2:(part f.type ys f.offset).run P w = .ok b w) (e1:(Op.equalIn d f.type a b).run P w = .ok r1 w)
  (p3:(part g.type xs g.offset).run P w = .ok c w) (p4:(part g.type ys g.offset).run P w = .ok e w) (e2:(Op.equalIn d g.type c e).run P w = .ok r2 w):(Op.eqFields d xs ys [f,g]).run P w = .ok (r1 && r2) w:=by
 rw [Op.eqFields,if_pos hf]
 simp only [Sem.run_bind,p1,p2,e1,Result.andThen_ok]
 cases r1
 ·rfl
 ·simp only [Bool.not_true,Bool.false_eq_true,if_false]
  rw [Op.eqFields,if_pos hg]
  simp only [Sem.run_bind,p3,p4,e2,Result.andThen_ok]
  cases r2 <;> rfl
theorem entry_eq {w:World} (d:Nat) {a a' : Str} {v v' : Value} (h:NodeV w v) (h' : NodeV w v') :
  ∃ r:Bool,(Op.equalIn (d + 3) 101 (.agg #[SV a,v]) (.agg #[SV a',v'])).run Tryz.prog w = .ok r w∧(r = true ↔ a = a'∧v = v'):=by
 obtain ⟨r,h1,h2⟩:=node_eq d h h'
 have hf:=fields_of Tryz.underlying101
 rw [run_equalIn_struct w (d + 2) 101 _ _ (by rw [hf];exact Tryz.underlying101) (by kernel_rfl),hf]
 have p1:(part 9 #[SV a,v] 0).run Tryz.prog w = .ok (SV a) w:=run_part_one Tryz.underlying9 rfl rfl
 have p2:(part 9 #[SV a',v'] 0).run Tryz.prog w = .ok (SV a') w:=run_part_one Tryz.underlying9 rfl rfl
 have p3:(part 99 #[SV a,v] 1).run Tryz.prog w = .ok v w:=run_part_one Tryz.underlying99 rfl rfl
 have p4:(part 99 #[SV a',v'] 1).run Tryz.prog w = .ok v' w:=run_part_one Tryz.underlying99 rfl rfl
 have hs:(Op.equalIn (d + 2) 9 (SV a) (SV a')).run Tryz.prog w = .ok (a == a') w:=by
  rw [run_equalIn_string w (d + 1) _ _ _ Tryz.underlying9];simp [ByteArray.toList_eq]
 exact ⟨(a == a') && r,two_fields (by simp) (by simp) p1 p2 hs p3 p4 h1,by simp [h2]⟩
def entAt (vs:List (Str × Value)) (i:Nat):Str × Value:=vs[i]?.getD ([],.nilIface)
theorem padE_get (n i:Nat) (h:i < n):(padE n)[i * 2]? = some (SV [])∧(padE n)[i * 2 + 1]? = some .nilIface:=by
 induction n generalizing i with
 | zero => omega
 | succ n ih =>
  rw [padE_succ]
  cases i with
  | zero => exact ⟨rfl,rfl⟩
  | succ i =>
   have:=ih i (by omega)
   rw [show (i + 1) * 2 = i * 2 + 2 from by omega,show i * 2 + 2 + 1 = (i * 2 + 1) + 2 from by omega]
   simpa using this
theorem listCells_ent {vs:List (Str × Value)} (hl:vs.length ≤ 20) {i:Nat} (hi:i < 20):(listCells vs)[i * 2 + 1]? = some (SV (entAt vs i).1)∧(listCells vs)[i * 2 + 2]? = some (entAt vs i).2:=by
 by_cases h:i < vs.length
 ·have:=listCells_name h
  unfold entAt;rw [List.getElem?_eq_getElem h];exact this
 ·have hf:(flatE vs).length = vs.length * 2:=flatE_len vs
  have hp:=padE_get (20 - vs.length) (i - vs.length) (by omega)
  rw [listCells_eq,List.getElem?_cons_succ,show i * 2 + 2 = (i * 2 + 1) + 1 from rfl,List.getElem?_cons_succ,List.getElem?_append_right (by omega),List.getElem?_append_right (by omega),hf,
   show i * 2 - vs.length * 2 = (i - vs.length) * 2 from by omega,show i * 2 + 1 - vs.length * 2 = (i - vs.length) * 2 + 1 from by omega]
  have e0:vs[i]? = none:=List.getElem?_eq_none (by omega)
  unfold entAt;rw [e0];exact hp
def Nodes (w:World) (vs:List (Str × Value)):Prop:=vs.length ≤ 20∧∀ e ∈ vs,NodeV w e.2
theorem Nodes.ent {w:World} {vs:List (Str × Value)} (h:Nodes w vs) (i:Nat):NodeV w (entAt vs i).2:=by
 unfold entAt
 cases hx:vs[i]? with
 | none => exact .inl rfl
 | some e => exact h.2 e (List.mem_of_getElem? hx)
theorem part_ent {w:World} {vs:List (Str × Value)} (hl:vs.length ≤ 20) {i:Nat} (hi:i < 20) (cs:Array Value) (hcs:cs = (listCells vs).toArray.extract 1 (1 + 40)):(part 101 cs (i * 2)).run Tryz.prog w = .ok (.agg #[SV (entAt vs i).1,(entAt vs i).2]) w:=by
 rw [run_part_agg (n:=2) Tryz.underlying101 rfl (by kernel_rfl)]
 congr 2
 have hlen:=listCells_len hl
 obtain ⟨h1,h2⟩:=listCells_ent hl hi
 subst hcs
 apply Array.ext'
 apply List.ext_getElem?
 intro j
 simp only [Array.toList_extract,List.extract_eq_take_drop,List.drop_take,List.getElem?_take,List.getElem?_drop]
 match j with
 | 0 => rw [if_pos (by omega),if_pos (by omega),show 1 + (i * 2 + 0) = i * 2 + 1 from by omega,h1];rfl
 | 1 => rw [if_pos (by omega),if_pos (by omega),show 1 + (i * 2 + 1) = i * 2 + 2 from by omega,h2];rfl
 | j + 2 => rw [if_neg (by omega)];rfl
theorem items_eq {w:World} {vs vs' : List (Str × Value)} (h:Nodes w vs) (h' : Nodes w vs') (d:Nat) (is:List Nat) (his:∀ i ∈ is,i < 20) :
  ∃ r:Bool,(Op.eqItems (d + 3) 101 2 ((listCells vs).toArray.extract 1 (1 + 40)) ((listCells vs').toArray.extract 1 (1 + 40)) is).run Tryz.prog w = .ok r w∧(r = true ↔ ∀ i ∈ is,entAt vs i = entAt vs' i):=by
 induction is with
 | nil => exact ⟨true,by simp [Op.eqItems],by simp⟩
 | cons i is ih =>
  obtain ⟨r,h1,h2⟩:=ih (fun j hj => his j (by simp [hj]))
  have hi:=his i (by simp)
  have p1:=part_ent (w:=w) h.1 hi _ rfl
  have p2:=part_ent (w:=w) h'.1 hi _ rfl
  obtain ⟨q,e1,e2⟩:=entry_eq (w:=w) d (a:=(entAt vs i).1) (a':=(entAt vs' i).1) (h.ent i) (h'.ent i)
  cases q
  ·refine ⟨false,?_,?_⟩
   ·simp only [Op.eqItems,Sem.run_bind,p1,p2,e1,Result.andThen_ok];simp
   ·simp only [Bool.false_eq_true,false_iff]
    intro hall
    have:=hall i (by simp)
    exact absurd (e2.2 ⟨by rw [this],by rw [this]⟩) (by simp)
  ·refine ⟨r,?_,?_⟩
   ·simp only [Op.eqItems,Sem.run_bind,p1,p2,e1,Result.andThen_ok];simpa using h1
   ·rw [h2]
    have:=e2.1 rfl
    constructor
    ·intro hall j hj
     simp at hj;rcases hj with rfl | hj
     ·exact Prod.ext this.1 this.2
     ·exact hall j hj
    ·intro hall j hj;exact hall j (by simp [hj])
theorem ents_same {vs vs' : List (Str × Value)} (hl:vs.length ≤ 20) (hl' : vs'.length ≤ 20):(vs.length = vs'.length∧∀ i ∈ List.range 20,entAt vs i = entAt vs' i) ↔ vs = vs':=by
 constructor
 ·rintro ⟨h1,h2⟩
  apply List.ext_getElem?
  intro i
  by_cases hi:i < vs.length
  ·have:=h2 i (by simp;omega)
   unfold entAt at this
   rw [List.getElem?_eq_getElem hi,List.getElem?_eq_getElem (by omega)] at this ⊢
   simpa using this
  ·rw [List.getElem?_eq_none (by omega),List.getElem?_eq_none (by omega)]
 ·rintro rfl;exact ⟨rfl,fun _ _ => rfl⟩
theorem listing_eq {w:World} {vs vs' : List (Str × Value)} (h:Nodes w vs) (h' : Nodes w vs') :
  ∃ r:Bool,(Op.equal 147 (.agg (listCells vs).toArray) (.agg (listCells vs').toArray)).run Tryz.prog w = .ok r w∧(r = true ↔ vs = vs'):=by
 obtain ⟨r,h1,h2⟩:=items_eq h h' 9995 (List.range 20) (by simp)
 have hf:=fields_of Tryz.underlying147
 obtain ⟨j,hj,hjs⟩:=info_size (P:=Tryz.prog) (t:=101) (n:=2) (by kernel_rfl)
 have hce:Tryz.prog.cellsOf 101 = 2:=by kernel_rfl
 unfold Op.equal Op.maxDepth
 rw [run_equalIn_struct w 9999 147 _ _ (by rw [hf];exact Tryz.underlying147) (by kernel_rfl),hf]
 have p1:(part 3 (listCells vs).toArray 0).run Tryz.prog w = .ok (.int .i64 vs.length) w:=run_part_one Tryz.underlying3 rfl rfl
 have p2:(part 3 (listCells vs').toArray 0).run Tryz.prog w = .ok (.int .i64 vs'.length) w:=run_part_one Tryz.underlying3 rfl rfl
 have p3:(part 145 (listCells vs).toArray 1).run Tryz.prog w = .ok (.agg ((listCells vs).toArray.extract 1 (1 + 40))) w:=run_part_agg Tryz.underlying145 rfl (by kernel_rfl)
 have p4:(part 145 (listCells vs').toArray 1).run Tryz.prog w = .ok (.agg ((listCells vs').toArray.extract 1 (1 + 40))) w:=run_part_agg Tryz.underlying145 rfl (by kernel_rfl)
 have hn:(Op.equalIn 9999 3 (.int .i64 vs.length) (.int .i64 vs'.length)).run Tryz.prog w = .ok ((vs.length:Int) == (vs'.length:Int)) w:=run_equalIn_int w 9998 _ _ _ _ _ Tryz.underlying3
 have ha:=run_equalIn_array (P:=Tryz.prog) w 9998 ((listCells vs).toArray.extract 1 (1 + 40)) ((listCells vs').toArray.extract 1 (1 + 40)) Tryz.underlying145 hj
 rw [hce,h1] at ha
 refine ⟨((vs.length:Int) == (vs'.length:Int)) && r,two_fields (by simp) (by simp) p1 p2 hn p3 p4 ha,?_⟩
 rw [← ents_same h.1 h'.1,Bool.and_eq_true,h2,beq_iff_eq]
 simp only [Int.natCast_inj]
end Go.Proofs.YtdcbgfhkfmohiaaGreatDoor
