/- The store whole: its state, its frame; Cells. -/
import Derived.Test.YtdcbgfhkfmohiaaGreatDoorAl09
import Derived.Laws.Cover3
namespace Go.Proofs.YtdcbgfhkfmohiaaGreatDoor
open Go.RowKit
def Bank.own (B:Bank) (k:Nat):Prop:=k = B.sb∨k = B.rs∨k = B.rd∨k = B.rf∨B.reg k
structure Ext (N:Nat) (w:World) (B:Bank) (w' : World) (B' : Bank):Prop where
 os:w'.os = w.os
 tape:w'.tape = w.tape
 output:w'.output = w.output
 size:w.heap.size ≤ w'.heap.size
 four:B'.sb = B.sb∧B'.rs = B.rs∧B'.rd = B.rd∧B'.rf = B.rf∧B'.rr = B.rr
 blk:∀ k,k < N→¬ B.own k→w'.heap[k]? = w.heap[k]?
 own:∀ k,B'.own k→B.own k∨N ≤ k
theorem Ext.trans {N:Nat} {w w1 w2:World} {B B1 B2:Bank} (h:Ext N w B w1 B1) (k:Ext N w1 B1 w2 B2):Ext N w B w2 B2 where
 os:=k.os.trans h.os
 tape:=k.tape.trans h.tape
 output:=k.output.trans h.output
 size:=Nat.le_trans h.size k.size
 four:=⟨k.four.1.trans h.four.1,k.four.2.1.trans h.four.2.1,k.four.2.2.1.trans h.four.2.2.1,k.four.2.2.2.1.trans h.four.2.2.2.1,k.four.2.2.2.2.trans h.four.2.2.2.2⟩
 blk:=fun i hi hn => (k.blk i hi (fun ho => (h.own i ho).elim hn (fun h2 => by omega))).trans (h.blk i hi hn)
 own:=fun i hi => (k.own i hi).elim (fun h2 => h.own i h2) .inr
theorem Ext.of_below {N:Nat} {w w' : World} {B:Bank} (hN:N ≤ w.heap.size) (h:Below w.heap.size w w'):Ext N w B w' B :=
 ⟨h.os,h.tape,h.output,h.size,⟨rfl,rfl,rfl,rfl,rfl⟩,fun k hk _ => h.block k (by omega),fun _ h => .inl h⟩
theorem Ext.of_grow {N:Nat} {w w' : World} {B B' : Bank} (hN:N ≤ w.heap.size) (h:Grow N w B w' B'):Ext N w B w' B' where
 os:=h.step.os
 tape:=h.step.tape
 output:=h.step.output
 size:=h.step.size
 four:=⟨h.same.sb,h.same.rs,h.same.rd,h.same.rf,h.same.rr⟩
 blk:=fun k hk hn => by
  rcases h.step.blk k (by omega) with h1 | ⟨⟨t,h1,h2⟩,_⟩ | h1
  ·exact h1
  ·refine absurd (.inr (.inr (.inr (.inr ?_)))) hn
   rcases h.new t h1 with h3 | h3
   ·exact ⟨t,h3,(h.old t h3).2.1.symm.trans h2⟩
   ·omega
  ·refine absurd ?_ hn
   rcases h1 with h1 | h1 | h1 | h1
   ·exact .inl h1
   ·exact .inr (.inl h1)
   ·exact .inr (.inr (.inl h1))
   ·exact .inr (.inr (.inr (.inl h1)))
 own:=fun k hk => by
  rcases hk with h1 | h1 | h1 | h1 | ⟨t,h1,h2⟩
  ·exact .inl (.inl (h1.trans h.same.sb))
  ·exact .inl (.inr (.inl (h1.trans h.same.rs)))
  ·exact .inl (.inr (.inr (.inl (h1.trans h.same.rd))))
  ·exact .inl (.inr (.inr (.inr (.inl (h1.trans h.same.rf)))))
  ·rcases h.new t h1 with h3 | h3
   ·exact .inl (.inr (.inr (.inr (.inr ⟨t,h3,(h.old t h3).2.1.symm.trans h2⟩))))
   ·exact .inr (by omega)
theorem Ext.of_shrink {N:Nat} {w w' : World} {B B' : Bank} (hN:N ≤ w.heap.size) (h:Shrink w B w' B'):Ext N w B w' B' where
 os:=h.step.os
 tape:=h.step.tape
 output:=h.step.output
 size:=h.step.size
 four:=⟨h.same.sb,h.same.rs,h.same.rd,h.same.rf,h.same.rr⟩
 blk:=fun k hk hn => by
  rcases h.step.blk k (by omega) with h1 | ⟨h1,_⟩ | h1
  ·exact h1
  ·exact absurd (.inr (.inr (.inr (.inr h1)))) hn
  ·refine absurd ?_ hn
   rcases h1 with h1 | h1 | h1 | h1
   ·exact .inl h1
   ·exact .inr (.inl h1)
   ·exact .inr (.inr (.inl h1))
   ·exact .inr (.inr (.inr (.inl h1)))
 own:=fun k hk => by
  rcases hk with h1 | h1 | h1 | h1 | h1
  ·exact .inl (.inl (h1.trans h.same.sb))
  ·exact .inl (.inr (.inl (h1.trans h.same.rs)))
  ·exact .inl (.inr (.inr (.inl (h1.trans h.same.rd))))
  ·exact .inl (.inr (.inr (.inr (.inl (h1.trans h.same.rf)))))
  ·exact .inl (.inr (.inr (.inr (.inr (h.reg k h1)))))
theorem Ext.of_set1 {N:Nat} {w w' : World} {B B' : Bank} {r:Nat} {o:Obj} (hs:Set1 w w' r o) (hr:B.own r) (h4:B'.sb = B.sb∧B'.rs = B.rs∧B'.rd = B.rd∧B'.rf = B.rf∧B'.rr = B.rr) (hown:∀ k,B'.own k→B.own k):Ext N w B w' B' :=
 ⟨hs.os,hs.tape,hs.output,by rw [hs.size];exact Nat.le_refl _,h4,fun k _ hn => hs.other k (fun e => hn (e ▸ hr)),fun k hk => .inl (hown k hk)⟩
structure Okay (w:World) (B:Bank):Prop where
 at' : BankAt w B
 calm:Calm B (fun _ => 0)
 wf:∀ s ∈ B.ss,WFE s.2∧(filesE s.2).length ≤ 20∧heightE s.2 ≤ 5
 few:B.ss.length ≤ 12
 room:B.ds.length + B.fs.length ≤ B.room∧B.room ≤ 200
 nums:∀ s ∈ B.ss,s.1 < B.made
structure Agree (B:Bank) (r:RSt):Prop where
 room:B.room = r.limit
 made:B.made = r.made
 all:B.ss.map (fun s => (s.1,toF (filesE s.2))) = r.all
theorem Okay.cells {w:World} {B:Bank} (h:Okay w B):cellsL ((B.ss.map (·.2)).map fun e => toF (filesE e)) = B.ds.length + B.fs.length:=by
 refine bank_cells h.at' h.calm.exact' h.calm.pos ?_ ?_ ?_
 ·intro e he;simp only [List.mem_map] at he;obtain ⟨s,hs,rfl⟩:=he;exact (h.wf s hs).1
 ·intro e he;simp only [List.mem_map] at he;obtain ⟨s,hs,rfl⟩:=he;exact h.at'.roots s hs
 ·intro t ht
  obtain ⟨s,hs,rfl⟩:=occS_pos.1 (by omega:0 < occS B.ss t)
  exact ⟨s.2,List.mem_map_of_mem hs,rfl⟩
theorem Agree.cells {w:World} {B:Bank} {r:RSt} (h:Okay w B) (ha:Agree B r):cellsOf r = B.ds.length + B.fs.length:=by
 rw [← h.cells];unfold cellsOf;rw [← ha.all];simp [List.map_map,Function.comp_def]
theorem nodup_sub {α:Type} {a b:List α} (ha:a.Nodup) (h:∀ x ∈ a,x ∈ b):a.length ≤ b.length:=by
 induction a generalizing b with
 | nil => simp
 | cons x a ih =>
  rw [List.nodup_cons] at ha
  obtain ⟨l1,l2,rfl⟩:=List.append_of_mem (h x (by simp))
  have:=ih (b:=l1 ++ l2) ha.2 (fun y hy => by
   have:=h y (by simp [hy])
   simp only [List.mem_append,List.mem_cons] at this ⊢
   rcases this with h1 | h1 | h1
   ·exact .inl h1
   ·exact absurd (h1 ▸ hy) ha.1
   ·exact .inr h1)
  simp only [List.length_append,List.length_cons] at this ⊢;omega
theorem run_lenMap {P:Program} {w:World} {t k e ty:TypeId} {r c:Nat} {m:Array MapEntry} (ht:P.underlying t = some (.map k e)) (hb:w.heap[r]? = some (.map m c)):(Builtin.len_ #[t] ty #[.map (some r)]).run P w = .ok (goInt m.size) w:=by
 simp [Builtin.len_,run_underlying ht,MapKept.run_getObj_map hb,Result.andThen]
theorem quiet_len {P:Program} {ops:Array Oper} {C:World→Prop} {Q:Act→Prop} {a:Act} {o:Oper} {rest:List Oper} (hgd:o.guard = none) (t:TypeId) (x:Operand) (ho:o.op = .call { callee:=.builtin .len,args:=#[x],argTypes:=#[t] })
  (k e:TypeId) (ht:P.underlying t = some (.map k e)) (r c:Nat) (m:Array MapEntry) (hx:a.eval x = .map (some r)) (hb:∀ w,C w→w.heap[r]? = some (.map m c)) (n:Nat) (hn:m.size = n)
  (h:wpQuiet P ops C Q rest (a.put o.dst (.int .i64 n))):wpQuiet P ops C Q (o :: rest) a :=
 BigFrame.wpQuiet_want (by simp [Region.wanted,hgd]) fun K hK => ⟨.int .i64 n,fun w hw => by
  have hr:(execOp a.eval o).run P w = .ok (.value (.int .i64 n)) w:=by
   rw [← hn]
   simp only [execOp,ho,resolve,invoke,builtin,Sem.run_bind,Sem.run_pure,Result.andThen_ok,List.map_toArray,List.map_cons,List.map_nil,hx,run_lenMap ht (hb w hw),goInt]
  unfold Oper.quietAt;rw [hr];exact ⟨rfl,rfl⟩,hK _ h⟩
theorem wpList_len {P:Program} {ops:Array Oper} {rest:List Oper} {o:Oper} {a:Act} {w:World} {Q:Exit→Act→World→Prop} (hgd:o.guard = none) (t:TypeId) (x:Operand) (ho:o.op = .call { callee:=.builtin .len,args:=#[x],argTypes:=#[t] })
  (k e:TypeId) (ht:P.underlying t = some (.map k e)) (r c:Nat) (m:Array MapEntry) (hx:a.eval x = .map (some r)) (hb:w.heap[r]? = some (.map m c)) (n:Nat) (hn:m.size = n)
  (h:wpList P ops Q rest (a.put o.dst (.int .i64 n)) w):wpList P ops Q (o :: rest) a w:=by
 refine wpList_plain hgd fun K hK => ?_
 subst hn
 unfold Oper.wp
 simp only [execOp,ho,resolve,invoke,builtin,Sem.run_bind,Sem.run_pure,Result.andThen_ok,List.map_toArray,List.map_cons,List.map_nil,hx,run_lenMap ht hb,goInt]
 exact hK _ _ h
set_option maxHeartbeats 1000000 in
theorem bankCells_any (B:Bank) (w:World) (h:BankAt w B) (hr:B.ds.length + B.fs.length ≤ 1000000) :
  Calls Tryz.prog 16 #[ptrV B.sb] w fun e w' => e = .returned (.int .i64 ((B.ds.length + B.fs.length:Nat):Int))∧∃ n,w' = w.drewN n:=by
 obtain ⟨m2,c2,h2,k2⟩:=h.dmap
 obtain ⟨m3,c3,h3,k3⟩:=h.fmap
 have s3:w.cell? ⟨B.sb,3,none⟩ = some (.map (some B.rd)):=(blk_cell h.store 3).trans rfl
 have s4:w.cell? ⟨B.sb,4,none⟩ = some (.map (some B.rf)):=(blk_cell h.store 4).trans rfl
 have l2:=k2.len
 have l3:=k3.len
 have L2:Hid _:=l2
 have L3:Hid _:=l3
 have H2:Hid _:=h2
 have H3:Hid _:=h3
 clear h k2 k3 h2 h3 l2 l3
 go_enter Tryz.func16,Tryz.ntmps16
 go_wp2
 refine wp_region_quiet_lit (by kernel_rfl) (by kernel_rfl) ?_
 quiet_step (fail)
 quiet_step (fail)
 quiet_step (fail)
 quiet_step (fail)
 refine quiet_len rfl 83 (.tmp 6) rfl _ _ Tryz.underlying83 B.rd c2 m2 rfl (fun W hW => by obtain ⟨n,rfl⟩:=hW;exact H2.out) _ L2.out ?_
 quiet_step (fail)
 quiet_step (fail)
 quiet_step (fail)
 quiet_step (fail)
 refine quiet_len rfl 84 (.tmp 11) rfl _ _ Tryz.underlying84 B.rf c3 m3 rfl (fun W hW => by obtain ⟨n,rfl⟩:=hW;exact H3.out) _ L3.out ?_
 quiet_step (fail)
 quiet_step (fail)
 refine wpQuiet_nil ?_
 intro _ hw'
 obtain ⟨nq,hw''⟩:=hw'
 subst hw''
 go_wp2
 go_ret
 refine ⟨?_,nq,rfl⟩
 rw [Int.natCast_add]
 exact ret_int (IntWalk.i64_in _ (by omega))

open Go.RowKit
def StepOut (N:Nat) (w:World) (B:Bank) (o:RSt × Nat × Nat) (e:Ending) (w' : World):Prop :=
 ∃ B',e = .returned (.tuple #[.int .i64 o.2.1,.int .i64 o.2.2])∧Okay w' B'∧Agree B' o.1∧Ext N w B w' B'
mutual
theorem dirs_boundT:∀ (t:Tree),WFT t→(dirsT t).length ≤ (filesT t).length * heightT t
 | .file d,_ => by simp [dirsT]
 | .dir es,h => by
  unfold WFT at h
  have h1:=dirs_boundE es h.2
  rw [dirsT,filesT,heightT,List.length_cons]
  have h2:1 ≤ es.length:=List.length_pos_iff.2 h.1
  have h3:=entries_le h.2
  obtain ⟨e,es',rfl⟩ : ∃ e es',es = e :: es':=by
   cases es with
   | nil => exact absurd rfl h.1
   | cons e es' => exact ⟨e,es',rfl⟩
  obtain ⟨x,t⟩:=e
  have h4:1 ≤ heightE ((x,t) :: es'):=by simp only [heightE];omega
  obtain ⟨m,hm⟩ : ∃ m,heightE ((x,t) :: es') = m + 1:=⟨heightE ((x,t) :: es') - 1,by omega⟩
  rw [hm,Nat.add_sub_cancel] at h1
  rw [hm,Nat.mul_succ];omega
theorem dirs_boundE:∀ (es:Ents),WFE es→(dirsE es).length ≤ (filesE es).length * (heightE es - 1)
 | [],_ => by simp [dirsE]
 | (x,t) :: es,h => by
  unfold WFE at h
  have h1:=dirs_boundT t h.2.1
  have h2:=dirs_boundE es h.2.2.2
  simp only [dirsE,filesE,heightE,List.length_append,List.length_map,Nat.add_mul]
  have h3:(filesT t).length * heightT t ≤ (filesT t).length * (max (1 + heightT t) (heightE es) - 1):=Nat.mul_le_mul_left _ (by omega)
  have h4:(filesE es).length * (heightE es - 1) ≤ (filesE es).length * (max (1 + heightT t) (heightE es) - 1):=Nat.mul_le_mul_left _ (by omega)
  omega
end
theorem dirs_100 {es:Ents} (h:WFE es) (h1:(filesE es).length ≤ 20) (h2:heightE es ≤ 5):(dirsE es).length ≤ 100:=by
 have h3:=dirs_boundE es h
 have h4:(filesE es).length * (heightE es - 1) ≤ 20 * 5:=Nat.mul_le_mul h1 (by omega)
 omega
theorem held_calm {N:Nat} {w w1:World} {B B1:Bank} {es:Ents} (hO:Okay w B) (hK:KeepOut1 N w B (.dir es) w1 B1) (hl:B1.ds.length ≤ 100000) :
  Calm { B1 with us:=upd B1.us (.dir es) (B1.us (.dir es) + 1) } (one (.dir es)):=by
 obtain ⟨hG,hX,hh,hz,_⟩:=hK
 have hb:∀ s,B1.has s→B1.us s ≤ 2201000:=fun s hs => users_bound hG.at' hX hs hl (by rw [hG.same.ss];have:=hO.few;omega) (Nat.zero_le _)
 refine ⟨?_,?_,?_,?_⟩
 ·have:=hX.hold (.dir es)
  exact this.congr (fun s _ => by simp)
 ·intro s hs
  show 0 < upd B1.us (.dir es) (B1.us (.dir es) + 1) s
  by_cases e:s = .dir es
  ·subst e;rw [upd_same];omega
  ·rw [upd_other e]
   have hs' : B1.has s:=hs
   rcases Nat.eq_zero_or_pos (B1.us s) with h0 | h0
   ·rcases hz s hs' h0 with h1 | ⟨h1,h2⟩
    ·exact absurd h1 e
    ·have:=hO.calm.pos s h1;omega
   ·exact h0
 ·intro s hs
  by_cases e:s = .dir es
  ·subst e;exact hh
  ·rw [one_other e] at hs;omega
 ·intro s hs
  have h1:=hb s hs
  have h2:=hb _ hh
  show upd B1.us (.dir es) (B1.us (.dir es) + 1) s < _
  by_cases e:s = .dir es
  ·subst e;rw [upd_same];omega
  ·rw [upd_other e];omega
theorem held_cells {w2:World} {B2:Bank} {es:Ents} {ss:List (Nat × Ents)} (hA:BankAt w2 B2) (hC:Calm B2 (one (.dir es))) (hss:B2.ss = ss) (hwf:∀ s ∈ ss,WFE s.2) (he:WFE es) :
  cellsL ((ss.map (·.2) ++ [es]).map fun e => toF (filesE e)) = B2.ds.length + B2.fs.length:=by
 subst hss
 refine bank_cells hA hC.exact' hC.pos ?_ ?_ ?_
 ·intro r hr
  simp only [List.mem_append,List.mem_map,List.mem_singleton] at hr
  rcases hr with ⟨s,hs,rfl⟩ | rfl
  ·exact hwf s hs
  ·exact he
 ·intro r hr
  simp only [List.mem_append,List.mem_map,List.mem_singleton] at hr
  rcases hr with ⟨s,hs,rfl⟩ | rfl
  ·exact hA.roots s hs
  ·exact hC.supp (.dir r) (by rw [one_same];omega)
 ·intro t ht
  by_cases e:t = .dir es
  ·exact ⟨es,by simp,e⟩
  ·rw [one_other e] at ht
   obtain ⟨s,hs,rfl⟩:=occS_pos.1 (by omega:0 < occS B2.ss t)
   exact ⟨s.2,by simp only [List.mem_append,List.mem_map];exact .inl ⟨s,hs,rfl⟩,rfl⟩

open Go.RowKit
section
variable {w w' : World} {B:Bank}
theorem BankAt.setMade (h:BankAt w B) (n:Nat):BankAt (w.setCell ⟨B.sb,1,none⟩ (.int .i64 n)) { B with made:=n }∧Set1 w (w.setCell ⟨B.sb,1,none⟩ (.int .i64 n)) B.sb (.cells #[.int .i64 B.room,.int .i64 n,.map (some B.rs),.map (some B.rd),.map (some B.rf),.map (some B.rr)] 87 (0,0)):=by
 have hs:Set1 w (w.setCell ⟨B.sb,1,none⟩ (.int .i64 n)) B.sb (.cells #[.int .i64 B.room,.int .i64 n,.map (some B.rs),.map (some B.rd),.map (some B.rf),.map (some B.rr)] 87 (0,0)):=setCell_set1 h.store _
 obtain ⟨m1,c1,h1,k1⟩:=h.snaps
 obtain ⟨m2,c2,h2,k2⟩:=h.dmap
 obtain ⟨m3,c3,h3,k3⟩:=h.fmap
 have hmp:=h.maps
 exact ⟨⟨hs.here,⟨m1,c1,(hs.other _ (Ne.symm hmp.1)).trans h1,k1⟩,⟨m2,c2,(hs.other _ (Ne.symm hmp.2.1)).trans h2,k2⟩,⟨m3,c3,(hs.other _ (Ne.symm hmp.2.2)).trans h3,k3⟩,h.apart,
  fun d hd => (hs.other _ (h.far (t:=.file d) hd).1).trans (h.files d hd),fun es he => ⟨(h.dirs es he).1,(hs.other _ (h.far (t:=.dir es) he).1).trans (h.dirs es he).2⟩,h.closed,h.roots,h.ndD,h.ndF,h.ndS⟩,hs⟩
def numsI (ss:List (Nat × Ents)):List (Int × Ents):=ss.map fun s => ((s.1:Int),s.2)
theorem BankAt.snapsI (h:BankAt w B):∃ m c,w.heap[B.rs]? = some (.map m c)∧Holds m (fun s:Nat × Ents => .int .i64 s.1) (fun s => ptrV (B.ad (.dir s.2))) B.ss∧Holds m (fun x:Int × Ents => .int .i64 x.1) (fun x => ptrV (B.ad (.dir x.2))) (numsI B.ss):=by
 obtain ⟨m1,c1,h1,k1⟩:=h.snaps
 refine ⟨m1,c1,h1,k1,?_⟩
 unfold Holds numsI at *
 rw [k1];simp [List.map_map,Function.comp_def]
theorem pairs_unique {l:List (Nat × Ents)} {n:Nat} {es es' : Ents} (h:(l.map (·.1)).Nodup) (h1:(n,es) ∈ l) (h2:(n,es') ∈ l):es = es':=by
 induction l with
 | nil => simp at h1
 | cons a l ih =>
  simp only [List.map_cons,List.nodup_cons,List.mem_map,not_exists,not_and] at h
  simp only [List.mem_cons] at h1 h2
  rcases h1 with h1 | h1 <;> rcases h2 with h2 | h2
  ·rw [← h2] at h1;simpa using h1
  ·exact absurd (by rw [← h1]) (h.1 _ h2)
  ·exact absurd (by rw [← h2]) (h.1 _ h1)
  ·exact ih h.2 h1 h2
theorem num_unique (h:BankAt w B) {n:Nat} {es es' : Ents} (h1:(n,es) ∈ B.ss) (h2:(n,es') ∈ B.ss):es = es':=pairs_unique h.ndS h1 h2
theorem BankAt.find_in (h:BankAt w B) {n:Nat} {es:Ents} (hin:(n,es) ∈ B.ss):∃ m c,w.heap[B.rs]? = some (.map m c)∧Holds m (fun s:Nat × Ents => .int .i64 s.1) (fun s => ptrV (B.ad (.dir s.2))) B.ss ∧
  ∀ W:World,Finds W 3 (.int .i64 (n:Int)) m (fun s:Nat × Ents => ptrV (B.ad (.dir s.2))) B.ss (n,es):=by
 obtain ⟨m1,c1,h1,k1⟩:=h.snaps
 refine ⟨m1,c1,h1,k1,fun W => ?_⟩
 have:=finds_int (w:=W) (g:=fun s:Nat × Ents => (s.1:Int)) (x0:=(n,es)) k1 (fun x hx he => by
  obtain ⟨a,b⟩:=x
  have e:n = a:=by simp only at he;omega
  subst e
  rw [num_unique h hin hx])
 exact this
theorem BankAt.find_out (h:BankAt w B) {n:Int} (hout:∀ s ∈ B.ss,(s.1:Int) ≠ n):∃ m c,w.heap[B.rs]? = some (.map m c)∧Holds m (fun s:Nat × Ents => .int .i64 s.1) (fun s => ptrV (B.ad (.dir s.2))) B.ss ∧
  (n,[]) ∉ numsI B.ss∧∀ W:World,Finds W 3 (.int .i64 n) m (fun x:Int × Ents => ptrV (B.ad (.dir x.2))) (numsI B.ss) (n,[]):=by
 obtain ⟨m1,c1,h1,k1,k2⟩:=h.snapsI
 have hno:∀ x ∈ numsI B.ss,n ≠ x.1:=by
  intro x hx
  simp only [numsI,List.mem_map] at hx
  obtain ⟨s,hs,rfl⟩:=hx
  exact Ne.symm (hout s hs)
 refine ⟨m1,c1,h1,k1,fun hm => hno _ hm rfl,fun W => ?_⟩
 exact finds_int (w:=W) (g:=fun x:Int × Ents => x.1) (x0:=(n,[])) k2 (fun x hx he => absurd he (hno x hx))
theorem BankAt.addSnap (h:BankAt w B) {n:Nat} {es:Ents} (he:es ∈ B.ds) (hn:∀ s ∈ B.ss,s.1 ≠ n) {m:Array MapEntry} {c:Nat} (hh:Holds m (fun s:Nat × Ents => .int .i64 s.1) (fun s => ptrV (B.ad (.dir s.2))) B.ss)
  (hs:Set1 w w' B.rs (.map (m.push { key:=.int .i64 (n:Int),val:=ptrV (B.ad (.dir es)),born:=c }) (c + 1))):BankAt w' { B with ss:=B.ss ++ [(n,es)] }:=by
 obtain ⟨m2,c2,h2,k2⟩:=h.dmap
 obtain ⟨m3,c3,h3,k3⟩:=h.fmap
 have hmp:=h.maps
 refine ⟨(hs.other _ hmp.1).trans h.store,⟨_,_,hs.here,?_⟩,⟨m2,c2,(hs.other _ (Ne.symm h.apart.1)).trans h2,k2⟩,⟨m3,c3,(hs.other _ (Ne.symm h.apart.2.1)).trans h3,k3⟩,h.apart,
  fun d hd => (hs.other _ (h.far (t:=.file d) hd).2.1).trans (h.files d hd),fun es he => ⟨(h.dirs es he).1,(hs.other _ (h.far (t:=.dir es) he).2.1).trans (h.dirs es he).2⟩,h.closed,?_,h.ndD,h.ndF,?_⟩
 ·unfold Holds at *;simp [hh]
 ·intro s hs2
  simp only [List.mem_append,List.mem_singleton] at hs2
  rcases hs2 with hs2 | rfl
  ·exact h.roots s hs2
  ·exact he
 ·show ((B.ss ++ [(n,es)]).map (·.1)).Nodup
  rw [List.map_append,List.nodup_append]
  refine ⟨h.ndS,by simp,fun a ha b hb e => ?_⟩
  simp only [List.mem_map] at ha
  obtain ⟨s,hs3,rfl⟩:=ha
  simp at hb
  exact hn s hs3 (e.trans hb)
theorem BankAt.delSnap (h:BankAt w B) {j:Nat} {m:Array MapEntry} {c:Nat} (hh:Holds m (fun s:Nat × Ents => .int .i64 s.1) (fun s => ptrV (B.ad (.dir s.2))) B.ss)
  (hs:Set1 w w' B.rs (.map (m.eraseIdxIfInBounds j) c)):BankAt w' { B with ss:=B.ss.eraseIdx j }:=by
 obtain ⟨m2,c2,h2,k2⟩:=h.dmap
 obtain ⟨m3,c3,h3,k3⟩:=h.fmap
 have hmp:=h.maps
 refine ⟨(hs.other _ hmp.1).trans h.store,⟨_,_,hs.here,hh.erase j⟩,⟨m2,c2,(hs.other _ (Ne.symm h.apart.1)).trans h2,k2⟩,⟨m3,c3,(hs.other _ (Ne.symm h.apart.2.1)).trans h3,k3⟩,h.apart,
  fun d hd => (hs.other _ (h.far (t:=.file d) hd).2.1).trans (h.files d hd),fun es he => ⟨(h.dirs es he).1,(hs.other _ (h.far (t:=.dir es) he).2.1).trans (h.dirs es he).2⟩,h.closed,?_,h.ndD,h.ndF,?_⟩
 ·intro s hs2;exact h.roots s (List.mem_of_mem_eraseIdx hs2)
 ·show ((B.ss.eraseIdx j).map (·.1)).Nodup
  rw [map_erase];exact eraseIdx_nodup h.ndS j
end

open Go.RowKit
theorem Agree.len {B:Bank} {r:RSt} (h:Agree B r):r.all.length = B.ss.length:=by rw [← h.all];simp
theorem agree_cells {B:Bank} {r:RSt} (h:Agree B r) (es:Ents):cellsOf { r with all:=r.all ++ [(r.made,toF (filesE es))] } = cellsL ((B.ss.map (·.2) ++ [es]).map fun e => toF (filesE e)):=by
 unfold cellsOf;rw [← h.all];simp [List.map_map,Function.comp_def]
theorem okay_full {w w3:World} {B B2 B3:Bank} (hO:Okay w B) (h2:B2.ss = B.ss∧B2.room = B.room∧B2.made = B.made) {w2:World} (hS:Shrink w2 B2 w3 B3) (hC:Calm B3 (fun _ => 0)):Okay w3 B3:=by
 have e1:B3.ss = B.ss:=hS.same.ss.trans h2.1
 have e2:B3.room = B.room:=hS.same.room.trans h2.2.1
 have e3:B3.made = B.made:=hS.same.made.trans h2.2.2
 have hcell:cellsL ((B3.ss.map (·.2)).map fun e => toF (filesE e)) = B3.ds.length + B3.fs.length:=by
  refine bank_cells hS.at' hC.exact' hC.pos ?_ ?_ ?_
  ·intro e he;rw [e1] at he;simp only [List.mem_map] at he;obtain ⟨s,hs,rfl⟩:=he;exact (hO.wf s hs).1
  ·intro e he;simp only [List.mem_map] at he;obtain ⟨s,hs,rfl⟩:=he;exact hS.at'.roots s hs
  ·intro t ht
   obtain ⟨s,hs,rfl⟩:=occS_pos.1 (by omega:0 < occS B3.ss t)
   exact ⟨s.2,List.mem_map_of_mem hs,rfl⟩
 rw [e1,hO.cells] at hcell
 exact ⟨hS.at',hC,by rw [e1];exact hO.wf,by rw [e1];exact hO.few,by rw [e2,← hcell];exact hO.room,by rw [e1,e3];exact hO.nums⟩
theorem okay_more {w w3:World} {B B2:Bank} {es:Ents} (hO:Okay w B) (h2:B2.ss = B.ss∧B2.room = B.room∧B2.made = B.made) (hA:BankAt w3 { B2 with made:=B2.made + 1,ss:=B2.ss ++ [(B2.made,es)] }) (hC:Calm B2 (one (.dir es)))
  (hroom:B2.ds.length + B2.fs.length ≤ B.room) (h12:B.ss.length < 12) (hwf:WFE es) (hfl:(filesE es).length ≤ 20) (hht:heightE es ≤ 5):Okay w3 { B2 with made:=B2.made + 1,ss:=B2.ss ++ [(B2.made,es)] }:=by
 obtain ⟨e1,e2,e3⟩:=h2
 refine ⟨hA,⟨?_,hC.pos,fun s hs => by omega,hC.small⟩,?_,?_,?_,?_⟩
 ·intro s hs
  have:=hC.exact' s hs
  show B2.us s = occD B2.ds s + occS (B2.ss ++ [(B2.made,es)]) s + 0
  rw [occS_app];omega
 ·intro s hs
  have hs:s ∈ B2.ss ++ [(B2.made,es)]:=hs
  simp only [List.mem_append,List.mem_singleton] at hs
  rcases hs with hs | rfl
  ·rw [e1] at hs;exact hO.wf s hs
  ·exact ⟨hwf,hfl,hht⟩
 ·show (B2.ss ++ [(B2.made,es)]).length ≤ 12
  rw [e1];simp;omega
 ·show B2.ds.length + B2.fs.length ≤ B2.room∧B2.room ≤ 200
  rw [e2];exact ⟨hroom,hO.room.2⟩
 ·intro s hs
  have hs:s ∈ B2.ss ++ [(B2.made,es)]:=hs
  show s.1 < B2.made + 1
  simp only [List.mem_append,List.mem_singleton] at hs
  rcases hs with hs | rfl
  ·rw [e1] at hs;have:=hO.nums s hs;omega
  ·exact Nat.lt_succ_self _
theorem bank_few {w:World} {B:Bank} {x:Tree→Nat} {roots:List Ents} (hB:BankAt w B) (hx:Exact B x) (hp:Pos B) (hr:∀ t,0 < occS B.ss t + x t→∃ r ∈ roots,t = .dir r) (hfl:∀ r ∈ roots,(filesE r).length ≤ 20):B.fs.length ≤ 20 * roots.length:=by
 obtain ⟨M,hM⟩:=max_size B.ds
 have hreach:=bank_reach hB hx hp hr M hM
 have h1:B.fs.length ≤ (roots.flatMap fun r => (filesE r).map (·.2)).length:=by
  refine nodup_sub hB.ndF fun d hd => ?_
  have h3:=hx (.file d) hd
  have h4:=hp (.file d) hd
  have h5:¬ 0 < occS B.ss (.file d) + x (.file d):=by intro h;obtain ⟨r,_,h⟩:=hr _ h;simp at h
  obtain ⟨es,he,e,hm,h6⟩:=occD_pos.1 (show 0 < occD B.ds (.file d) by omega)
  obtain ⟨p,hp⟩:=filesE_child (f:=([],d)) hm (by rw [h6];simp [filesT])
  simp only [List.mem_flatMap,List.mem_map]
  obtain ⟨r,hr1,rfl | hr2⟩:=hreach _ es (Nat.le_refl _) he
  ·exact ⟨_,hr1,(p,d),hp,rfl⟩
  ·obtain ⟨q,hq⟩:=files_dirsE r es p d hr2 hp;exact ⟨r,hr1,(q,d),hq,rfl⟩
 have h2:∀ l:List Ents,(∀ r ∈ l,(filesE r).length ≤ 20)→(l.flatMap fun r => (filesE r).map (·.2)).length ≤ 20 * l.length:=by
  intro l
  induction l with
  | nil => simp
  | cons a l ih =>
   intro h
   have:=ih (fun r hr => h r (by simp [hr]))
   have h3:=h a (by simp)
   simp only [List.flatMap_cons,List.length_append,List.length_map,List.length_cons];omega
 exact Nat.le_trans h1 (h2 roots hfl)
theorem held_few {w2:World} {B2:Bank} {es:Ents} (hA:BankAt w2 B2) (hC:Calm B2 (one (.dir es))) (hfl:(filesE es).length ≤ 20) (hwf:∀ s ∈ B2.ss,(filesE s.2).length ≤ 20) (h12:B2.ss.length ≤ 12):B2.fs.length ≤ 260:=by
 have:=bank_few (roots:=B2.ss.map (·.2) ++ [es]) hA hC.exact' hC.pos (by
  intro t ht
  by_cases e:t = .dir es
  ·exact ⟨es,by simp,e⟩
  ·rw [one_other e] at ht
   obtain ⟨s,hs,rfl⟩:=occS_pos.1 (by omega:0 < occS B2.ss t)
   exact ⟨s.2,by simp only [List.mem_append,List.mem_map];exact .inl ⟨s,hs,rfl⟩,rfl⟩) (by
  intro r hr
  simp only [List.mem_append,List.mem_map,List.mem_singleton] at hr
  rcases hr with ⟨s,hs,rfl⟩ | rfl
  ·exact hwf s hs
  ·exact hfl)
 simp only [List.length_append,List.length_map,List.length_cons,List.length_nil] at this
 omega
theorem agree_same {B B' : Bank} {r:RSt} (h:Agree B r) (h1:B'.room = B.room) (h2:B'.made = B.made) (h3:B'.ss = B.ss):Agree B' r:=⟨h1.trans h.room,h2.trans h.made,by rw [h3];exact h.all⟩
theorem agree_more {B B' : Bank} {r:RSt} {es:Ents} (h:Agree B r) (h1:B'.room = B.room) (h2:B'.made = B.made + 1) (h3:B'.ss = B.ss ++ [(B.made,es)]):Agree B' { r with all:=r.all ++ [(r.made,toF (filesE es))],made:=r.made + 1 } :=
 ⟨h1.trans h.room,by rw [h2,h.made],by rw [h3,List.map_append,h.all,h.made];rfl⟩
set_option maxHeartbeats 4000000 in
theorem storeAdd_any (N:Nat) (B:Bank) (b:Nat) (u:Int) (vs:List (Str × Value)) (es:Ents) (r:RSt) (w:World) (hO:Okay w B) (ha:Agree B r) (hd:DirAt w b u vs) (hq:QK N B b u) (he:RepE w (QK N B) vs es) (hN:N ≤ w.heap.size)
  (hwf:WFE es) (hfl:(filesE es).length ≤ 20) (hht:heightE es ≤ 5) (hmade:B.made < 4611686018427387904) :
  Calls Tryz.prog 63 #[ptrV B.sb,ptrV b] w fun e w' => StepOut N w B (keepR r (toF (filesE es))) e w':=by
 obtain ⟨m1,c1,h1,k1⟩:=hO.at'.snaps
 have s2:w.cell? ⟨B.sb,2,none⟩ = some (.map (some B.rs)):=(blk_cell hO.at'.store 2).trans rfl
 have H1:Hid _:=h1
 have L1:Hid (m1.size = B.ss.length):=k1.len
 clear h1 k1
 by_cases h12:12 ≤ B.ss.length
 ·have hI:(12:Int) ≤ (B.ss.length:Int):=by omega
  have R:Hid (∀ W,Below w.heap.size w W→StepOut N w B (keepR r (toF (filesE es))) (.returned (.tuple #[.int .i64 0,.int .i64 7])) W):=by
   intro W hW
   rw [keepR_many (by rw [ha.len];exact h12)]
   exact ⟨B,rfl,⟨hO.at'.below hW,hO.calm,hO.wf,hO.few,hO.room,hO.nums⟩,ha,Ext.of_below hN hW⟩
  clear hO ha hd hq he
  go_enter Tryz.func63,Tryz.ntmps63
  go_wp2_with (refine wpList_len rfl 82 (.tmp 11) rfl _ _ Tryz.underlying82 B.rs c1 m1 rfl H1.out _ L1.out ?_)
  go_ret2
  exact R.out _ (Below.refl _ _)
 ·have hI:¬ (12:Int) ≤ (B.ss.length:Int):=by omega
  have hdl:=dirs_100 hwf hfl hht
  have hfit:Fits B (.dir es):=⟨by rw [dirsT];simp only [List.length_cons];have:=hO.room;omega,by have:=hO.few;omega⟩
  have C1:Hid (Calls Tryz.prog 91 #[ptrV B.sb,ptrV b] w fun e w' => KeepDirOut N w B es e w'):=keepDir_any N _ es B b u vs w (Nat.le_refl _) hO.at' hO.calm.exact' hd hq he hN hfit
  have HO:Hid _:=hO
  have HA:Hid _:=ha
  clear hO ha hd hq he hfit
  go_enter Tryz.func63,Tryz.ntmps63
  go_wp2_with (first | (refine wpList_len rfl 82 (.tmp 11) rfl _ _ Tryz.underlying82 B.rs c1 m1 rfl H1.out _ L1.out ?_) | fail)
  refine C1.out.mono ?_
  rintro e w1 ⟨B1,hK,rfl⟩
  have hG:=hK.1
  have hh:B1.has (.dir es):=hK.2.2.1
  obtain ⟨hc1,hf1⟩:=users_cell hG.at' hh
  have hlen1:B1.ds.length ≤ 100000:=by
   have h3:=hK.2.2.2.2
   rw [dirsT] at h3
   simp only [List.length_cons] at h3
   have:=HO.out.room;omega
  have hub:B1.us (.dir es) < 4611686018427387904:=by
   have:=users_bound hG.at' hK.2.1 hh hlen1 (by rw [hG.same.ss];have:=HO.out.few;omega) (Nat.zero_le _);omega
  have hs1:=users_set1 hG.at' hh (B1.us (.dir es) + 1)
  have hA2:=hG.at'.setUsers hh _ hs1
  have hC2:=held_calm HO.out hK hlen1
  have hX1:Ext N w B w1 B1:=Ext.of_grow hN hG
  have hX2:Ext N w1 B1 (w1.setCell ⟨B1.ad (.dir es),0,none⟩ (.int .i64 ((B1.us (.dir es) + 1:Nat):Int))) { B1 with us:=upd B1.us (.dir es) (B1.us (.dir es) + 1) }:=Ext.of_set1 hs1 (.inr (.inr (.inr (.inr ⟨_,hh,rfl⟩)))) ⟨rfl,rfl,rfl,rfl,rfl⟩ (fun k hk => hk)
  have hX:=hX1.trans hX2
  have hsz1:=hG.step.size
  obtain ⟨B2,hB2⟩ : ∃ B2:Bank,B2 = { B1 with us:=upd B1.us (.dir es) (B1.us (.dir es) + 1) }:=⟨_,rfl⟩
  have had:B2.ad (.dir es) = B1.ad (.dir es):=by rw [hB2]
  have hsame:B2.ss = B.ss∧B2.room = B.room∧B2.made = B.made:=by rw [hB2];exact ⟨hG.same.ss,hG.same.room,hG.same.made⟩
  have hfour:B2.sb = B.sb∧B2.rs = B.rs:=by rw [hB2];exact ⟨hG.same.sb,hG.same.rs⟩
  have hin2:es ∈ B2.ds:=by rw [hB2];exact hh
  have hBd:B2.ds = B1.ds:=by rw [hB2]
  rw [← hB2] at hA2 hC2 hX
  clear hB2 hX1 hX2 hs1 hK hG hh
  generalize hbb:B1.ad (.dir es) = bb at *
  generalize B1.us (.dir es) = uu at *
  clear hbb
  go_wp2_with fail
  refine (hold_any bb uu _ hc1 hf1 hub).mono ?_
  rintro e w2' ⟨rfl,rfl⟩
  have hsz2:N ≤ (w1.setCell ⟨bb,0,none⟩ (.int .i64 ((uu + 1:Nat):Int))).heap.size:=by simp [World.setCell];omega
  clear hc1 hf1
  generalize w1.setCell ⟨bb,0,none⟩ (.int .i64 ((uu + 1:Nat):Int)) = w2 at *
  have hcell:=held_cells (ss:=B.ss) hA2 hC2 hsame.1 (fun s hs => (HO.out.wf s hs).1) hwf
  have c0:w2.cell? ⟨B.sb,0,none⟩ = some (.int .i64 B.room):=by rw [← hfour.1,← hsame.2.1];exact (blk_cell hA2.store 0).trans rfl
  have c1' : w2.cell? ⟨B.sb,1,none⟩ = some (.int .i64 B.made):=by rw [← hfour.1,← hsame.2.2];exact (blk_cell hA2.store 1).trans rfl
  have c2' : w2.cell? ⟨B.sb,2,none⟩ = some (.map (some B.rs)):=by rw [← hfour.1,← hfour.2];exact (blk_cell hA2.store 2).trans rfl
  have cf:w2.frozen? ⟨B.sb,1,none⟩ = false:=by rw [← hfour.1];exact blk_free hA2.store 1
  have hlen2:B2.ds.length ≤ 100000:=by rw [hBd];exact hlen1
  have hfs2:=held_few hA2 hC2 hfl (by rw [hsame.1];exact fun s hs => (HO.out.wf s hs).2.1) (by rw [hsame.1];omega)
  have CC:Hid (∀ n,Calls Tryz.prog 16 #[ptrV B.sb] (w2.drewN n) fun e w'' => e = .returned (.int .i64 ((B2.ds.length + B2.fs.length:Nat):Int))∧∃ m,w'' = w2.drewN m):=by
   intro n
   have:=bankCells_any B2 (w2.drewN n) (hA2.below (below_like rfl rfl rfl rfl)) (by omega)
   rw [hfour.1] at this
   exact Calls.quiet_of this
  have HA2:Hid (BankAt w2 B2):=hA2
  have HC2:Hid _:=hC2
  have HX:Hid _:=hX
  have HCE:Hid _:=hcell
  clear hA2 hC2 hX hcell hub hlen1
  generalize hcc:B2.ds.length + B2.fs.length = cc at *
  by_cases hfull:B.room < cc
  ·have hfI:(B.room:Int) < (cc:Int):=by omega
   go_wp2_with fail
   go_quiet (first | (go_at_call 16;exact CC.out _))
   go_wp2_with fail
   have hb3:Below w2.heap.size w2 (w2.drewN nq):=below_like rfl rfl rfl rfl
   have CD:=drop_any (.dir es) B2 (one (.dir es)) (w2.drewN nq) (HA2.out.below hb3) HC2.out (by rw [one_same];omega)
   have e1:valT B2.ad (.dir es) = dirV bb:=by show dirV (B2.ad (.dir es)) = _;rw [had]
   rw [hfour.1,e1] at CD
   refine CD.mono ?_
   rintro e w3 ⟨rfl,B3,hS,hC⟩
   have R:Hid (StepOut N w B (keepR r (toF (filesE es))) (.returned (.tuple #[.int .i64 0,.int .i64 8])) w3):=by
    have hC0:Calm B3 (fun _ => 0):=by
     have:(fun s => one (.dir es) s - one (.dir es) s) = fun _ => 0:=by funext s;omega
     rw [this] at hC;exact hC
    rw [keepR_full (by rw [HA.out.len];omega) (by rw [agree_cells HA.out,HCE.out,← HA.out.room];exact hfull)]
    exact ⟨B3,rfl,okay_full HO.out hsame hS hC0,agree_same HA.out (hS.same.room.trans hsame.2.1) (hS.same.made.trans hsame.2.2) (hS.same.ss.trans hsame.1),(HX.out.trans (Ext.of_below hsz2 hb3)).trans (Ext.of_shrink hsz2 hS)⟩
   clear hS hC CD hb3
   go_wp2
   go_ret2
   exact R.out
  ·have hfI:¬ (B.room:Int) < (cc:Int):=by omega
   go_wp2_with fail
   go_quiet (first | (go_at_call 16;exact CC.out _))
   go_upto_region 10 with fail
   have hb3:Below w2.heap.size w2 (w2.drewN nq):=below_like rfl rfl rfl rfl
   obtain ⟨hA4,hs4⟩:=(HA2.out.below hb3).setMade (B2.made + 1)
   have hw:(w2.drewN nq).setCell ⟨B2.sb,1,none⟩ (.int .i64 ((B2.made + 1:Nat):Int)) = (w2.drewN nq).setCell ⟨B.sb,1,none⟩ (.int .i64 ((B.made:Int) + 1)):=by rw [hfour.1,hsame.2.2];rfl
   rw [hw] at hA4 hs4
   clear hw c0 c1' c2' cf
   generalize (w2.drewN nq).setCell ⟨B.sb,1,none⟩ (.int .i64 ((B.made:Int) + 1)) = w4 at *
   have hnum:∀ s ∈ B2.ss,s.1 ≠ B2.made:=by rw [hsame.1,hsame.2.2];intro s hs e;have:=HO.out.nums s hs;omega
   obtain ⟨m,c,hm,hh,hno,hF⟩:=hA4.find_out (n:=(B2.made:Int)) (by intro s hs e;exact hnum s hs (by omega))
   obtain ⟨w5,hu5,hs5⟩:=run_mapUpdate_new Tryz.underlying82 hm (hF w4) hno (ptrV bb)
   have hA5:=hA4.addSnap (n:=B2.made) (es:=es) hin2 hnum hh (w':=w5) (c:=c) (by rw [← had] at hs5;exact hs5)
   have hrs:({ B2 with made:=B2.made + 1 }:Bank).rs = B.rs:=hfour.2
   rw [hrs,hsame.2.2] at hu5
   have k2:w4.cell? ⟨B.sb,2,none⟩ = some (.map (some B.rs)):=by rw [← hfour.1,← hfour.2];exact (blk_cell hA4.store 2).trans rfl
   have R:Hid (StepOut N w B (keepR r (toF (filesE es))) (.returned (.tuple #[.int .i64 B.made,.int .i64 0])) w5):=by
    rw [keepR_ok (by rw [HA.out.len];omega) (by rw [agree_cells HA.out,HCE.out,← HA.out.room];exact hfull)]
    have hag:Agree { B2 with made:=B2.made + 1,ss:=B2.ss ++ [(B2.made,es)] } { r with all:=r.all ++ [(r.made,toF (filesE es))],made:=r.made + 1 } :=
     agree_more (B':={ B2 with made:=B2.made + 1,ss:=B2.ss ++ [(B2.made,es)] }) HA.out hsame.2.1 (by show B2.made + 1 = _;rw [hsame.2.2]) (by show B2.ss ++ [(B2.made,es)] = _;rw [hsame.1,hsame.2.2])
    refine ⟨{ B2 with made:=B2.made + 1,ss:=B2.ss ++ [(B2.made,es)] },by rw [HA.out.made];rfl,okay_more HO.out hsame hA5 HC2.out (by omega) (by omega) hwf hfl hht,hag,?_⟩
    have x3:Ext N w2 B2 (w2.drewN nq) B2:=Ext.of_below hsz2 hb3
    have x4:Ext N (w2.drewN nq) B2 w4 { B2 with made:=B2.made + 1 }:=Ext.of_set1 hs4 (.inl rfl) ⟨rfl,rfl,rfl,rfl,rfl⟩ (fun k hk => hk)
    have x5:Ext N w4 { B2 with made:=B2.made + 1 } w5 { B2 with made:=B2.made + 1,ss:=B2.ss ++ [(B2.made,es)] }:=Ext.of_set1 hs5 (.inr (.inl rfl)) ⟨rfl,rfl,rfl,rfl,rfl⟩ (fun k hk => hk)
    exact ((HX.out.trans x3).trans x4).trans x5
   clear hA4 hs4 hm hh hno hF hA5 hs5 hb3 hrs hnum
   go_wp2
   go_ret2
   exact R.out

open Go.RowKit
theorem path_ok {p:Str} (h:isPathL p = true):OkN (splitL 47 p)∧joinP (splitL 47 p) = p∧(splitL 47 p).length ≤ 5:=by
 unfold isPathL at h
 simp only [Bool.and_eq_true,decide_eq_true_eq,List.all_eq_true] at h
 exact ⟨⟨splitL_ne 47 p,h.1.2⟩,join_split p,h.2⟩
theorem find_agree {B:Bank} {r:RSt} (ha:Agree B r) (n:Int):(findL r.all n = none∧∀ s ∈ B.ss,(s.1:Int) ≠ n)∨(∃ k es,(k,es) ∈ B.ss∧(k:Int) = n∧findL r.all n = some (toF (filesE es))):=by
 rw [← ha.all]
 generalize B.ss = ss
 unfold findL
 induction ss with
 | nil => left;exact ⟨rfl,by simp⟩
 | cons a ss ih =>
  by_cases e:(a.1:Int) = n
  ·right
   refine ⟨a.1,a.2,by simp,e,?_⟩
   simp [e]
  ·rcases ih with ⟨h1,h2⟩ | ⟨k,es,h1,h2,h3⟩
   ·left
    refine ⟨?_,?_⟩
    ·simp only [List.map_cons,List.find?_cons]
     have:((a.1:Int) == n) = false:=by simpa using e
     rw [this];exact h1
    ·intro s hs;simp only [List.mem_cons] at hs;rcases hs with rfl | hs
     ·exact e
     ·exact h2 s hs
   ·right
    refine ⟨k,es,by simp [h1],h2,?_⟩
    simp only [List.map_cons,List.find?_cons]
    have:((a.1:Int) == n) = false:=by simpa using e
    rw [this];exact h3
theorem rep_has {w:World} {B:Bank} (hB:BankAt w B) (N n:Nat):∀ t,SizeOf.sizeOf t ≤ n→B.has t→RepT w (QK N B) (valT B.ad t) t:=by
 induction n with
 | zero => intro t hn;cases t <;> simp at hn <;> omega
 | succ n ih =>
  intro t hn ht
  cases t with
  | file d => exact .file (hB.files d ht) (fun _ => ⟨_,ht,rfl⟩)
  | dir es =>
   refine .dir (hB.dirs es ht) (fun _ => ⟨_,ht,rfl⟩) ?_
   have hcl:=hB.closed es ht
   have hsz:∀ e ∈ es,SizeOf.sizeOf e.2 ≤ n:=fun e hm => by have:=size_child hm;omega
   clear hn ht
   induction es with
   | nil => exact .nil
   | cons e es ih2 =>
    obtain ⟨x,t⟩:=e
    exact .cons (ih t (hsz (x,t) (by simp)) (hcl (x,t) (by simp))) (ih2 (fun a ha => hcl a (by simp [ha])) (fun a ha => hsz a (by simp [ha])))
theorem rep_root {w:World} {B:Bank} (hB:BankAt w B) (N:Nat) {es:Ents} (h:es ∈ B.ds):RepE w (QK N B) (valsE B.ad es) es:=by
 have:=rep_has hB N _ (.dir es) (Nat.le_refl _) h
 unfold valT at this
 cases this with
 | dir hd hq he => rw [(dirAt_inj (hB.dirs es h) hd).2];exact he
theorem Okay.below {w w' : World} {B:Bank} (h:Okay w B) (hb:Below w.heap.size w w'):Okay w' B:=⟨h.at'.below hb,h.calm,h.wf,h.few,h.room,h.nums⟩
theorem sorted_nodup {l:List NF} (h:SortedN l):(l.map (·.1)).Nodup:=by
 unfold SortedN at h
 induction l with
 | nil => simp
 | cons a l ih =>
  rw [List.pairwise_cons] at h
  rw [List.map_cons,List.nodup_cons]
  refine ⟨?_,ih h.2⟩
  intro hm
  simp only [List.mem_map] at hm
  obtain ⟨b,hb,e⟩:=hm
  have:=h.1 b hb
  rw [e,ls_irrefl] at this;simp at this
theorem insN_len {l:List NF} {f:NF} (hs:SortedN l):(insN l f).length ≤ l.length + 1∧((∃ g ∈ l,g.1 = f.1)→(insN l f).length ≤ l.length):=by
 have hn:=sorted_nodup (insN_sorted hs f)
 constructor
 ·have:=nodup_sub (b:=f.1 :: l.map (·.1)) hn (by
   intro x hx
   simp only [List.mem_map] at hx
   obtain ⟨g,hg,rfl⟩:=hx
   rcases (insN_mem hs f g).1 hg with h | h
   ·rw [h];simp
   ·simp only [List.mem_cons,List.mem_map];exact .inr ⟨g,h.1,rfl⟩)
  simpa using this
 ·rintro ⟨g0,hg0,he⟩
  have:=nodup_sub (b:=l.map (·.1)) hn (by
   intro x hx
   simp only [List.mem_map] at hx ⊢
   obtain ⟨g,hg,rfl⟩:=hx
   rcases (insN_mem hs f g).1 hg with h | h
   ·exact ⟨g0,hg0,by rw [h,he]⟩
   ·exact ⟨g,h.1,rfl⟩)
  simpa using this
theorem put_height {es:Ents} {q:List Str} {t:Tree} (h:WFE es) (hq:OkN q) (ht:WFT t) (hb:look (some (.dir es)) q ≠ .blocked) (hh:heightE es ≤ 5) (hl:q.length + heightT t ≤ 5):heightE (putE es q t) ≤ 5:=by
 have hw:WFE (putE es q t):=(put_wf h hq.2 ht).1
 rw [heightE_le _ hw]
 intro x r d hd
 rw [fileAt_put hq.1 hb] at hd
 by_cases hp:q <+: x :: r
 ·rw [if_pos hp] at hd
  have h1:=(height_le t ht (heightT t)).1 (Nat.le_refl _) _ _ hd
  rw [List.length_drop] at h1
  have:=hp.length_le;omega
 ·rw [if_neg hp] at hd
  exact (heightE_le es h 5).1 hh x r d hd
theorem names_at_put {es:Ents} {q:List Str} {d:Str} (h:WFE es) (hq:OkN q) (hd:d.length ≤ 30) (hb:look (some (.dir es)) q ≠ .blocked) (hdir:look (some (.dir es)) q ≠ .atDir) :
  toF (filesE (putE es q (.file d))) = putL (toF (filesE es)) (joinP q,d)∧filesE (putE es q (.file d)) = insN (filesE es) (q,d):=by
 have hv:=(valid_files h).1
 have hno:∀ R e,R ≠ []→fileAt (.dir es) (q ++ R) ≠ some e:=by
  intro R e hR he
  apply hdir
  rw [(look_names h hq).2.1,isDir_names hv hq]
  exact ⟨(q ++ R,e),(mem_root h _ _).2 he,R,hR,rfl⟩
 have h1:=put_files h hq hd hb hno
 exact ⟨by rw [h1];exact (put_names (f:=(q,d)) hv hq (sorted_filesE _ h)).symm,h1⟩

open Go.RowKit
theorem stepOut_no {N:Nat} {w W:World} {B:Bank} {r:RSt} {o:RSt × Nat × Nat} {er:Nat} (hO:Okay w B) (ha:Agree B r) (hN:N ≤ w.heap.size) (hW:Below w.heap.size w W) (ho:o = (r,0,er)):StepOut N w B o (.returned (.tuple #[.int .i64 0,.int .i64 er])) W:=by
 subst ho;exact ⟨B,rfl,hO.below hW,ha,Ext.of_below hN hW⟩
theorem snap_look {w:World} {B:Bank} {k:Nat} {es:Ents} (hB:BankAt w B) (hk:(k,es) ∈ B.ss):(Instr.lookup 82 (.map (some B.rs)) (.int .i64 (k:Int)) false).run Tryz.prog w = .ok (ptrV (B.ad (.dir es))) w:=by
 obtain ⟨m,c,h1,h2,h3⟩:=hB.find_in hk
 have:=run_lookup_in Tryz.underlying82 h1 (h3 w) hk
 exact this
theorem snap_none {w:World} {B:Bank} {n:Int} (hB:BankAt w B) (hk:∀ s ∈ B.ss,(s.1:Int) ≠ n):(Instr.lookup 82 (.map (some B.rs)) (.int .i64 n) false).run Tryz.prog w = .ok (.pointer none) w:=by
 obtain ⟨m,c,h1,h2,h3,h4⟩:=hB.find_out hk
 have:=run_lookup_out Tryz.underlying82 h1 (h4 w) h3 (zeroDir w)
 exact this
theorem putR_none {r:RSt} {n:Int} {p d:Str} (h:findL r.all n = none):putR r n p d = (r,0,2):=by unfold putR;rw [h]
theorem putR_path {r:RSt} {n:Int} {p d:Str} {l:List Fl} (h:findL r.all n = some l) (h1:isPathL p = false):putR r n p d = (r,0,3):=by unfold putR;rw [h];simp [h1]
theorem putR_long {r:RSt} {n:Int} {p d:Str} {l:List Fl} (h:findL r.all n = some l) (h1:isPathL p = true) (h2:30 < d.length):putR r n p d = (r,0,4):=by unfold putR;rw [h];simp [h1,h2]
theorem putR_kind {r:RSt} {n:Int} {p d:Str} {l:List Fl} (h:findL r.all n = some l) (h1:isPathL p = true) (h2:¬ 30 < d.length) (h3:isDirL l p = true∨crossedL l p = true):putR r n p d = (r,0,5):=by
 unfold putR;rw [h];simp only [h1,h2];rw [if_neg (by simp),if_neg (by simp),if_pos (by simpa using h3)]
theorem putR_many {r:RSt} {n:Int} {p d:Str} {l:List Fl} (h:findL r.all n = some l) (h1:isPathL p = true) (h2:¬ 30 < d.length) (h3:¬ (isDirL l p = true∨crossedL l p = true)) (h4:getI l p < 0∧20 ≤ l.length):putR r n p d = (r,0,7):=by
 unfold putR;rw [h];simp only [h1,h2];rw [if_neg (by simp),if_neg (by simp),if_neg (by simpa using h3),if_pos h4]
theorem putR_go {r:RSt} {n:Int} {p d:Str} {l:List Fl} (h:findL r.all n = some l) (h1:isPathL p = true) (h2:¬ 30 < d.length) (h3:¬ (isDirL l p = true∨crossedL l p = true)) (h4:¬ (getI l p < 0∧20 ≤ l.length)):putR r n p d = keepR r (putL l (p,d)):=by
 unfold putR;rw [h];simp only [h1,h2];rw [if_neg (by simp),if_neg (by simp),if_neg (by simpa using h3),if_neg h4]
theorem slice_some (a:Addr) (n c:Nat) (w:World):(binOp .eql 48 (.slice (some a) n c) (.slice none 0 0)).run Tryz.prog w = .ok (.bool false) w:=by
 simp only [binOp]
 simp [Op.equal,Op.maxDepth,run_equalIn_slice_nil w 9999 48 _ (some a) n c Tryz.underlying48]
theorem slice_none (w:World):(binOp .eql 48 (.slice none 0 0) (.slice none 0 0)).run Tryz.prog w = .ok (.bool true) w:=by
 simp only [binOp]
 simp [Op.equal,Op.maxDepth,run_equalIn_slice_nil w 9999 48 _ none 0 0 Tryz.underlying48]
theorem put_tail {w W w2:World} {B:Bank} {r:RSt} {n:Int} {p d:Str} {es:Ents} (hO:Okay w B) (ha:Agree B r) (hmade:B.made < 4611686018427387904) (hfind:findL r.all n = some (toF (filesE es))) (hin:∃ k,(k,es) ∈ B.ss)
  (hpt:isPathL p = true) (hd:¬ 30 < d.length) (hb:look (some (.dir es)) (splitL 47 p) ≠ .blocked) (hdir:look (some (.dir es)) (splitL 47 p) ≠ .atDir) (hfree:look (some (.dir es)) (splitL 47 p) = .free→(filesE es).length < 20)
  (hb2:Below w.heap.size w w2) (hbW:Below w2.heap.size w2 W) {b4:Nat} {vs4:List (Str × Value)} (hd4:DirAt W b4 0 vs4) (hb4:w.heap.size ≤ b4) (he4:RepE W (QK w.heap.size B) vs4 (putE es (splitL 47 p) (.file d))) :
  Calls Tryz.prog 63 #[ptrV B.sb,ptrV b4] W fun e w' => StepOut w.heap.size w B (putR r n p d) e w':=by
 obtain ⟨k,hk⟩:=hin
 obtain ⟨hwf,hfl,hht⟩ : WFE es∧(filesE es).length ≤ 20∧heightE es ≤ 5:=hO.wf _ hk
 obtain ⟨hq,hj,h5⟩:=path_ok hpt
 have hBW:Below w.heap.size w W:=hb2.trans (hbW.mono hb2.size)
 obtain ⟨e1,e2⟩:=names_at_put (d:=d) hwf hq (by omega) hb hdir
 have hlk:=look_names hwf hq
 rw [hj] at hlk e1
 have hlen:(toF (filesE es)).length = (filesE es).length:=by simp [toF]
 have h3:¬ (isDirL (toF (filesE es)) p = true∨crossedL (toF (filesE es)) p = true):=by rw [← hlk.2.1,← hlk.2.2];exact fun h => h.elim hdir hb
 have h4:¬ (getI (toF (filesE es)) p < 0∧20 ≤ (toF (filesE es)).length):=by
  rintro ⟨h6,h7⟩
  have h8:look (some (.dir es)) (splitL 47 p) ≠ .atFile:=fun h => (hlk.1.1 h) h6
  have h9:look (some (.dir es)) (splitL 47 p) = .free:=by
   cases hx:look (some (.dir es)) (splitL 47 p) with
   | free => rfl
   | blocked => exact absurd hx hb
   | atFile => exact absurd hx h8
   | atDir => exact absurd hx hdir
  have:=hfree h9;omega
 have hfl4:(filesE (putE es (splitL 47 p) (.file d))).length ≤ 20:=by
  rw [e2]
  have h10:=insN_len (f:=(splitL 47 p,d)) (sorted_filesE _ hwf)
  cases hx:look (some (.dir es)) (splitL 47 p) with
  | free => have:=hfree hx;omega
  | blocked => exact absurd hx hb
  | atDir => exact absurd hx hdir
  | atFile =>
   have h11:=hlk.1.1 hx
   rw [← hj] at h11
   have h12:∃ g ∈ filesE es,g.1 = splitL 47 p:=by
    have:=mt (get_names (valid_files hwf).1 hq).2 h11
    exact Classical.byContradiction fun hc => this fun f hf e => hc ⟨f,hf,e⟩
   have:=h10.2 h12;omega
 have hwf4:WFE (putE es (splitL 47 p) (.file d)):=(put_wf hwf hq.2 (by unfold WFT;omega)).1
 have hht4:=put_height (t:=.file d) hwf hq (by unfold WFT;omega) hb hht (by simp only [heightT];omega)
 have C:=storeAdd_any w.heap.size B b4 0 vs4 _ r W (hO.below hBW) ha hd4 (fun h => by rcases h with h | h;exact absurd rfl h;omega) he4 hBW.size hwf4 hfl4 hht4 hmade
 rw [putR_go hfind hpt hd h3 h4]
 refine C.mono ?_
 rintro e w' ⟨B',h1,h2,h13,h14⟩
 rw [e1] at h1 h13
 exact ⟨B',h1,h2,h13,(Ext.of_below (Nat.le_refl _) hBW).trans h14⟩
set_option maxHeartbeats 4000000 in
set_option maxRecDepth 50000 in
theorem storePut_any (B:Bank) (r:RSt) (n:Int) (p d:Str) (w:World) (hO:Okay w B) (ha:Agree B r) (hmade:B.made < 4611686018427387904) (hp:p.length + 1 < maxLen) (hdm:d.length ≤ maxLen) :
  Calls Tryz.prog 38 #[ptrV B.sb,.int .i64 n,SV p,SV d] w fun e w' => StepOut w.heap.size w B (putR r n p d) e w':=by
 have s2:w.cell? ⟨B.sb,2,none⟩ = some (.map (some B.rs)):=(blk_cell hO.at'.store 2).trans rfl
 rcases find_agree ha n with ⟨hf,hno⟩ | ⟨k,es,hk,rfl,hf⟩
 ·have hl:=snap_none hO.at' hno
  have R:Hid (StepOut w.heap.size w B (putR r n p d) (.returned (.tuple #[.int .i64 0,.int .i64 2])) w):=stepOut_no hO ha (Nat.le_refl _) (Below.refl _ _) (putR_none hf)
  clear hO ha hf hno
  go_enter Tryz.func38,Tryz.ntmps38
  go_wp2
  go_ret2
  exact R.out
 ·have hl:=snap_look hO.at' hk
  have hes:es ∈ B.ds:=hO.at'.roots _ hk
  obtain ⟨hwf,hfl,hht⟩ : WFE es∧(filesE es).length ≤ 20∧heightE es ≤ 5:=hO.wf _ hk
  have HD:Hid (DirAt w (B.ad (.dir es)) (B.us (.dir es)) (valsE B.ad es)):=hO.at'.dirs es hes
  have HE:Hid (RepE w (QK w.heap.size B) (valsE B.ad es) es):=rep_root hO.at' _ hes
  have HQ:Hid (QK w.heap.size B (B.ad (.dir es)) (B.us (.dir es))):=fun _ => ⟨.dir es,hes,rfl⟩
  have HO:Hid _:=hO
  have HA:Hid _:=ha
  have HF:Hid _:=hf
  have HK:Hid _:=hk
  clear hO ha hf hk hes
  generalize B.ad (.dir es) = bb at *
  generalize B.us (.dir es) = uu at *
  have hpm:=hp
  have hsn:=slice_some
  have hs0:=slice_none
  unfold maxLen at hdm
  go_enter Tryz.func38,Tryz.ntmps38
  go_wp2_with fail
  refine (namesOf_any p _ hpm).mono ?_
  rintro e w1 ⟨hb1,⟨hpf,rfl⟩ | ⟨hpt,a,nn,c,rfl,hn1⟩⟩
  ·have R:Hid (StepOut w.heap.size w B (putR r k p d) (.returned (.tuple #[.int .i64 0,.int .i64 3])) w1):=stepOut_no HO.out HA.out (Nat.le_refl _) hb1 (putR_path HF.out hpf)
   clear hpf hb1
   go_wp2
   go_ret2
   exact R.out
  ·by_cases hd:30 < d.length
   ·have hdI:(30:Int) < (d.length:Int):=by omega
    have R:Hid (StepOut w.heap.size w B (putR r k p d) (.returned (.tuple #[.int .i64 0,.int .i64 4])) w1):=stepOut_no HO.out HA.out (Nat.le_refl _) hb1 (putR_long HF.out hpt hd)
    clear hpt hb1 hn1 hd
    go_wp2
    go_ret2
    exact R.out
   ·have hdI:¬ (30:Int) < (d.length:Int):=by omega
    have HB1:Hid _:=hb1
    have HN1:Hid (NamesAt w1 (.slice (some a) nn c) (splitL 47 p)):=hn1
    have HPT:Hid _:=hpt
    have CL:Hid (Calls Tryz.prog 51 #[dirV bb,.slice (some a) nn c] w1 fun e w' => LookOut w' (QK w.heap.size B) (some (.dir es)) (splitL 47 p) e∧Below w1.heap.size w1 w') :=
     look_any (QK w.heap.size B) (splitL 47 p) (some (.dir es)) _ _ w1 (.dir (HD.out.below hb1 (Nat.le_refl _)) HQ.out (HE.out.later hb1 (Nat.le_refl _))) hwf hn1
    clear hb1 hn1 hpt
    go_wp2_with fail
    refine CL.out.mono ?_
    rintro e w2 ⟨⟨v,rfl,hr⟩,hb2⟩
    have HB2:Hid (Below w.heap.size w w2):=HB1.out.trans (hb2.mono HB1.out.size)
    have HN2:Hid (NamesAt w2 (.slice (some a) nn c) (splitL 47 p)):=names_below HN1.out hb2 (Nat.le_refl _)
    clear hb2 CL HN1
    have hqo:=path_ok HPT.out
    have hlk:=look_names hwf hqo.1
    rw [hqo.2.1] at hlk
    have hfit:look (some (.dir es)) (splitL 47 p) ≠ .blocked→look (some (.dir es)) (splitL 47 p) ≠ .atDir→(look (some (.dir es)) (splitL 47 p) = .free→(filesE es).length < 20)→(filesE (putE es (splitL 47 p) (.file d))).length ≤ 20:=by
     intro h1 h2 h3
     rw [(names_at_put (d:=d) hwf hqo.1 (by omega) h1 h2).2]
     have h10:=insN_len (f:=(splitL 47 p,d)) (sorted_filesE _ hwf)
     cases hx:look (some (.dir es)) (splitL 47 p) with
     | free => have:=h3 hx;omega
     | blocked => exact absurd hx h1
     | atDir => exact absurd hx h2
     | atFile =>
      have h11:=hlk.1.1 hx
      rw [← hqo.2.1] at h11
      have h12:∃ g ∈ filesE es,g.1 = splitL 47 p:=by
       have:=mt (get_names (valid_files hwf).1 hqo.1).2 h11
       exact Classical.byContradiction fun hc => this fun f hf e => hc ⟨f,hf,e⟩
      have:=h10.2 h12;omega
    have hlen:(toF (filesE es)).length = (filesE es).length:=by simp [toF]
    have hvf:∃ kk vv,v = .nilIface∨v = .iface kk vv:=by
     cases hx:(some (Tree.dir es)).bind fun t => sub t (splitL 47 p) with
     | none => rw [hx] at hr;exact ⟨0,.nilIface,.inl hr⟩
     | some t => rw [hx] at hr;obtain ⟨a,b,h⟩:=RepT.form hr;exact ⟨a,_,.inr h⟩
    clear hr
    cases hx:look (some (.dir es)) (splitL 47 p) with
    | blocked =>
     have R:Hid (StepOut w.heap.size w B (putR r k p d) (.returned (.tuple #[.int .i64 0,.int .i64 5])) w2):=stepOut_no HO.out HA.out (Nat.le_refl _) HB2.out (putR_kind HF.out HPT.out hd (.inr (hlk.2.2.1 hx)))
     clear hlk hfit hqo hx hvf
     go_wp2
     go_ret2
     exact R.out
    | atDir =>
     have R:Hid (StepOut w.heap.size w B (putR r k p d) (.returned (.tuple #[.int .i64 0,.int .i64 5])) w2):=stepOut_no HO.out HA.out (Nat.le_refl _) HB2.out (putR_kind HF.out HPT.out hd (.inl (hlk.2.1.1 hx)))
     clear hlk hfit hqo hx hvf
     go_wp2
     go_ret2
     exact R.out
    | atFile =>
     have hnb:look (some (.dir es)) (splitL 47 p) ≠ .blocked:=by rw [hx];simp
     have hnd:look (some (.dir es)) (splitL 47 p) ≠ .atDir:=by rw [hx];simp
     have hff:look (some (.dir es)) (splitL 47 p) = .free→(filesE es).length < 20:=by rw [hx];simp
     have hfit:=hfit hnb hnd hff
     clear hlk hvf hx
     go_wp2_with fail
     have hb3:Below w.heap.size w (w2.alloc (.cells #[.int .i64 0,SV d] 135)):=HB2.out.alloc HB2.out.size _
     have hb23:Below w2.heap.size w2 (w2.alloc (.cells #[.int .i64 0,SV d] 135)):=(Below.refl _ _).alloc (Nat.le_refl _) _
     have hfa:FileAt (w2.alloc (.cells #[.int .i64 0,SV d] 135)) w2.heap.size 0 d:=heap_alloc_new _ _
     have hwh:=HB2.out.size
     refine (putDir_any (QK w.heap.size B) (splitL 47 p) bb uu _ es 131 w2.heap.size (.file d) _ _ hqo.1.1 (HD.out.below hb3 (Nat.le_refl _)) (HE.out.later hb3 (Nat.le_refl _)) hwf (names_below HN2.out hb23 (Nat.le_refl _)) (.file hfa (fun h => by rcases h with h | h;exact absurd rfl h;omega)) (by unfold WFT;omega) hqo.1.2 hfit (fun j hj h => by rcases h with h | h;exact absurd rfl h;have:=hb3.size;omega)).mono ?_
     rintro e w4 ⟨b4,vs4,hb4,rfl,hd4,he4,hbl4⟩
     have C:=put_tail HO.out HA.out hmade HF.out ⟨k,HK.out⟩ HPT.out hd hnb hnd hff HB2.out (W:=w4) (hb23.trans (hbl4.mono hb23.size)) hd4 (Nat.le_trans hb3.size hb4) he4
     have C' : Hid (Calls Tryz.prog 63 #[ptrV B.sb,ptrV b4] w4 fun e w' => StepOut w.heap.size w B (putR r k p d) e w'):=C
     clear C hd4 he4 hbl4 hb3 hb23 hfa hb4 HN2
     go_wp2_with fail
     refine C'.out.mono ?_
     rintro e w5 ⟨B',rfl,hout⟩
     have HOUT:Hid _:=hout
     clear hout C'
     go_wp2
     go_ret2
     exact ⟨B',rfl,HOUT.out⟩
    | free =>
     have hnb:look (some (.dir es)) (splitL 47 p) ≠ .blocked:=by rw [hx];simp
     have hnd:look (some (.dir es)) (splitL 47 p) ≠ .atDir:=by rw [hx];simp
     have hnf:look (some (.dir es)) (splitL 47 p) ≠ .atFile:=by rw [hx];simp
     have CF:Hid (Calls Tryz.prog 62 #[ptrV bb] w2 fun e w' => e = .returned (.int .i64 (filesE es).length)∧w' = w2):=fileCount_any _ es (QK w.heap.size B) bb uu _ w2 (Nat.le_refl _) (HD.out.below HB2.out (Nat.le_refl _)) (HE.out.later HB2.out (Nat.le_refl _)) (by omega)
     clear hx hvf
     go_wp2_with fail
     refine CF.out.mono ?_
     rintro e w3 ⟨rfl,rfl⟩
     by_cases h20:20 ≤ (filesE es).length
     ·have hI:(20:Int) ≤ ((filesE es).length:Int):=by omega
      have R:Hid (StepOut w.heap.size w B (putR r k p d) (.returned (.tuple #[.int .i64 0,.int .i64 7])) w3):=stepOut_no HO.out HA.out (Nat.le_refl _) HB2.out (putR_many HF.out HPT.out hd (by rw [← hlk.2.1,← hlk.2.2];exact fun h => h.elim hnd hnb) ⟨by have:=mt hlk.1.2 hnf;omega,by omega⟩)
      clear hlk hfit hqo hnb hnd hnf h20
      go_wp2
      go_ret2
      exact R.out
     ·have hI:¬ (20:Int) ≤ ((filesE es).length:Int):=by omega
      have hff:look (some (.dir es)) (splitL 47 p) = .free→(filesE es).length < 20:=fun _ => by omega
      have hfit:=hfit hnb hnd hff
      clear hlk
      go_wp2_with fail
      have hb3:Below w.heap.size w (w3.alloc (.cells #[.int .i64 0,SV d] 135)):=HB2.out.alloc HB2.out.size _
      have hb23:Below w3.heap.size w3 (w3.alloc (.cells #[.int .i64 0,SV d] 135)):=(Below.refl _ _).alloc (Nat.le_refl _) _
      have hfa:FileAt (w3.alloc (.cells #[.int .i64 0,SV d] 135)) w3.heap.size 0 d:=heap_alloc_new _ _
      have hwh:=HB2.out.size
      refine (putDir_any (QK w.heap.size B) (splitL 47 p) bb uu _ es 131 w3.heap.size (.file d) _ _ hqo.1.1 (HD.out.below hb3 (Nat.le_refl _)) (HE.out.later hb3 (Nat.le_refl _)) hwf (names_below HN2.out hb23 (Nat.le_refl _)) (.file hfa (fun h => by rcases h with h | h;exact absurd rfl h;omega)) (by unfold WFT;omega) hqo.1.2 hfit (fun j hj h => by rcases h with h | h;exact absurd rfl h;have:=hb3.size;omega)).mono ?_
      rintro e w4 ⟨b4,vs4,hb4,rfl,hd4,he4,hbl4⟩
      have C:=put_tail HO.out HA.out hmade HF.out ⟨k,HK.out⟩ HPT.out hd hnb hnd hff HB2.out (W:=w4) (hb23.trans (hbl4.mono hb23.size)) hd4 (Nat.le_trans hb3.size hb4) he4
      have C' : Hid (Calls Tryz.prog 63 #[ptrV B.sb,ptrV b4] w4 fun e w' => StepOut w.heap.size w B (putR r k p d) e w'):=C
      clear C hd4 he4 hbl4 hb3 hb23 hfa hb4 HN2
      go_wp2_with fail
      refine C'.out.mono ?_
      rintro e w5 ⟨B',rfl,hout⟩
      have HOUT:Hid _:=hout
      clear hout C'
      go_wp2
      go_ret2
      exact ⟨B',rfl,HOUT.out⟩
end Go.Proofs.YtdcbgfhkfmohiaaGreatDoor
