/- Delete. -/
import Derived.Test.YtdcbgfhkfmohiaaGreatDoorAl10
namespace Go.Proofs.YtdcbgfhkfmohiaaGreatDoor
open Go.RowKit
theorem here_iff {es:Ents} {q:List Str} (h:WFE es) (hq:OkN q):(sub (.dir es) q).isSome = true ↔ ∃ f ∈ filesE es,q <+: f.1:=by
 have hv:=(valid_files h).1
 have hl:=look_names h hq
 rw [← look_sub]
 constructor
 ·rintro (h1 | h1)
  ·have h2:=hl.1.1 h1
   have h3:=mt (get_names hv hq).2 h2
   refine Classical.byContradiction fun hc => h3 fun f hf e => hc ⟨f,hf,?_⟩
   rw [e];exact List.prefix_rfl
  ·obtain ⟨f,hf,R,hR,e⟩:=(isDir_names hv hq).1 (hl.2.1.1 h1)
   exact ⟨f,hf,by rw [e];exact List.prefix_append _ _⟩
 ·rintro ⟨f,hf,hp⟩
  rcases prefix_iff.1 hp with h1 | ⟨R,hR,h1⟩
  ·left
   refine hl.1.2 fun h2 => ?_
   exact (get_names hv hq).1 h2 f hf h1
  ·right
   exact hl.2.1.2 ((isDir_names hv hq).2 ⟨f,hf,R,hR,h1⟩)
theorem gone_iff {es:Ents} {q:List Str} (h:WFE es) (hq:OkN q):(withoutL (toF (filesE es)) (joinP q)).length = (toF (filesE es)).length ↔ sub (.dir es) q = none:=by
 have hv:=(valid_files h).1
 rw [without_names hv hq]
 have e:(toF ((filesE es).filter fun f => decide (¬ q <+: f.1))).length = ((filesE es).filter fun f => decide (¬ q <+: f.1)).length:=by simp [toF]
 have e2:(toF (filesE es)).length = (filesE es).length:=by simp [toF]
 rw [e,e2,List.length_filter_eq_length_iff]
 have hh:=here_iff h hq
 constructor
 ·intro h1
  cases hs:sub (.dir es) q with
  | none => rfl
  | some t =>
   rw [hs] at hh
   obtain ⟨f,hf,hp⟩:=hh.1 rfl
   have:=h1 f hf
   simp at this;exact absurd hp this
 ·intro h1 f hf
  rw [h1] at hh
  simp only [decide_eq_true_eq]
  intro hp
  exact absurd (hh.2 ⟨f,hf,hp⟩) (by simp)
theorem remove_height {es:Ents} {q:List Str} (h:WFE es) (hq:OkN q) (hb:look (some (.dir es)) q ≠ .blocked) (hh:heightE es ≤ 5):heightE (removeE es q) ≤ 5:=by
 have hw:WFE (removeE es q):=remove_wf h hq.2
 rw [heightE_le _ hw]
 intro x r d hd
 rw [fileAt_remove hq.1 hb] at hd
 by_cases hp:q <+: x :: r
 ·rw [if_pos hp] at hd;simp at hd
 ·rw [if_neg hp] at hd;exact (heightE_le es h 5).1 hh x r d hd
theorem deleteR_none {r:RSt} {n:Int} {p:Str} (h:findL r.all n = none):deleteR r n p = (r,0,2):=by unfold deleteR;rw [h]
theorem deleteR_path {r:RSt} {n:Int} {p:Str} {l:List Fl} (h:findL r.all n = some l) (h1:isPathL p = false):deleteR r n p = (r,0,3):=by unfold deleteR;rw [h];simp [h1]
theorem deleteR_gone {r:RSt} {n:Int} {p:Str} {l:List Fl} (h:findL r.all n = some l) (h1:isPathL p = true) (h2:(withoutL l p).length = l.length):deleteR r n p = (r,0,6):=by unfold deleteR;rw [h];simp [h1,h2]
theorem deleteR_go {r:RSt} {n:Int} {p:Str} {l:List Fl} (h:findL r.all n = some l) (h1:isPathL p = true) (h2:¬ (withoutL l p).length = l.length):deleteR r n p = keepR r (withoutL l p):=by unfold deleteR;rw [h];simp [h1,h2]
theorem delete_tail {w W w2:World} {B:Bank} {r:RSt} {n:Int} {p:Str} {es:Ents} (hO:Okay w B) (ha:Agree B r) (hmade:B.made < 4611686018427387904) (hfind:findL r.all n = some (toF (filesE es))) (hin:∃ k,(k,es) ∈ B.ss)
  (hpt:isPathL p = true) (hsub:sub (.dir es) (splitL 47 p) ≠ none) (hb2:Below w.heap.size w w2) (hbW:Below w2.heap.size w2 W) {b4:Nat} {vs4:List (Str × Value)} (hd4:DirAt W b4 0 vs4) (hb4:w.heap.size ≤ b4) (he4:RepE W (QK w.heap.size B) vs4 (removeE es (splitL 47 p))) :
  Calls Tryz.prog 63 #[ptrV B.sb,ptrV b4] W fun e w' => StepOut w.heap.size w B (deleteR r n p) e w':=by
 obtain ⟨k,hk⟩:=hin
 obtain ⟨hwf,hfl,hht⟩ : WFE es∧(filesE es).length ≤ 20∧heightE es ≤ 5:=hO.wf _ hk
 obtain ⟨hq,hj,h5⟩:=path_ok hpt
 have hBW:Below w.heap.size w W:=hb2.trans (hbW.mono hb2.size)
 have hnb:look (some (.dir es)) (splitL 47 p) ≠ .blocked:=by
  intro h
  have:(sub (.dir es) (splitL 47 p)).isSome = true:=by cases hs:sub (.dir es) (splitL 47 p);exact absurd hs hsub;rfl
  rw [← look_sub,h] at this;simp at this
 have e2:=remove_files hwf hq hnb
 have e1:toF (filesE (removeE es (splitL 47 p))) = withoutL (toF (filesE es)) p:=by
  rw [e2,← without_names (valid_files hwf).1 hq,hj]
 have h2:¬ (withoutL (toF (filesE es)) p).length = (toF (filesE es)).length:=by
  rw [← hj];exact fun h => hsub ((gone_iff hwf hq).1 (by rw [hj] at h ⊢;exact h))
 have hfl4:(filesE (removeE es (splitL 47 p))).length ≤ 20:=by rw [e2];exact Nat.le_trans (List.length_filter_le _ _) hfl
 have C:=storeAdd_any w.heap.size B b4 0 vs4 _ r W (hO.below hBW) ha hd4 (fun h => by rcases h with h | h;exact absurd rfl h;omega) he4 hBW.size (remove_wf hwf hq.2) hfl4 (remove_height hwf hq hnb hht) hmade
 rw [deleteR_go hfind hpt h2]
 refine C.mono ?_
 rintro e w' ⟨B',h1,h3,h4,h6⟩
 rw [e1] at h1 h4
 exact ⟨B',h1,h3,h4,(Ext.of_below (Nat.le_refl _) hBW).trans h6⟩
theorem iface_some (k:Nat) (x:Value) (w:World):(binOp .eql 99 (.iface k x) .nilIface).run Tryz.prog w = .ok (.bool false) w:=by
 have h:(Op.equalIn 10000 99 (.iface k x) .nilIface).run Tryz.prog w = .ok false w:=by
  rw [show (10000:Nat) = 9999 + 1 from rfl,Op.equalIn];simp only [Sem.run_bind,run_underlying Tryz.underlying99,Result.andThen_ok];rfl
 simp only [binOp]
 simp [Op.equal,Op.maxDepth,h]
theorem iface_none (w:World):(binOp .eql 99 .nilIface .nilIface).run Tryz.prog w = .ok (.bool true) w:=by
 have h:(Op.equalIn 10000 99 .nilIface .nilIface).run Tryz.prog w = .ok true w:=by
  rw [show (10000:Nat) = 9999 + 1 from rfl,Op.equalIn];simp only [Sem.run_bind,run_underlying Tryz.underlying99,Result.andThen_ok];rfl
 simp only [binOp]
 simp [Op.equal,Op.maxDepth,h]
set_option maxHeartbeats 4000000 in
set_option maxRecDepth 50000 in
theorem storeDelete_any (B:Bank) (r:RSt) (n:Int) (p:Str) (w:World) (hO:Okay w B) (ha:Agree B r) (hmade:B.made < 4611686018427387904) (hp:p.length + 1 < maxLen) :
  Calls Tryz.prog 44 #[ptrV B.sb,.int .i64 n,SV p] w fun e w' => StepOut w.heap.size w B (deleteR r n p) e w':=by
 have s2:w.cell? ⟨B.sb,2,none⟩ = some (.map (some B.rs)):=(blk_cell hO.at'.store 2).trans rfl
 rcases find_agree ha n with ⟨hf,hno⟩ | ⟨k,es,hk,rfl,hf⟩
 ·have hl:=snap_none hO.at' hno
  have R:Hid (StepOut w.heap.size w B (deleteR r n p) (.returned (.tuple #[.int .i64 0,.int .i64 2])) w):=stepOut_no hO ha (Nat.le_refl _) (Below.refl _ _) (deleteR_none hf)
  clear hO ha hf hno
  go_enter Tryz.func44,Tryz.ntmps44
  go_wp2
  go_ret2
  exact R.out
 ·have hl:=snap_look hO.at' hk
  have hes:es ∈ B.ds:=hO.at'.roots _ hk
  obtain ⟨hwf,hfl,hht⟩ : WFE es∧(filesE es).length ≤ 20∧heightE es ≤ 5:=hO.wf _ hk
  have HD:Hid (DirAt w (B.ad (.dir es)) (B.us (.dir es)) (valsE B.ad es)):=hO.at'.dirs es hes
  have HE:Hid (RepE w (QK w.heap.size B) (valsE B.ad es) es):=rep_root hO.at' _ hes
  have HQ:Hid (QK w.heap.size B (B.ad (.dir es)) (B.us (.dir es))):=fun _ => ⟨.dir es,hes,rfl⟩
  have HO:Hid _:=hO
  have HA:Hid _:=ha
  have HF:Hid _:=hf
  have HK:Hid _:=hk
  clear hO ha hf hk hes
  generalize B.ad (.dir es) = bb at *
  generalize B.us (.dir es) = uu at *
  have hpm:=hp
  have hsn:=slice_some
  have hs0:=slice_none
  have hin:=iface_some
  have hi0:=iface_none
  go_enter Tryz.func44,Tryz.ntmps44
  go_wp2_with fail
  refine (namesOf_any p _ hpm).mono ?_
  rintro e w1 ⟨hb1,⟨hpf,rfl⟩ | ⟨hpt,a,nn,c,rfl,hn1⟩⟩
  ·have R:Hid (StepOut w.heap.size w B (deleteR r k p) (.returned (.tuple #[.int .i64 0,.int .i64 3])) w1):=stepOut_no HO.out HA.out (Nat.le_refl _) hb1 (deleteR_path HF.out hpf)
   clear hpf hb1
   go_wp2
   go_ret2
   exact R.out
  ·have HB1:Hid _:=hb1
   have HN1:Hid (NamesAt w1 (.slice (some a) nn c) (splitL 47 p)):=hn1
   have HPT:Hid _:=hpt
   have CL:Hid (Calls Tryz.prog 51 #[dirV bb,.slice (some a) nn c] w1 fun e w' => LookOut w' (QK w.heap.size B) (some (.dir es)) (splitL 47 p) e∧Below w1.heap.size w1 w') :=
    look_any (QK w.heap.size B) (splitL 47 p) (some (.dir es)) _ _ w1 (.dir (HD.out.below hb1 (Nat.le_refl _)) HQ.out (HE.out.later hb1 (Nat.le_refl _))) hwf hn1
   clear hb1 hn1 hpt
   go_wp2_with fail
   refine CL.out.mono ?_
   rintro e w2 ⟨⟨v,rfl,hr⟩,hb2⟩
   have HB2:Hid (Below w.heap.size w w2):=HB1.out.trans (hb2.mono HB1.out.size)
   have HN2:Hid (NamesAt w2 (.slice (some a) nn c) (splitL 47 p)):=names_below HN1.out hb2 (Nat.le_refl _)
   clear hb2 CL HN1
   have hqo:=path_ok HPT.out
   generalize placeN (look (some (.dir es)) (splitL 47 p)) = pl at *
   simp only [Option.bind_some] at hr
   cases hx:sub (.dir es) (splitL 47 p) with
   | none =>
    rw [hx] at hr
    cases hr
    have R:Hid (StepOut w.heap.size w B (deleteR r k p) (.returned (.tuple #[.int .i64 0,.int .i64 6])) w2):=stepOut_no HO.out HA.out (Nat.le_refl _) HB2.out (deleteR_gone HF.out HPT.out (by have:=(gone_iff hwf hqo.1).2 hx;rw [hqo.2.1] at this;exact this))
    clear hqo hx
    go_wp2
    go_ret2
    exact R.out
   | some t =>
    rw [hx] at hr
    obtain ⟨kk,vv,rfl⟩:=RepT.form hr
    have hsb:sub (.dir es) (splitL 47 p) ≠ none:=by rw [hx];simp
    have hqn:=hqo.1.1
    clear hr hx
    go_wp2_with fail
    refine (removeDir_any (QK w.heap.size B) (splitL 47 p) bb uu _ es _ w2 hqn (HD.out.below HB2.out (Nat.le_refl _)) (HE.out.later HB2.out (Nat.le_refl _)) hwf HN2.out (fun j hj h => by rcases h with h | h;exact absurd rfl h;have:=HB2.out.size;omega)).mono ?_
    rintro e w4 ⟨b4,vs4,hb4,rfl,hd4,he4,hbl4⟩
    have C:Hid (Calls Tryz.prog 63 #[ptrV B.sb,ptrV b4] w4 fun e w' => StepOut w.heap.size w B (deleteR r k p) e w'):=delete_tail HO.out HA.out hmade HF.out ⟨k,HK.out⟩ HPT.out hsb HB2.out hbl4 hd4 (Nat.le_trans HB2.out.size hb4) he4
    clear hd4 he4 hbl4 hb4 HN2 hqn hqo hsb
    go_wp2_with fail
    refine C.out.mono ?_
    rintro e w5 ⟨B',rfl,hout⟩
    have HOUT:Hid _:=hout
    clear hout C
    go_wp2
    go_ret2
    exact ⟨B',rfl,HOUT.out⟩

open Go.RowKit
theorem begins_iff (a b:List Str):beginsL a b = true ↔ a <+: b:=by
 unfold beginsL
 rw [decide_eq_true_eq]
 constructor
 ·intro h
  rw [h];exact List.take_prefix _ _
 ·rintro ⟨R,rfl⟩
  rw [show min a.length (a ++ R).length = a.length from by simp,List.take_left]
theorem prefix_text {src dst:Str} (hs:isPathL src = true) (ht:isPathL dst = true):splitL 47 src <+: splitL 47 dst ↔ ((src == dst) = true∨(belowL dst src).isEmpty = false):=by
 obtain ⟨hs1,hs2,_⟩:=path_ok hs
 obtain ⟨ht1,ht2,_⟩:=path_ok ht
 have h1:=below_empty ht1 hs1
 rw [ht2,hs2] at h1
 rw [prefix_iff,beq_iff_eq]
 constructor
 ·rintro (h | h)
  ·left;exact (splitL_inj h).symm
  ·right
   cases hb:(belowL dst src).isEmpty
   ·rfl
   ·exact absurd h (h1.1 hb)
 ·rintro (h | h)
  ·left;rw [h]
  ·right
   refine Classical.byContradiction fun hc => ?_
   rw [h1.2 hc] at h;simp at h
theorem kind_iff {es:Ents} {src dst:Str} (h:WFE es) (hs:isPathL src = true) (ht:isPathL dst = true) :
  (look (some (.dir es)) (splitL 47 dst) ≠ .free∨beginsL (splitL 47 src) (splitL 47 dst) = true) ↔ (0 ≤ getI (toF (filesE es)) dst∨isDirL (toF (filesE es)) dst = true∨crossedL (toF (filesE es)) dst = true∨(src == dst) = true∨(belowL dst src).isEmpty = false):=by
 obtain ⟨ht1,ht2,_⟩:=path_ok ht
 have hl:=look_names h ht1
 rw [ht2] at hl
 rw [begins_iff,prefix_text hs ht]
 constructor
 ·rintro (h1 | h1)
  ·cases hx:look (some (.dir es)) (splitL 47 dst) with
   | free => exact absurd hx h1
   | atFile => left;have:=hl.1.1 hx;omega
   | atDir => right;left;exact hl.2.1.1 hx
   | blocked => right;right;left;exact hl.2.2.1 hx
  ·exact .inr (.inr (.inr h1))
 ·rintro (h1 | h1 | h1 | h1)
  ·left;intro hx;have:=hl.1.2 (by omega);rw [hx] at this;simp at this
  ·left;intro hx;have:=hl.2.1.2 h1;rw [hx] at this;simp at this
  ·left;intro hx;have:=hl.2.2.2 h1;rw [hx] at this;simp at this
  ·exact .inr h1
theorem deep_iff {es:Ents} {s t:List Str} {n:Tree} (h:WFE es) (hn:WFT n) (hsub:sub (.dir es) s = some n) (h5:t.length ≤ 5):t.length + heightT n ≤ 5 ↔ Shallow s t (filesE es):=by
 have h1:=height_le n hn (5 - t.length)
 constructor
 ·intro h2 f hf R hR e
  have h3:=h1.1 (by omega) R f.2 (by rw [fileAt_sub hsub,← e];exact (mem_root h f.1 f.2).1 hf)
  simp only [List.length_append];omega
 ·intro h2
  have:heightT n ≤ 5 - t.length:=h1.2 (by
   intro p d hd
   by_cases hp:p = []
   ·subst hp;simp
   ·rw [fileAt_sub hsub] at hd
    have:=h2 (s ++ p,d) ((mem_root h _ _).2 hd) p hp rfl
    simp only [List.length_append] at this;omega)
  omega
theorem move_names {es:Ents} {src dst:Str} {n:Tree} (h:WFE es) (hs:isPathL src = true) (ht:isPathL dst = true) (hsub:sub (.dir es) (splitL 47 src) = some n) (hfree:look (some (.dir es)) (splitL 47 dst) = .free) :
  (Shallow (splitL 47 src) (splitL 47 dst) (filesE es)→moveL (toF (filesE es)) src dst = some (toF (filesE (putE (removeE es (splitL 47 src)) (splitL 47 dst) n))))∧(¬ Shallow (splitL 47 src) (splitL 47 dst) (filesE es)→moveL (toF (filesE es)) src dst = none):=by
 obtain ⟨hs1,hs2,_⟩:=path_ok hs
 obtain ⟨ht1,ht2,_⟩:=path_ok ht
 have hv:=(valid_files h).1
 have hso:=sorted_filesE es h
 have hf:=move_fold (m:=(filesE es).filter fun f => decide (¬ splitL 47 src <+: f.1)) hs1 ht1 hv (filter_sorted hso _) (fun f hf => hv f (List.mem_filter.1 hf).1)
 have hw:=without_names hv hs1
 rw [hs2,ht2] at hf
 rw [hs2] at hw
 unfold moveL
 rw [hw,move_files h hs1 ht1 hsub hfree]
 exact hf
theorem free_remove {es:Ents} {s t:List Str} {n:Tree} (h:WFE es) (hs:OkN s) (ht:OkN t) (hsub:sub (.dir es) s = some n) (hfree:look (some (.dir es)) t = .free):look (some (.dir es)) s ≠ .blocked∧look (some (.dir (removeE es s))) t ≠ .blocked∧WFT n:=by
 have hes:es ≠ []:=by
  intro e;subst e;obtain ⟨h1,_⟩:=hs
  cases s with
  | nil => exact h1 rfl
  | cons x r => simp [sub,findE] at hsub
 have hw:WFT (.dir es):=by unfold WFT;exact ⟨hes,h⟩
 have hn:WFT n:=sub_wf s hw hsub
 obtain ⟨l1,l2,l3⟩:=look_files t (.dir es) hw
 have hsb:look (some (.dir es)) s ≠ .blocked:=by
  intro hb
  have:(sub (.dir es) s).isSome = true:=by rw [hsub];rfl
  rw [← look_sub,hb] at this;simp at this
 have hwr:WFE (removeE es s):=remove_wf h hs.2
 refine ⟨hsb,?_,hn⟩
 by_cases he:removeE es s = []
 ·rw [he];obtain ⟨h1,_⟩:=ht
  cases t with
  | nil => exact absurd rfl h1
  | cons x r => simp [look,findE]
 ·intro hb
  have hw2:WFT (.dir (removeE es s)):=by unfold WFT;exact ⟨he,hwr⟩
  obtain ⟨P,R,d,hR,e,hd⟩:=(look_files t _ hw2).2.2.1 hb
  rw [fileAt_remove hs.1 hsb] at hd
  split at hd
  ·simp at hd
  ·have:=l3.2 ⟨P,R,d,hR,e,hd⟩;rw [hfree] at this;simp at this
theorem move_len {es:Ents} {s t:List Str} {n:Tree} (h:WFE es) (hs:OkN s) (ht:OkN t) (hsub:sub (.dir es) s = some n) (hfree:look (some (.dir es)) t = .free):(filesE (putE (removeE es s) t n)).length ≤ (filesE es).length:=by
 obtain ⟨_,_,hn⟩:=free_remove h hs ht hsub hfree
 have hwp:WFE (putE (removeE es s) t n):=(put_wf (remove_wf h hs.2) ht.2 hn).1
 have hso:=sorted_filesE es h
 have h1:=sorted_nodup (sorted_filesE _ hwp)
 have:=nodup_sub (b:=(filesE es).map fun f => if s <+: f.1 then t ++ f.1.drop s.length else f.1) h1 (by
  intro x hx
  simp only [List.mem_map] at hx
  obtain ⟨g,hg,rfl⟩:=hx
  rw [move_files h hs ht hsub hfree] at hg
  rcases (moveN_mem hso (filter_sorted hso _) g).1 hg with ⟨h2,_⟩ | ⟨f,hf,h3,h4⟩
  ·rw [List.mem_filter] at h2
   simp only [List.mem_map]
   refine ⟨g,h2.1,?_⟩
   rw [if_neg (by simpa using h2.2)]
  ·simp only [List.mem_map]
   exact ⟨f,hf,by rw [if_pos h3,h4]⟩)
 simpa using this
theorem moveR_none {r:RSt} {n:Int} {src dst:Str} (h:findL r.all n = none):moveR r n src dst = (r,0,2):=by unfold moveR;rw [h]
theorem moveR_path {r:RSt} {n:Int} {src dst:Str} {l:List Fl} (h:findL r.all n = some l) (h1:isPathL src = false∨isPathL dst = false):moveR r n src dst = (r,0,3):=by unfold moveR;rw [h];simp only;rw [if_pos h1]
theorem moveR_gone {r:RSt} {n:Int} {src dst:Str} {l:List Fl} (h:findL r.all n = some l) (h1:isPathL src = true) (h2:isPathL dst = true) (h3:(withoutL l src).length = l.length):moveR r n src dst = (r,0,6):=by
 unfold moveR;rw [h];simp only;rw [if_neg (by simp [h1,h2]),if_pos h3]
theorem move_tail {w W:World} {B:Bank} {r:RSt} {n:Int} {src dst:Str} {es:Ents} {m:Tree} (hO:Okay w B) (ha:Agree B r) (hmade:B.made < 4611686018427387904) (hfind:findL r.all n = some (toF (filesE es))) (hin:∃ k,(k,es) ∈ B.ss)
  (hs:isPathL src = true) (ht:isPathL dst = true) (hsub:sub (.dir es) (splitL 47 src) = some m) (hfree:look (some (.dir es)) (splitL 47 dst) = .free) (hbeg:beginsL (splitL 47 src) (splitL 47 dst) = false) (hdeep:(splitL 47 dst).length + heightT m ≤ 5)
  (hBW:Below w.heap.size w W) {b4:Nat} {vs4:List (Str × Value)} (hd4:DirAt W b4 0 vs4) (hb4:w.heap.size ≤ b4) (he4:RepE W (QK w.heap.size B) vs4 (putE (removeE es (splitL 47 src)) (splitL 47 dst) m)) :
  Calls Tryz.prog 63 #[ptrV B.sb,ptrV b4] W fun e w' => StepOut w.heap.size w B (moveR r n src dst) e w':=by
 obtain ⟨k,hk⟩:=hin
 obtain ⟨hwf,hfl,hht⟩ : WFE es∧(filesE es).length ≤ 20∧heightE es ≤ 5:=hO.wf _ hk
 obtain ⟨hs1,hs2,_⟩:=path_ok hs
 obtain ⟨ht1,ht2,ht5⟩:=path_ok ht
 obtain ⟨hsb,htb,hn⟩:=free_remove hwf hs1 ht1 hsub hfree
 have hwr:=remove_wf hwf hs1.2
 have hsh:=(deep_iff hwf hn hsub ht5).1 hdeep
 have hmv:=(move_names hwf hs ht hsub hfree).1 hsh
 have h3:¬ (withoutL (toF (filesE es)) src).length = (toF (filesE es)).length:=by
  intro h;have:=(gone_iff hwf hs1).1 (by rw [hs2];exact h);rw [hsub] at this;simp at this
 have h4:¬ (0 ≤ getI (toF (filesE es)) dst∨isDirL (toF (filesE es)) dst = true∨crossedL (toF (filesE es)) dst = true∨(src == dst) = true∨(belowL dst src).isEmpty = false):=by
  rw [← kind_iff hwf hs ht];rintro (h | h)
  ·exact h hfree
  ·rw [hbeg] at h;simp at h
 have hfl4:(filesE (putE (removeE es (splitL 47 src)) (splitL 47 dst) m)).length ≤ 20:=Nat.le_trans (move_len hwf hs1 ht1 hsub hfree) hfl
 have C:=storeAdd_any w.heap.size B b4 0 vs4 _ r W (hO.below hBW) ha hd4 (fun h => by rcases h with h | h;exact absurd rfl h;omega) he4 hBW.size (put_wf hwr ht1.2 hn).1 hfl4 (put_height hwr ht1 hn htb (remove_height hwf hs1 hsb hht) hdeep) hmade
 rw [moveR_go hfind hs ht h3 h4,hmv]
 refine C.mono ?_
 rintro e w' ⟨B',h1,h2,h5,h6⟩
 exact ⟨B',h1,h2,h5,(Ext.of_below (Nat.le_refl _) hBW).trans h6⟩
theorem move_deep {r:RSt} {n:Int} {src dst:Str} {es:Ents} {m:Tree} (hwf:WFE es) (hfind:findL r.all n = some (toF (filesE es))) (hs:isPathL src = true) (ht:isPathL dst = true) (hsub:sub (.dir es) (splitL 47 src) = some m) (hfree:look (some (.dir es)) (splitL 47 dst) = .free) (hbeg:beginsL (splitL 47 src) (splitL 47 dst) = false) (hdeep:¬ (splitL 47 dst).length + heightT m ≤ 5):moveR r n src dst = (r,0,3):=by
 obtain ⟨hs1,hs2,_⟩:=path_ok hs
 obtain ⟨ht1,ht2,ht5⟩:=path_ok ht
 obtain ⟨hsb,htb,hn⟩:=free_remove hwf hs1 ht1 hsub hfree
 have hmv:=(move_names hwf hs ht hsub hfree).2 (fun h => hdeep ((deep_iff hwf hn hsub ht5).2 h))
 have h3:¬ (withoutL (toF (filesE es)) src).length = (toF (filesE es)).length:=by
  intro h;have:=(gone_iff hwf hs1).1 (by rw [hs2];exact h);rw [hsub] at this;simp at this
 have h4:¬ (0 ≤ getI (toF (filesE es)) dst∨isDirL (toF (filesE es)) dst = true∨crossedL (toF (filesE es)) dst = true∨(src == dst) = true∨(belowL dst src).isEmpty = false):=by
  rw [← kind_iff hwf hs ht];rintro (h | h)
  ·exact h hfree
  ·rw [hbeg] at h;simp at h
 rw [moveR_go hfind hs ht h3 h4,hmv]
theorem move_kind {r:RSt} {n:Int} {src dst:Str} {es:Ents} {m:Tree} (hwf:WFE es) (hfind:findL r.all n = some (toF (filesE es))) (hs:isPathL src = true) (ht:isPathL dst = true) (hsub:sub (.dir es) (splitL 47 src) = some m) (hbad:look (some (.dir es)) (splitL 47 dst) ≠ .free∨beginsL (splitL 47 src) (splitL 47 dst) = true):moveR r n src dst = (r,0,5):=by
 obtain ⟨hs1,hs2,_⟩:=path_ok hs
 have h3:¬ (withoutL (toF (filesE es)) src).length = (toF (filesE es)).length:=by
  intro h;have:=(gone_iff hwf hs1).1 (by rw [hs2];exact h);rw [hsub] at this;simp at this
 exact moveR_5 hfind hs ht h3 ((kind_iff hwf hs ht).1 hbad)

open Go.RowKit
theorem height_node {w : World} {Q : Nat → Int → Prop} {v : Value} {t : Tree} (h : RepT w Q v t) (hb : heightT t ≤ 1000) : ∃ kk b f, v = .iface kk (.pointer (some ⟨b, 0, none⟩)) ∧ (∀ W : World, (method 401 kk (.pointer (some ⟨b, 0, none⟩)) "canopy/canopy.height").run Tryz.prog W = .ok (f, .pointer (some ⟨b, 0, none⟩)) W) ∧
  (∀ W:World,(callFunc f #[.pointer (some ⟨b,0,none⟩)]).run Tryz.prog W = .ok (.enter f #[.pointer (some ⟨b,0,none⟩)]) W) ∧
  ∀ W,Below w.heap.size w W→Calls Tryz.prog f #[.pointer (some ⟨b,0,none⟩)] W fun e w' => e = .returned (.int .i64 (heightT t:Nat))∧w' = W:=by
 cases h with
 | @file b u d hf hq =>
  refine ⟨_,b,_,rfl,Tryz.heightFile b,fun W => by kernel_rfl,fun W _ => ?_⟩
  have:=fileHeight_any b W
  simp only [heightT];exact this
 | @dir b u vs es hd hq he =>
  refine ⟨_,b,_,rfl,Tryz.heightDir b,fun W => by kernel_rfl,fun W hW => ?_⟩
  have:=height_any _ es Q b u vs W (Nat.le_refl _) (hd.below hW (Nat.le_refl _)) (he.later hW (Nat.le_refl _)) (by simp only [heightT] at hb;exact hb)
  simp only [heightT];exact this
set_option maxHeartbeats 8000000 in
set_option maxRecDepth 50000 in
theorem storeMove_any (B:Bank) (r:RSt) (n:Int) (src dst:Str) (w:World) (hO:Okay w B) (ha:Agree B r) (hmade:B.made < 4611686018427387904) (hp:src.length + 1 < maxLen) (hq:dst.length + 1 < maxLen) :
  Calls Tryz.prog 39 #[ptrV B.sb,.int .i64 n,SV src,SV dst] w fun e w' => StepOut w.heap.size w B (moveR r n src dst) e w':=by
 have s2:w.cell? ⟨B.sb,2,none⟩ = some (.map (some B.rs)):=(blk_cell hO.at'.store 2).trans rfl
 rcases find_agree ha n with ⟨hf,hno⟩ | ⟨k,es,hk,rfl,hf⟩
 ·have hl:=snap_none hO.at' hno
  have R:Hid (StepOut w.heap.size w B (moveR r n src dst) (.returned (.tuple #[.int .i64 0,.int .i64 2])) w):=stepOut_no hO ha (Nat.le_refl _) (Below.refl _ _) (moveR_none hf)
  clear hO ha hf hno
  go_enter Tryz.func39,Tryz.ntmps39
  go_wp2
  go_ret2
  exact R.out
 ·have hl:=snap_look hO.at' hk
  have hes:es ∈ B.ds:=hO.at'.roots _ hk
  obtain ⟨hwf,hfl,hht⟩ : WFE es∧(filesE es).length ≤ 20∧heightE es ≤ 5:=hO.wf _ hk
  have HD:Hid (DirAt w (B.ad (.dir es)) (B.us (.dir es)) (valsE B.ad es)):=hO.at'.dirs es hes
  have HE:Hid (RepE w (QK w.heap.size B) (valsE B.ad es) es):=rep_root hO.at' _ hes
  have HQ:Hid (QK w.heap.size B (B.ad (.dir es)) (B.us (.dir es))):=fun _ => ⟨.dir es,hes,rfl⟩
  have HO:Hid _:=hO
  have HA:Hid _:=ha
  have HF:Hid _:=hf
  have HK:Hid _:=hk
  clear hO ha hf hk hes
  generalize B.ad (.dir es) = bb at *
  generalize B.us (.dir es) = uu at *
  have hpm:=hp
  have hqm:=hq
  have hsn:=slice_some
  have hs0:=slice_none
  have hin:=iface_some
  have hi0:=iface_none
  go_enter Tryz.func39,Tryz.ntmps39
  go_wp2_with fail
  refine (namesOf_any src _ hpm).mono ?_
  intro e w1 hout1
  obtain ⟨hb1,hc1⟩:=hout1
  have HB1:Hid (Below w.heap.size w w1):=hb1
  have hv1:∃ v1,e = .returned v1∧((isPathL src = false∧v1 = .slice none 0 0)∨(isPathL src = true∧∃ a nn c,v1 = .slice (some a) nn c∧NamesAt w1 (.slice (some a) nn c) (splitL 47 src))):=by
   rcases hc1 with ⟨h1,rfl⟩ | ⟨h1,a,nn,c,rfl,h2⟩
   ·exact ⟨_,rfl,.inl ⟨h1,rfl⟩⟩
   ·exact ⟨_,rfl,.inr ⟨h1,a,nn,c,rfl,h2⟩⟩
  obtain ⟨v1,rfl,hv1⟩:=hv1
  have HV1:Hid _:=hv1
  clear hc1 hb1 hv1
  go_wp2_with fail
  refine (namesOf_any dst _ hqm).mono ?_
  intro e w2 hout2
  obtain ⟨hb2,hc2⟩:=hout2
  have HB12:Hid (Below w1.heap.size w1 w2):=hb2
  have HB2:Hid (Below w.heap.size w w2):=HB1.out.trans (hb2.mono HB1.out.size)
  clear hb2
  rcases HV1.out with ⟨hsf,rfl⟩ | ⟨hst,a,nn,c,rfl,hn1⟩
  ·have hv2:∃ v2,e = .returned v2:=by rcases hc2 with ⟨_,h⟩ | ⟨_,_,_,_,h,_⟩ <;> exact ⟨_,h⟩
   obtain ⟨v2,rfl⟩:=hv2
   have R:Hid (StepOut w.heap.size w B (moveR r k src dst) (.returned (.tuple #[.int .i64 0,.int .i64 3])) w2):=stepOut_no HO.out HA.out (Nat.le_refl _) HB2.out (moveR_path HF.out (.inl hsf))
   clear hc2 hsf HV1
   go_wp2
   go_ret2
   exact R.out
  ·have HN1:Hid (NamesAt w2 (.slice (some a) nn c) (splitL 47 src)):=names_below hn1 HB12.out (Nat.le_refl _)
   clear hn1 HV1
   rcases hc2 with ⟨htf,rfl⟩ | ⟨htt,a2,nn2,c2,rfl,hn2⟩
   ·have R:Hid (StepOut w.heap.size w B (moveR r k src dst) (.returned (.tuple #[.int .i64 0,.int .i64 3])) w2):=stepOut_no HO.out HA.out (Nat.le_refl _) HB2.out (moveR_path HF.out (.inr htf))
    clear htf
    go_wp2
    go_ret2
    exact R.out
   ·have HN2:Hid (NamesAt w2 (.slice (some a2) nn2 c2) (splitL 47 dst)):=hn2
    have HS:Hid _:=hst
    have HT:Hid _:=htt
    have CL:Hid (Calls Tryz.prog 51 #[dirV bb,.slice (some a) nn c] w2 fun e w' => LookOut w' (QK w.heap.size B) (some (.dir es)) (splitL 47 src) e∧Below w2.heap.size w2 w') :=
     look_any (QK w.heap.size B) (splitL 47 src) (some (.dir es)) _ _ w2 (.dir (HD.out.below HB2.out (Nat.le_refl _)) HQ.out (HE.out.later HB2.out (Nat.le_refl _))) hwf HN1.out
    clear hn2 hst htt
    go_wp2_with fail
    refine CL.out.mono ?_
    rintro e w3 ⟨⟨v,rfl,hr⟩,hb3⟩
    have HB23:Hid (Below w2.heap.size w2 w3):=hb3
    have HB3:Hid (Below w.heap.size w w3):=HB2.out.trans (hb3.mono HB2.out.size)
    clear hb3 CL
    have hqs:=path_ok HS.out
    have hqt:=path_ok HT.out
    generalize placeN (look (some (.dir es)) (splitL 47 src)) = pl at *
    simp only [Option.bind_some] at hr
    cases hx:sub (.dir es) (splitL 47 src) with
    | none =>
     rw [hx] at hr
     cases hr
     have R:Hid (StepOut w.heap.size w B (moveR r k src dst) (.returned (.tuple #[.int .i64 0,.int .i64 6])) w3):=stepOut_no HO.out HA.out (Nat.le_refl _) HB3.out (moveR_gone HF.out HS.out HT.out (by have:=(gone_iff hwf hqs.1).2 hx;rw [hqs.2.1] at this;exact this))
     clear hqs hqt hx
     go_wp2
     go_ret2
     exact R.out
    | some t =>
     rw [hx] at hr
     have HX:Hid (sub (.dir es) (splitL 47 src) = some t):=hx
     have HR:Hid (RepT w3 (QK w.heap.size B) v t):=hr
     have CL2:Hid (Calls Tryz.prog 51 #[dirV bb,.slice (some a2) nn2 c2] w3 fun e w' => LookOut w' (QK w.heap.size B) (some (.dir es)) (splitL 47 dst) e∧Below w3.heap.size w3 w') :=
      look_any (QK w.heap.size B) (splitL 47 dst) (some (.dir es)) _ _ w3 (.dir (HD.out.below HB3.out (Nat.le_refl _)) HQ.out (HE.out.later HB3.out (Nat.le_refl _))) hwf (names_below HN2.out HB23.out (Nat.le_refl _))
     obtain ⟨kk,vv,rfl⟩:=RepT.form hr
     clear hr hx
     go_wp2_with fail
     refine CL2.out.mono ?_
     rintro e w4 ⟨⟨v4,rfl,hr4⟩,hb4⟩
     have HB34:Hid (Below w3.heap.size w3 w4):=hb4
     have HB4:Hid (Below w.heap.size w w4):=HB3.out.trans (hb4.mono HB3.out.size)
     have HB24:Hid (Below w2.heap.size w2 w4):=HB23.out.trans (hb4.mono HB23.out.size)
     clear hb4 CL2
     have hv4:v4 = .nilIface∨∃ kk vv,v4 = .iface kk (.pointer (some ⟨vv,0,none⟩)):=by
      cases hx:(some (Tree.dir es)).bind fun t => sub t (splitL 47 dst) with
      | none => rw [hx] at hr4;exact .inl hr4
      | some t => rw [hx] at hr4;obtain ⟨a,b,h⟩:=RepT.form hr4;exact .inr ⟨a,b,h⟩
     clear hr4
     have hnn:nn2 = (splitL 47 dst).length:=by
      obtain ⟨ao,cap,h1,_,_⟩:=names_form HN2.out
      simp only [Value.slice.injEq] at h1;exact h1.2.1
     subst hnn
     cases hx2:look (some (.dir es)) (splitL 47 dst) with
     | blocked =>
      have R:Hid (StepOut w.heap.size w B (moveR r k src dst) (.returned (.tuple #[.int .i64 0,.int .i64 5])) w4):=stepOut_no HO.out HA.out (Nat.le_refl _) HB4.out (move_kind hwf HF.out HS.out HT.out HX.out (.inl (by rw [hx2];simp)))
      clear hx2 hqs hqt
      rcases hv4 with rfl | ⟨k4,n4,rfl⟩ <;> (go_wp2;go_ret2;exact R.out)
     | atFile =>
      have R:Hid (StepOut w.heap.size w B (moveR r k src dst) (.returned (.tuple #[.int .i64 0,.int .i64 5])) w4):=stepOut_no HO.out HA.out (Nat.le_refl _) HB4.out (move_kind hwf HF.out HS.out HT.out HX.out (.inl (by rw [hx2];simp)))
      clear hx2 hqs hqt
      rcases hv4 with rfl | ⟨k4,n4,rfl⟩ <;> (go_wp2;go_ret2;exact R.out)
     | atDir =>
      have R:Hid (StepOut w.heap.size w B (moveR r k src dst) (.returned (.tuple #[.int .i64 0,.int .i64 5])) w4):=stepOut_no HO.out HA.out (Nat.le_refl _) HB4.out (move_kind hwf HF.out HS.out HT.out HX.out (.inl (by rw [hx2];simp)))
      clear hx2 hqs hqt
      rcases hv4 with rfl | ⟨k4,n4,rfl⟩ <;> (go_wp2;go_ret2;exact R.out)
     | free =>
      have HX2:Hid (look (some (.dir es)) (splitL 47 dst) = .free):=hx2
      have CB:Hid (Calls Tryz.prog 65 #[.slice (some a) nn c,.slice (some a2) (splitL 47 dst).length c2] w4 fun e w' => e = .returned (.bool (beginsL (splitL 47 src) (splitL 47 dst)))∧Below w4.heap.size w4 w') :=
       begins_any _ _ _ _ w4 (names_below HN1.out HB24.out (Nat.le_refl _)) (names_below HN2.out HB24.out (Nat.le_refl _))
      have hfr:=free_remove hwf hqs.1 hqt.1 HX.out hx2
      have hhm:heightT t ≤ 1000:=by
       have h1:heightT t ≤ 5:=(height_le t hfr.2.2 5).2 (by
        intro p d hd
        rw [fileAt_sub HX.out] at hd
        have hq0:=hqs.1.1
        cases hsp:splitL 47 src with
        | nil => exact absurd hsp hq0
        | cons x r =>
         rw [hsp] at hd
         have:=(heightE_le es hwf 5).1 hht x (r ++ p) d hd
         simp only [List.length_cons,List.length_append] at this;omega)
       omega
      obtain ⟨kk',bm,fh,hveq,hmeth,hcf,hcall⟩:=height_node HR.out hhm
      simp only [Value.iface.injEq,Value.pointer.injEq,Option.some.injEq,Addr.mk.injEq,and_true] at hveq
      obtain ⟨rfl,rfl⟩:=hveq
      have h5t:=hqt.2.2
      clear hx2
      have Hfr:Hid _:=hfr
      have HC:Hid _:=hcall
      have Hqs:Hid _:=hqs
      have Hqt:Hid _:=hqt
      clear hcall hfr hqs hqt
      rcases hv4 with rfl | ⟨k4,n4,rfl⟩
      all_goals
       go_wp2_with fail
       refine CB.out.mono ?_
       rintro e w5 ⟨rfl,hb5⟩
       have HB5:Hid (Below w.heap.size w w5):=HB4.out.trans (hb5.mono HB4.out.size)
       have HB35:Hid (Below w3.heap.size w3 w5):=HB34.out.trans (hb5.mono HB34.out.size)
       have HB25:Hid (Below w2.heap.size w2 w5):=HB24.out.trans (hb5.mono HB24.out.size)
       clear hb5
       cases hbg:beginsL (splitL 47 src) (splitL 47 dst)
       ·have hfun:=HC.out w5 HB35.out
        have HFU:Hid (Calls Tryz.prog fh #[.pointer (some ⟨vv,0,none⟩)] w5 fun e w' => e = .returned (.int .i64 (heightT t:Nat))∧w' = w5):=hfun
        clear hfun
        go_wp2_with fail
        refine HFU.out.mono ?_
        rintro e w6 ⟨rfl,rfl⟩
        by_cases hdeep:(splitL 47 dst).length + heightT t ≤ 5
        ·have hI:¬ (5:Int) < ((splitL 47 dst).length:Int) + (heightT t:Int):=by omega
         have HDP:Hid _:=hdeep
         clear hdeep
         go_wp2_with fail
         refine (removeDir_any (QK w.heap.size B) (splitL 47 src) bb uu _ es _ w6 Hqs.out.1.1 (HD.out.below HB5.out (Nat.le_refl _)) (HE.out.later HB5.out (Nat.le_refl _)) hwf (names_below HN1.out HB25.out (Nat.le_refl _)) (fun j hj h => by rcases h with h | h;exact absurd rfl h;have:=HB5.out.size;omega)).mono ?_
         rintro e w7 ⟨b7,vs7,hb7,rfl,hd7,he7,hbl7⟩
         have HB7:Hid (Below w.heap.size w w7):=HB5.out.trans (hbl7.mono HB5.out.size)
         have HB57:Hid (Below w6.heap.size w6 w7):=hbl7
         have HD7:Hid (DirAt w7 b7 0 vs7):=hd7
         have HE7:Hid (RepE w7 (QK w.heap.size B) vs7 (removeE es (splitL 47 src))):=he7
         clear hb7 hd7 he7 hbl7
         go_wp2_with fail
         refine (putDir_any (QK w.heap.size B) (splitL 47 dst) b7 0 vs7 (removeE es (splitL 47 src)) kk vv t _ w7 Hqt.out.1.1 HD7.out HE7.out (remove_wf hwf Hqs.out.1.2) (names_below HN2.out (HB25.out.trans (HB57.out.mono HB25.out.size)) (Nat.le_refl _)) (HR.out.later (HB35.out.trans (HB57.out.mono HB35.out.size)) (Nat.le_refl _)) Hfr.out.2.2 Hqt.out.1.2 (Nat.le_trans (move_len hwf Hqs.out.1 Hqt.out.1 HX.out HX2.out) hfl) (fun j hj h => by rcases h with h | h;exact absurd rfl h;have:=HB7.out.size;omega)).mono ?_
         rintro e w8 ⟨b8,vs8,hb8,rfl,hd8,he8,hbl8⟩
         have C:Hid (Calls Tryz.prog 63 #[ptrV B.sb,ptrV b8] w8 fun e w' => StepOut w.heap.size w B (moveR r k src dst) e w'):=move_tail HO.out HA.out hmade HF.out ⟨k,HK.out⟩ HS.out HT.out HX.out HX2.out hbg HDP.out (HB7.out.trans (hbl8.mono HB7.out.size)) hd8 (Nat.le_trans HB7.out.size hb8) he8
         clear hd8 he8 hbl8 hb8
         go_wp2_with fail
         refine C.out.mono ?_
         rintro e w9 ⟨B',rfl,hout⟩
         have HOUT:Hid _:=hout
         clear hout C
         go_wp2
         go_ret2
         exact ⟨B',rfl,HOUT.out⟩
        ·have hI:(5:Int) < ((splitL 47 dst).length:Int) + (heightT t:Int):=by omega
         have R:Hid (StepOut w.heap.size w B (moveR r k src dst) (.returned (.tuple #[.int .i64 0,.int .i64 3])) w6):=stepOut_no HO.out HA.out (Nat.le_refl _) HB5.out (move_deep hwf HF.out HS.out HT.out HX.out HX2.out hbg hdeep)
         clear hdeep
         go_wp2
         go_ret2
         exact R.out
       ·have R:Hid (StepOut w.heap.size w B (moveR r k src dst) (.returned (.tuple #[.int .i64 0,.int .i64 5])) w5):=stepOut_no HO.out HA.out (Nat.le_refl _) HB5.out (move_kind hwf HF.out HS.out HT.out HX.out (.inr hbg))
        go_wp2
        go_ret2
        exact R.out

open Go.RowKit
def StepOut1 (N:Nat) (w:World) (B:Bank) (o:RSt × Nat) (e:Ending) (w' : World):Prop :=
 ∃ B',e = .returned (.int .i64 o.2)∧Okay w' B'∧Agree B' o.1∧Ext N w B w' B'
theorem wpList_delete {P:Program} {ops:Array Oper} {rest:List Oper} {op:Oper} {a:Act} {w:World} {Q:Exit→Act→World→Prop} (hgd:op.guard = none) (t kt:TypeId) (m k:Operand)
  (ho:op.op = .call { callee:=.builtin .delete,args:=#[m,k],argTypes:=#[t,kt] }) (mv kv:Value) (hm:a.eval m = mv) (hk:a.eval k = kv) (w' : World) (hr:∀ ty,(Builtin.delete_ #[t,kt] ty #[mv,kv]).run P w = .ok (.tuple #[]) w')
  (h:wpList P ops Q rest (a.put op.dst (.tuple #[])) w'):wpList P ops Q (op :: rest) a w:=by
 refine wpList_plain hgd fun K hK => ?_
 unfold Oper.wp
 simp only [execOp,ho,resolve,invoke,builtin,Sem.run_bind,Sem.run_pure,Result.andThen_ok,List.map_toArray,List.map_cons,List.map_nil,hm,hk,hr]
 exact hK _ _ h
theorem erase_filter {l:List (Nat × Ents)} {j k:Nat} {es:Ents} (h:(l.map (·.1)).Nodup) (hj:l[j]? = some (k,es)):(l.eraseIdx j).map (fun s => (s.1,toF (filesE s.2))) = (l.map fun s => (s.1,toF (filesE s.2))).filter fun x => !((x.1:Int) == (k:Int)):=by
 induction l generalizing j with
 | nil => simp at hj
 | cons a l ih =>
  simp only [List.map_cons,List.nodup_cons,List.mem_map,not_exists,not_and] at h
  cases j with
  | zero =>
   simp at hj;subst hj
   simp only [List.eraseIdx_zero,List.tail_cons,List.map_cons]
   rw [List.filter_cons,if_neg (by simp)]
   symm;rw [List.filter_eq_self]
   intro x hx
   simp only [List.mem_map] at hx
   obtain ⟨s,hs,rfl⟩:=hx
   have:=h.1 s hs
   simp;omega
  | succ j =>
   simp only [List.getElem?_cons_succ] at hj
   simp only [List.eraseIdx_cons_succ,List.map_cons]
   have hne:a.1 ≠ k:=fun e => h.1 (k,es) (List.mem_of_getElem? hj) e.symm
   rw [List.filter_cons,if_pos (by simp;omega),ih h.2 hj]
theorem releaseR_none {r:RSt} {n:Int} (h:findL r.all n = none):releaseR r n = (r,2):=by unfold releaseR;rw [h]
theorem releaseR_some {r:RSt} {n:Int} {l:List Fl} (h:findL r.all n = some l):releaseR r n = ({ r with all:=r.all.filter fun x => !((x.1:Int) == n) },0):=by unfold releaseR;rw [h]
theorem okay_less {w w1 w2 w3:World} {B B3:Bank} {r:RSt} {k j:Nat} {es:Ents} (hO:Okay w B) (ha:Agree B r) (hj:B.ss[j]? = some (k,es)) (hS:Shrink w2 { B with ss:=B.ss.eraseIdx j } w3 B3) (hC:Calm B3 (fun _ => 0)) (hf:findL r.all k = some (toF (filesE es))) {m:Array MapEntry} {c:Nat}
  (hs1:Set1 w w1 B.rs (.map m c)) (hb:Below w1.heap.size w1 w2):StepOut1 w.heap.size w B (releaseR r k) (.returned (.int .i64 0)) w3:=by
 have hss:B3.ss = B.ss.eraseIdx j:=hS.same.ss
 have hsub:∀ s ∈ B3.ss,s ∈ B.ss:=fun s hs => by rw [hss] at hs;exact List.mem_of_mem_eraseIdx hs
 rw [releaseR_some hf]
 refine ⟨B3,rfl,⟨hS.at',hC,fun s hs => hO.wf s (hsub s hs),?_,?_,?_⟩,⟨?_,?_,?_⟩,?_⟩
 ·rw [hss];exact Nat.le_trans (List.length_eraseIdx_le _ _) hO.few
 ·have h1:B3.ds.length ≤ B.ds.length:=nodup_sub hS.at'.ndD fun x hx => (hS.old (.dir x) hx).1
  have h2:B3.fs.length ≤ B.fs.length:=nodup_sub hS.at'.ndF fun x hx => (hS.old (.file x) hx).1
  have h3:B3.room = B.room:=hS.same.room
  rw [h3];have:=hO.room;omega
 ·intro s hs
  have h3:B3.made = B.made:=hS.same.made
  rw [h3];exact hO.nums s (hsub s hs)
 ·exact hS.same.room.trans ha.room
 ·exact hS.same.made.trans ha.made
 ·rw [hss,erase_filter hO.at'.ndS hj,ha.all]
 ·have x1:Ext w.heap.size w B w1 { B with ss:=B.ss.eraseIdx j }:=Ext.of_set1 hs1 (.inr (.inl rfl)) ⟨rfl,rfl,rfl,rfl,rfl⟩ (fun k hk => hk)
  have x2:Ext w.heap.size w1 { B with ss:=B.ss.eraseIdx j } w2 { B with ss:=B.ss.eraseIdx j }:=Ext.of_below (by rw [hs1.size];exact Nat.le_refl _) hb
  have x3:Ext w.heap.size w2 { B with ss:=B.ss.eraseIdx j } w3 B3:=Ext.of_shrink (by have:=hb.size;rw [hs1.size] at this;exact this) hS
  exact (x1.trans x2).trans x3
set_option maxHeartbeats 2000000 in
set_option maxRecDepth 50000 in
theorem storeRelease_any (B:Bank) (r:RSt) (n:Int) (w:World) (hO:Okay w B) (ha:Agree B r) :
  Calls Tryz.prog 20 #[ptrV B.sb,.int .i64 n] w fun e w' => StepOut1 w.heap.size w B (releaseR r n) e w':=by
 have s2:w.cell? ⟨B.sb,2,none⟩ = some (.map (some B.rs)):=(blk_cell hO.at'.store 2).trans rfl
 rcases find_agree ha n with ⟨hf,hno⟩ | ⟨k,es,hk,rfl,hf⟩
 ·have hl:=snap_none hO.at' hno
  have R:Hid (StepOut1 w.heap.size w B (releaseR r n) (.returned (.int .i64 2)) w):=by
   rw [releaseR_none hf];exact ⟨B,rfl,hO,ha,Ext.of_below (Nat.le_refl _) (Below.refl _ _)⟩
  clear hO ha hf hno
  go_enter Tryz.func20,Tryz.ntmps20
  go_wp2
  go_ret
  exact R.out
 ·have hl:=snap_look hO.at' hk
  have hes:es ∈ B.ds:=hO.at'.roots _ hk
  obtain ⟨m,c,h1,h2,h3⟩:=hO.at'.find_in hk
  obtain ⟨w1,j,hj,hdel,hs1⟩:=run_delete_at Tryz.underlying82 h1 (h3 w) hk
  have hA1:=hO.at'.delSnap (j:=j) h2 hs1
  have hC1:Calm { B with ss:=B.ss.eraseIdx j } (one (.dir es)):=by
   refine ⟨?_,hO.calm.pos,?_,hO.calm.small⟩
   ·intro s hs
    have:=hO.calm.exact' s hs
    have h4:=occS_erase hj s
    show B.us s = occD B.ds s + occS (B.ss.eraseIdx j) s + one (.dir es) s
    omega
   ·intro s hs
    by_cases e:s = .dir es
    ·subst e;exact hes
    ·rw [one_other e] at hs;omega
  have CD:Hid (Calls Tryz.prog 45 #[ptrV B.sb,dirV (B.ad (.dir es))] w1 fun e w' => DropOut w1 { B with ss:=B.ss.eraseIdx j } (fun s => one (.dir es) s - one (.dir es) s) e w') :=
   drop_any (.dir es) { B with ss:=B.ss.eraseIdx j } (one (.dir es)) w1 hA1 hC1 (by rw [one_same];omega)
  have HD:Hid _:=hdel
  have HO:Hid _:=hO
  have HA:Hid _:=ha
  have HF:Hid _:=hf
  have HJ:Hid _:=hj
  have HS1:Hid _:=hs1
  clear hO ha hf hk hes h1 h2 h3 hdel hs1 hA1 hC1 hj
  generalize B.ad (.dir es) = bb at *
  go_enter Tryz.func20,Tryz.ntmps20
  go_wp2_with (first | (refine wpList_delete rfl 82 3 (.tmp 17) (.tmp 18) rfl (.map (some B.rs)) (.int .i64 (k:Int)) rfl rfl w1 HD.out ?_) | (go_at_call 45;refine CD.out.mono ?_;rintro e w3 ⟨rfl,B3,hS,hC⟩;have HS:=Hid.mk' hS;have HC:=Hid.mk' hC;clear hS hC))
  go_ret
  have hC0:Calm B3 (fun _ => 0):=by
   have:(fun s => one (.dir es) s - one (.dir es) s) = fun _ => 0:=by funext s;omega
   have h5:=HC.out
   rw [this] at h5;exact h5
  exact okay_less HO.out HA.out HJ.out HS.out hC0 HF.out HS1.out (Below.refl _ _)

open Go.RowKit
def NewOut (w:World) (c:Nat) (e:Ending) (w' : World):Prop :=
 ∃ B:Bank,e = .returned (.tuple #[ptrV B.sb,.int .i64 0])∧Okay w' B∧Agree B (newR c)∧Below w.heap.size w w'∧(∀ k,B.own k→w.heap.size ≤ k)∧w'.heap[B.rr]? = some (.map #[] 0)∧¬ B.own B.rr∧w.heap.size ≤ B.rr
def bank0 (h c:Nat):Bank:={ sb:=h + 4,rs:=h,rd:=h + 1,rf:=h + 2,rr:=h + 3,room:=c,made:=0,ds:=[],fs:=[],ss:=[],ad:=fun _ => 0,us:=fun _ => 0 }
theorem okay0 {w:World} {h c:Nat} (hs:w.heap[h + 4]? = some (.cells #[.int .i64 c,.int .i64 0,.map (some h),.map (some (h + 1)),.map (some (h + 2)),.map (some (h + 3))] 87 (0,0))) (h1:w.heap[h]? = some (.map #[] 0)) (h2:w.heap[h + 1]? = some (.map #[] 0)) (h3:w.heap[h + 2]? = some (.map #[] 0)) (hc:c ≤ 200):Okay w (bank0 h c):=by
 refine ⟨⟨hs,⟨_,_,h1,rfl⟩,⟨_,_,h2,rfl⟩,⟨_,_,h3,rfl⟩,?_,?_,?_,?_,?_,?_,?_,?_⟩,⟨?_,?_,?_,?_⟩,?_,?_,?_,?_⟩
 ·show h ≠ h + 1∧h ≠ h + 2∧h + 1 ≠ h + 2;omega
 ·intro d hd;simp [bank0] at hd
 ·intro d hd;simp [bank0] at hd
 ·intro d hd;simp [bank0] at hd
 ·intro d hd;simp [bank0] at hd
 ·simp [bank0]
 ·simp [bank0]
 ·simp [bank0]
 ·intro t ht;cases t <;> simp [bank0,Bank.has] at ht
 ·intro t ht;cases t <;> simp [bank0,Bank.has] at ht
 ·intro s hs;omega
 ·intro t ht;cases t <;> simp [bank0,Bank.has] at ht
 ·intro s hs;simp [bank0] at hs
 ·simp [bank0]
 ·show 0 + 0 ≤ c∧c ≤ 200;omega
 ·intro s hs;simp [bank0] at hs
theorem newR_keep {c:Nat} (h:1 ≤ c):keepR ⟨c,0,[]⟩ (toF (filesE [])) = (newR c,0,0):=by
 rw [keepR_ok (by simp) (by
  have:cellsOf { limit:=c,made:=0,all:=[] ++ [(0,toF (filesE []))] } = 1:=by
   unfold cellsOf;simp only [filesE,toF];rfl
  rw [this];show ¬ c < 1;omega)]
 rfl
set_option maxHeartbeats 1000000 in
theorem storeNew_no (c:Int) (w:World) (h:c < 1∨200 < c) :
  Calls Tryz.prog 43 #[.int .i64 c] w fun e w' => e = .returned (.tuple #[.pointer none,.int .i64 1])∧w' = w:=by
 by_cases h1:c < 1
 ·go_enter Tryz.func43,Tryz.ntmps43
  go_wp2
  go_ret2
  exact ⟨rfl,rfl⟩
 ·have h2:200 < c:=by omega
  go_enter Tryz.func43,Tryz.ntmps43
  go_wp2
  go_ret2
  exact ⟨rfl,rfl⟩
theorem alloc6 (w:World) (o1 o2 o3 o4 o5 o6:Obj):∃ W:World,W = (((((w.alloc o1).alloc o2).alloc o3).alloc o4).alloc o5).alloc o6∧W.heap[w.heap.size]? = some o1∧W.heap[w.heap.size + 1]? = some o2∧W.heap[w.heap.size + 2]? = some o3∧W.heap[w.heap.size + 3]? = some o4∧W.heap[w.heap.size + 4]? = some o5∧W.heap[w.heap.size + 5]? = some o6∧Below w.heap.size w W:=by
 refine ⟨_,rfl,?_,?_,?_,?_,?_,?_,?_⟩
 ·rw [Below.heap_alloc _ _ _ (by simp <;> omega),Below.heap_alloc _ _ _ (by simp <;> omega),Below.heap_alloc _ _ _ (by simp <;> omega),Below.heap_alloc _ _ _ (by simp <;> omega),Below.heap_alloc _ _ _ (by simp)];exact heap_alloc_new _ _
 ·rw [Below.heap_alloc _ _ _ (by simp <;> omega),Below.heap_alloc _ _ _ (by simp <;> omega),Below.heap_alloc _ _ _ (by simp <;> omega),Below.heap_alloc _ _ _ (by simp)]
  have:=heap_alloc_new (w.alloc o1) o2;simpa using this
 ·rw [Below.heap_alloc _ _ _ (by simp <;> omega),Below.heap_alloc _ _ _ (by simp <;> omega),Below.heap_alloc _ _ _ (by simp)]
  have:=heap_alloc_new ((w.alloc o1).alloc o2) o3;simpa using this
 ·rw [Below.heap_alloc _ _ _ (by simp <;> omega),Below.heap_alloc _ _ _ (by simp)]
  have:=heap_alloc_new (((w.alloc o1).alloc o2).alloc o3) o4;simpa using this
 ·rw [Below.heap_alloc _ _ _ (by simp)]
  have:=heap_alloc_new ((((w.alloc o1).alloc o2).alloc o3).alloc o4) o5;simpa using this
 ·have:=heap_alloc_new (((((w.alloc o1).alloc o2).alloc o3).alloc o4).alloc o5) o6;simpa using this
 ·exact (((((((Below.refl _ _).alloc (Nat.le_refl _) _).alloc (by simp) _).alloc (by simp <;> omega) _).alloc (by simp <;> omega) _).alloc (by simp <;> omega) _).alloc (by simp <;> omega) _)
set_option maxHeartbeats 2000000 in
theorem storeNew_any (c:Nat) (w:World) (h1:1 ≤ c) (h2:c ≤ 200):Calls Tryz.prog 43 #[.int .i64 (c:Int)] w fun e w' => NewOut w c e w':=by
 have hmm:=@run_makeMap Tryz.prog
 have i1:¬ (c:Int) < 1:=by omega
 have i2:¬ (200:Int) < (c:Int):=by omega
 go_enter Tryz.func43,Tryz.ntmps43
 go_wp2_with fail
 obtain ⟨W,hW,e1,e2,e3,e4,e5,e6,hb⟩:=alloc6 w (.map #[] 0) (.map #[] 0) (.map #[] 0) (.map #[] 0) (.cells #[.int .i64 (c:Int),.int .i64 0,.map (some w.heap.size),.map (some (w.heap.size + 1)),.map (some (w.heap.size + 1 + 1)),.map (some (w.heap.size + 1 + 1 + 1))] 87) (.cells (Value.int .i64 0 :: listCells []).toArray 149)
 have hO:=okay0 (w:=W) (h:=w.heap.size) (c:=c) e5 e1 e2 e3 h2
 have hd:DirAt W (w.heap.size + 5) 0 []:=⟨by simp,e6⟩
 have hown:∀ k,(bank0 w.heap.size c).own k→w.heap.size ≤ k:=by
  intro k hk
  rcases hk with h | h | h | h | ⟨t,h,_⟩
  ·have:k = w.heap.size + 4:=h;omega
  ·have:k = w.heap.size:=h;omega
  ·have:k = w.heap.size + 1:=h;omega
  ·have:k = w.heap.size + 2:=h;omega
  ·cases t <;> simp [bank0,Bank.has] at h
 have hN5:w.heap.size + 5 ≤ W.heap.size:=Nat.le_of_lt (Array.getElem?_eq_some_iff.1 e6).1
 have C:=storeAdd_any (w.heap.size + 5) (bank0 w.heap.size c) (w.heap.size + 5) 0 [] [] ⟨c,0,[]⟩ W hO ⟨rfl,rfl,rfl⟩ hd (fun h => by rcases h with h | h;exact absurd rfl h;omega) .nil hN5 trivial (by simp [filesE]) (by simp [heightE]) (by show (0:Nat) < _;omega)
 rw [newR_keep h1] at C
 subst hW
 refine C.mono ?_
 rintro e w' ⟨B',rfl,hO',hA',hX'⟩
 have R:Hid (NewOut w c (.returned (.tuple #[ptrV (w.heap.size + 4),.int .i64 0])) w'):=by
  have hsb:B'.sb = w.heap.size + 4:=hX'.four.1
  have hrr:B'.rr = w.heap.size + 3:=hX'.four.2.2.2.2
  have hno:¬ (bank0 w.heap.size c).own (w.heap.size + 3):=by
   rintro (h | h | h | h | ⟨t,h,_⟩)
   ·have:w.heap.size + 3 = w.heap.size + 4:=h;omega
   ·have:w.heap.size + 3 = w.heap.size:=h;omega
   ·have:w.heap.size + 3 = w.heap.size + 1:=h;omega
   ·have:w.heap.size + 3 = w.heap.size + 2:=h;omega
   ·cases t <;> simp [bank0,Bank.has] at h
  refine ⟨B',by rw [hsb],hO',hA',?_,fun k hk => (hX'.own k hk).elim (hown k) (fun h => by omega),?_,?_,by omega⟩
  ·exact hb.trans ⟨hX'.os,hX'.tape,hX'.output,hX'.size,fun k hk => hX'.blk k (by omega) (fun ho => by have:=hown k ho;omega)⟩
  ·rw [hrr];exact (hX'.blk _ (by omega) hno).trans e4
  ·rw [hrr];exact fun h => (hX'.own _ h).elim hno (fun h2 => by omega)
 clear hO' hA' hX' C hO hd hb e1 e2 e3 e4 e5 e6 hown hN5
 go_wp2
 go_ret2
 exact R.out

open Go.RowKit
structure Duo where
 B:Bank
 b:Nat
 r:RSt
 va:Value
 vr:Value
 sn:List (Nat × Value)
def Duo.docs (D:Duo) (k:Nat):Prop:=k = D.b∨D.va.ownBlock = some k∨∃ x ∈ D.sn,x.2.ownBlock = some k
def Duo.own (D:Duo) (k:Nat):Prop:=D.B.own k∨D.docs k
structure DuoAt (w:World) (D:Duo):Prop where
 ok:Okay w D.B
 ref:RefAt w D.b D.r D.va D.vr D.sn
 ag:Agree D.B D.r
 apart:∀ k,D.B.own k→¬ D.docs k
structure DuoStep (w:World) (D:Duo) (w' : World) (D' : Duo):Prop where
 os:w'.os = w.os
 tape:w'.tape = w.tape
 output:w'.output = w.output
 size:w.heap.size ≤ w'.heap.size
 blk:∀ k,k < w.heap.size→¬ D.own k→w'.heap[k]? = w.heap[k]?
 own:∀ k,D'.own k→D.own k∨w.heap.size ≤ k
 sb:D'.B.sb = D.B.sb
 b:D'.b = D.b
 made:D'.r.made ≤ D.r.made + 1
 rr:D'.B.rr = D.B.rr
 vr:D'.vr = D.vr
theorem BankAt.frame {w w' : World} {B:Bank} (h:BankAt w B) (hb:∀ k,B.own k→w'.heap[k]? = w.heap[k]?):BankAt w' B:=by
 obtain ⟨m1,c1,h1,k1⟩:=h.snaps
 obtain ⟨m2,c2,h2,k2⟩:=h.dmap
 obtain ⟨m3,c3,h3,k3⟩:=h.fmap
 exact ⟨(hb _ (.inl rfl)).trans h.store,⟨m1,c1,(hb _ (.inr (.inl rfl))).trans h1,k1⟩,⟨m2,c2,(hb _ (.inr (.inr (.inl rfl)))).trans h2,k2⟩,⟨m3,c3,(hb _ (.inr (.inr (.inr (.inl rfl))))).trans h3,k3⟩,h.apart,
  fun d hd => (hb _ (.inr (.inr (.inr (.inr ⟨.file d,hd,rfl⟩))))).trans (h.files d hd),fun es he => ⟨(h.dirs es he).1,(hb _ (.inr (.inr (.inr (.inr ⟨.dir es,he,rfl⟩))))).trans (h.dirs es he).2⟩,h.closed,h.roots,h.ndD,h.ndF,h.ndS⟩
theorem Okay.frame {w w' : World} {B:Bank} (h:Okay w B) (hb:∀ k,B.own k→w'.heap[k]? = w.heap[k]?):Okay w' B:=⟨h.at'.frame hb,h.calm,h.wf,h.few,h.room,h.nums⟩
theorem BankAt.own_lt {w:World} {B:Bank} (h:BankAt w B) {k:Nat} (hk:B.own k):k < w.heap.size:=by
 obtain ⟨m1,c1,h1,_⟩:=h.snaps
 obtain ⟨m2,c2,h2,_⟩:=h.dmap
 obtain ⟨m3,c3,h3,_⟩:=h.fmap
 rcases hk with rfl | rfl | rfl | rfl | ⟨t,ht,rfl⟩
 ·exact (Array.getElem?_eq_some_iff.1 h.store).1
 ·exact (Array.getElem?_eq_some_iff.1 h1).1
 ·exact (Array.getElem?_eq_some_iff.1 h2).1
 ·exact (Array.getElem?_eq_some_iff.1 h3).1
 ·exact (Array.getElem?_eq_some_iff.1 (h.nodeO ht)).1
theorem rowKept {w w' : World} {base:Nat} {e:TypeId} {size n:Nat} {v:Value} {xs:List Value} (h:w.ownsRow base e size v n xs) (hb:∀ k,v.ownBlock = some k→w'.heap[k]? = w.heap[k]?):w'.ownsRow base e size v n xs:=by
 refine ⟨h.1,?_⟩
 rcases h.2 with h | ⟨g,cap,cur,rfl,h2,h3,h4⟩
 ·exact .inl h
 ·exact .inr ⟨g,cap,cur,rfl,h2,(hb g rfl).trans h3,h4⟩
theorem RefAt.frame {w w' : World} {D:Duo} (h:RefAt w D.b D.r D.va D.vr D.sn) (hb:∀ k,D.docs k→w'.heap[k]? = w.heap[k]?):RefAt w' D.b D.r D.va D.vr D.sn :=
 ⟨(hb _ (.inl rfl)).trans h.blk,rowKept h.row (fun k hk => hb k (.inr (.inl hk))),h.len,h.num,fun k h1 h2 => files_kept (h.fil k h1 h2) (fun j hj => hb j (.inr (.inr ⟨_,List.getElem_mem h1,hj⟩))),h.tiny,h.few,h.lim⟩
theorem RefAt.docs_lt {w:World} {D:Duo} (h:RefAt w D.b D.r D.va D.vr D.sn) {k:Nat} (hk:D.docs k):k < w.heap.size:=by
 rcases hk with rfl | hk | ⟨x,hx,hk⟩
 ·exact (Array.getElem?_eq_some_iff.1 h.blk).1
 ·exact (h.row.lt k hk).2
 ·obtain ⟨i,hi,rfl⟩:=List.getElem_of_mem hx
  exact ((h.fil i hi (by rw [← h.len];exact hi)).lt k hk).2
theorem DuoAt.frame {w w' : World} {D:Duo} (h:DuoAt w D) (hb:∀ k,D.own k→w'.heap[k]? = w.heap[k]?):DuoAt w' D :=
 ⟨h.ok.frame (fun k hk => hb k (.inl hk)),h.ref.frame (fun k hk => hb k (.inr hk)),h.ag,h.apart⟩
theorem DuoAt.own_lt {w:World} {D:Duo} (h:DuoAt w D) {k:Nat} (hk:D.own k):k < w.heap.size:=hk.elim (fun h1 => h.ok.at'.own_lt h1) (fun h1 => h.ref.docs_lt h1)
theorem DuoStep.of_below {w w' : World} {D:Duo} (h:Below w.heap.size w w'):DuoStep w D w' D :=
 ⟨h.os,h.tape,h.output,h.size,fun k hk _ => h.block k hk,fun _ hk => .inl hk,rfl,rfl,by omega,rfl,rfl⟩
theorem DuoStep.before {w w1 w' : World} {D D' : Duo} (h:Below w.heap.size w w1) (hs:DuoStep w1 D w' D'):DuoStep w D w' D' :=
 ⟨hs.os.trans h.os,hs.tape.trans h.tape,hs.output.trans h.output,Nat.le_trans h.size hs.size,fun k hk hn => (hs.blk k (Nat.lt_of_lt_of_le hk h.size) hn).trans (h.block k hk),fun k hk => (hs.own k hk).imp id (fun h2 => Nat.le_trans h.size h2),hs.sb,hs.b,hs.made,hs.rr,hs.vr⟩
theorem keepR_made (r:RSt) (l:List Fl):(keepR r l).1.made ≤ r.made + 1:=by unfold keepR;split;exact Nat.le_succ _;split;exact Nat.le_succ _;exact Nat.le_refl _
theorem duo_step {w w2 w3:World} {D:Duo} {B' : Bank} {r' : RSt} {va' : Value} {sn' : List (Nat × Value)} (hD:DuoAt w D) (hO:Okay w2 B') (hA:Agree B' r') (hX:Ext w.heap.size w D.B w2 B')
  (hR:RefAt w3 D.b r' va' D.vr sn') (hS:RefStep w2 D.b D.va D.sn w3 va' sn') (hm:r'.made ≤ D.r.made + 1) :
  DuoAt w3 ⟨B',D.b,r',va',D.vr,sn'⟩∧DuoStep w D w3 ⟨B',D.b,r',va',D.vr,sn'⟩:=by
 have hdoc:∀ k,D.docs k→¬ B'.own k:=by
  intro k hk ho
  rcases hX.own k ho with h1 | h1
  ·exact hD.apart k h1 hk
  ·have:=hD.ref.docs_lt hk;omega
 have hB3:∀ k,B'.own k→w3.heap[k]? = w2.heap[k]?:=fun k hk => hS.block k (hO.at'.own_lt hk) (fun e => hdoc k (.inl e) hk) (fun e => hdoc k (.inr (.inl e)) hk)
 have hnew:∀ k,Duo.docs ⟨B',D.b,r',va',D.vr,sn'⟩ k→D.docs k∨w2.heap.size ≤ k:=by
  intro k hk
  rcases hk with hk | hk | ⟨x,hx,hk⟩
  ·exact .inl (.inl hk)
  ·rcases hS.moved k hk with h1 | h1
   ·exact .inl (.inr (.inl h1))
   ·exact .inr h1
  ·rcases hS.vals x hx with h1 | h1
   ·exact .inl (.inr (.inr ⟨x,h1,hk⟩))
   ·exact .inr (h1 k hk)
 refine ⟨⟨hO.frame hB3,hR,hA,?_⟩,⟨hS.os.trans hX.os,hS.tape.trans hX.tape,hS.output.trans hX.output,Nat.le_trans hX.size hS.size,?_,?_,hX.four.1,rfl,hm,hX.four.2.2.2.2,rfl⟩⟩
 ·intro k hk hd
  rcases hnew k hd with h1 | h1
  ·exact hdoc k h1 hk
  ·have:=hO.at'.own_lt hk;omega
 ·intro k hk hn
  rw [hS.block k (Nat.lt_of_lt_of_le hk hX.size) (fun e => hn (.inr (.inl e))) (fun e => hn (.inr (.inr (.inl e)))),hX.blk k hk (fun h => hn (.inl h))]
 ·intro k hk
  rcases hk with hk | hk
  ·rcases hX.own k hk with h1 | h1
   ·exact .inl (.inl h1)
   ·exact .inr h1
  ·rcases hnew k hk with h1 | h1
   ·exact .inl (.inr h1)
   ·exact .inr (Nat.le_trans hX.size h1)
theorem duo_ref {w w2:World} {D:Duo} {B' : Bank} (hD:DuoAt w D) (hX:Ext w.heap.size w D.B w2 B'):RefAt w2 D.b D.r D.va D.vr D.sn :=
 hD.ref.frame fun k hk => hX.blk k (hD.ref.docs_lt hk) (fun h => hD.apart k h hk)
theorem path_short {p:List Str} (h:OkN p) (h5:p.length ≤ 5):(joinP p).length ≤ 44:=by
 have h1:∀ x ∈ p,x.length ≤ 8:=fun x hx => (isNameL_len (h.2 x hx)).2
 have h2:∀ (q:List Str),(∀ x ∈ q,x.length ≤ 8)→(joinP q).length ≤ 9 * q.length:=by
  intro q
  induction q with
  | nil => intro _;simp [joinP]
  | cons x r ih =>
   intro hq
   have hx:=hq x (by simp)
   cases r with
   | nil => simp only [joinP,List.length_cons,List.length_nil];omega
   | cons y r =>
    have:=ih (fun z hz => hq z (by simp [hz]))
    rw [joinP_cons (by simp),List.length_append,List.length_cons,List.length_cons];omega
 cases p with
 | nil => simp [joinP]
 | cons x r =>
  cases r with
  | nil => have:=h1 x (by simp);simp only [joinP];omega
  | cons y r =>
   have hx:=h1 x (by simp)
   have h3:=h2 (y :: r) (fun z hz => h1 z (by simp [hz]))
   rw [joinP_cons (by simp),List.length_append,List.length_cons]
   simp only [List.length_cons] at h5 h3 ⊢
   have h4:∀ (q:List Str),q ≠ []→(∀ x ∈ q,x.length ≤ 8)→(joinP q).length + 1 ≤ 9 * q.length:=by
    intro q
    induction q with
    | nil => intro h;exact absurd rfl h
    | cons x r ih =>
     intro _ hq
     have hx:=hq x (by simp)
     cases r with
     | nil => simp only [joinP,List.length_cons,List.length_nil];omega
     | cons y r =>
      have:=ih (by simp) (fun z hz => hq z (by simp [hz]))
      rw [joinP_cons (by simp),List.length_append,List.length_cons,List.length_cons];omega
   have h6:=h4 (y :: r) (by simp) (fun z hz => h1 z (by simp [hz]))
   simp only [List.length_cons] at h6
   omega
theorem duo_short {w:World} {D:Duo} (h:DuoAt w D):∀ x ∈ D.r.all,∀ f ∈ x.2,f.1.length ≤ 44:=by
 intro x hx f hf
 rw [← h.ag.all] at hx
 simp only [List.mem_map] at hx
 obtain ⟨s,hs,rfl⟩:=hx
 obtain ⟨hw,_,hh⟩:=h.ok.wf s hs
 simp only [toF,List.mem_map] at hf
 obtain ⟨g,hg,rfl⟩:=hf
 have h1:=(valid_files hw).1 g hg
 have h2:=(mem_root hw g.1 g.2).1 hg
 cases hp:g.1 with
 | nil => rw [hp] at h1;exact absurd rfl h1.1
 | cons y r =>
  rw [hp] at h2 h1
  exact path_short h1 ((heightE_le s.2 hw 5).1 hh y r g.2 h2)
end Go.Proofs.YtdcbgfhkfmohiaaGreatDoor
