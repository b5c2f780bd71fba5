/- Contracts of the document's answer (package canopyref): Rule. -/
import Derived.Test.YtdcbgfhkfmohiaaGreatDoorAl31
import Derived.Test.YtdcbgfhkfmohiaaGreatDoorAl36
import Derived.Deep.DeepCutAuto
import Derived.Deep.RegionHeld3
namespace Go.Proofs.YtdcbgfhkfmohiaaGreatDoor
open Go.RowKit
attribute [local go_sem] Oper.semAt_some
theorem rest_take {ds:List DRule} {n:Str} {k:Nat} (hk:k < ds.length):((ds.take (k + 1)).filter fun d => !(d.name == n)) = ((ds.take k).filter fun d => !(d.name == n)) ++ (if ds[k].name == n then [] else [ds[k]]):=by
 rw [List.take_succ_eq_append_getElem hk,List.filter_append]
 cases h:ds[k].name == n <;> simp [h]
theorem ins_end {T:Type} (lt:T→Bool) (r:T) (l:List T) (d0:Bool):insEnd r (l.foldl (insStep lt r) ([],d0)) = if d0 then l else insD lt r l:=by
 cases d0
 ·rw [ins_all];simp
 ·rw [ins_done];simp [insEnd]
theorem drule_done {w wx w8 W:World} {b:Nat} {c0 c1 va vr u:Value} {ds ys fs:List DRule} {n:Str} {xs:List Str} {rD:DRule} {d0:Bool} {o:Obj} (hR:DRulesAt w vr ds) (hVB:¬ docR vr ds b) (hBW:Below w.heap.size w wx) (hS:Set1 wx w8 b o) (hA:AccAt b c0 c1 va w8 W u fs)
  (hfs:fs = insEnd rD (ys.foldl (insStep (fun d:DRule => Op.bytesLess n d.name) rD) ([],d0))) (hd0:decide (xs.length = 0) = d0) (hys:ys = ds.filter fun d => !(d.name == n)) (hDA:DRuleAt wx rD) (hDF:∀ m,Dfoot rD m→w.heap.size ≤ m) (hbs:b < w.heap.size)
  (hRD:rD.view = ⟨n,xs.map (splitL 32),[]⟩∧rD.name = n∧rD.ws.length ≤ 6) (hG:∀ x ∈ rD.ws,WOk x) (hOK:ruleDE (ds.map (·.view)) n xs = 0) (hn8:n.length ≤ 8) (hy8:ys.length < 8):DRuleOut w b c0 c1 va vr ds n xs (.returned (.int .i64 0)) W:=by
 rw [ins_end] at hfs
 have hsub:∀ d ∈ ys,d ∈ ds:=by rw [hys];exact fun d hd => (List.mem_filter.1 hd).1
 have hmem:∀ d ∈ fs,d = rD∨d ∈ ds:=by
  rw [hfs]
  intro d hd
  split at hd
  ·exact .inr (hsub d hd)
  ·exact (ins_mem hd).imp id (hsub d)
 have hkeep:∀ m,m < wx.heap.size→m ≠ b→W.heap[m]? = wx.heap[m]?:=fun m h1 h2 => (hA.turn.blk m (by rw [hS.size];exact h1) h2).trans (hS.other m h2)
 have hsz:wx.heap.size ≤ W.heap.size:=by have:=hA.turn.size;rw [hS.size] at this;exact this
 have hlt:∀ d ∈ fs,∀ m,Dfoot d m→m < wx.heap.size:=fun d hd m hm => by
  rcases hmem d hd with rfl | h
  ·exact hDA.lt hm
  ·exact Nat.lt_of_lt_of_le ((hR.each d h).lt hm) hBW.size
 refine ⟨by rw [hOK];rfl,u,fs,hA.blk,⟨ownsRow_le hA.row (Nat.zero_le _),?_,?_,?_,?_,?_⟩,?_,?_,?_⟩
 ·intro d hd
  rcases hmem d hd with rfl | h
  ·exact hDA.frame hsz fun m hm => hkeep m (hDA.lt hm) (fun e => by have:=hDF m hm;omega)
  ·refine (hR.each d h).frame (Nat.le_trans hBW.size hsz) fun m hm => ?_
   have h1:=(hR.each d h).lt hm
   exact (hkeep m (Nat.lt_of_lt_of_le h1 hBW.size) (fun e => hVB (.inr ⟨d,h,e ▸ hm⟩))).trans (hBW.block m h1)
 ·intro k hk d hd hf
  have h1:=(hA.row.lt k hk).1
  have h2:=hlt d hd k hf
  rw [hS.size] at h1
  omega
 ·rw [hfs]
  split
  ·omega
  ·rw [ins_len];omega
 ·intro d hd
  rcases hmem d hd with rfl | h
  ·exact ⟨by rw [hRD.2.1];exact hn8,hRD.2.2⟩
  ·exact hR.short d h
 ·intro d hd
  rcases hmem d hd with rfl | h
  ·exact hG
  ·exact hR.good d h
 ·rw [ruleDV,if_pos hOK,hfs]
  by_cases hx:xs = []
  ·have:d0 = true:=by rw [← hd0,hx];rfl
   rw [if_pos this,if_pos hx,rest_view,hys]
  ·have:d0 = false:=by
    rw [← hd0,decide_eq_false_iff_not]
    intro h
    exact hx (List.eq_nil_of_length_eq_zero h)
   rw [this,if_neg (by simp),if_neg hx,ins_view (fun s => Op.bytesLess n s),rest_view,hys,hRD.1]
 ·exact ⟨hA.turn.os.trans (hS.os.trans hBW.os),hA.turn.tape.trans (hS.tape.trans hBW.tape),hA.turn.output.trans (hS.output.trans hBW.output),Nat.le_trans hBW.size hsz,fun k h1 h2 => (hkeep k (Nat.lt_of_lt_of_le h1 hBW.size) h2).trans (hBW.block k h1),fun k hk => .inl hk⟩
 ·rintro k (hk | ⟨d,hd,hk⟩)
  ·have h1:=(hA.row.lt k hk).1
   rw [hS.size] at h1
   exact .inr (Nat.le_trans hBW.size h1)
  ·rcases hmem d hd with rfl | h
   ·exact .inr (hDF k hk)
   ·exact .inl (.inr ⟨d,h,hk⟩)
set_option maxHeartbeats 16000000 in
set_option maxRecDepth 50000 in
theorem refRule_any (b:Nat) (c0 c1:Value) (va vr:Value) (ds:List DRule) (n:Str) (xs:List Str) (qv:Value) (w:World) (hblk:w.heap[b]? = some (.cells #[c0,c1,va,vr] 193 (0,0))) (hR:DRulesAt w vr ds) (hvb:¬ docR vr ds b) (hn:NamesAt w qv xs) (hl:n.length ≤ maxLen) (hxl:∀ x ∈ xs,x.length + 1 < maxLen) :
  Calls Tryz.prog 141 #[.pointer (some ⟨b,0,none⟩),SV n,qv] w fun e w' => DRuleOut w b c0 c1 va vr ds n xs e w':=by
 have CN:=isName_any n false w hl
 have b3:w.cell? ⟨b,3,none⟩ = some vr:=(blk_cell hblk 3).trans rfl
 have hbs:b < w.heap.size:=(Array.getElem?_eq_some_iff.1 hblk).1
 have HR:=Hid.mk' hR
 have HN:=Hid.mk' hn
 have HBK:=Hid.mk' hblk
 have HVB:=Hid.mk' hvb
 have HXL:=Hid.mk' hxl
 obtain ⟨aoQ,capQ,rfl,hcq,hmq,hxc⟩:=id hn
 have HXC:=Hid.mk' hxc
 obtain ⟨aoV,capV,rfl⟩:=row_form hR.row
 have HRC:=Hid.mk' (rule_cells hR.row)
 have BAD:Hid (∀ (j:Nat) W,ruleDE (ds.map (·.view)) n xs = j→j ≠ 0→Below w.heap.size w W→DRuleOut w b c0 c1 va (.slice aoV ds.length capV) ds n xs (.returned (.int .i64 j)) W):=fun j W he hj hb => drule_bad HBK.out HR.out hb he hj
 have hds8:=hR.few
 clear hR hn hblk hvb hxl hxc
 cases hnm:isNameL n false
 ·have R:=Hid.mk' (BAD.out 3 w (by rw [ruleDE,if_neg (by rw [hnm];simp)]) (by omega) (Below.refl _ _))
  rw [hnm] at CN
  clear BAD HRC b3
  go_enter Tryz.func141,Tryz.ntmps141
  go_wp2_with fail
  refine CN.mono ?_
  rintro e w ⟨rfl,rfl⟩
  clear CN
  go_wp2
  go_ret
  exact R.out
 ·have HNM:=Hid.mk' hnm
  have HN8:=Hid.mk' (isNameL_len hnm).2
  rw [hnm] at CN
  go_enter Tryz.func141,Tryz.ntmps141
  go_wp2_with fail
  refine CN.mono ?_
  rintro e w ⟨rfl,rfl⟩
  clear CN
  go_wp2
  go_loopw [8,9] (fun u i wr => ∃ (k:Nat) (ys:List DRule),k ≤ ds.length∧i = .int .i64 k∧ys = ((ds.take k).filter fun d => !(d.name == n))∧wr.ownsRow w.heap.size 248 3 u ys.length (flatR ys)∧Below w.heap.size w wr) (fun _ i _ => ds.length - (intOf i).toNat)
  case atStart => exact ⟨0,[],Nat.zero_le _,rfl,rfl,World.ownsRow_nil _ _ _ _,Below.refl _ _⟩
  case round =>
   obtain ⟨k,ys,hk,rfl,hys,hrow,hb⟩:=hrel
   have HYS:=Hid.mk' hys
   have hyl:ys.length ≤ 8:=by
    rw [hys]
    exact Nat.le_trans (List.length_filter_le _ _) (by simp;omega)
   clear hys
   have br3:wr.cell? ⟨b,3,none⟩ = some (.slice aoV ds.length capV):=(hb.cell (p:=⟨b,3,none⟩) hbs).trans b3
   have hbr:b < wr.heap.size:=Nat.lt_of_lt_of_le hbs hb.size
   by_cases hlt:k < ds.length
   ·as_aux_lemma =>
     have hki:(k:Int) < (ds.length:Int):=by omega
     rcases HRC.out with ⟨_,h0⟩ | ⟨g,cap,eV,hg,_,hcV,hmV,hcell⟩
     ·rw [h0] at hlt;simp at hlt
     simp only [Value.slice.injEq] at eV
     obtain ⟨rfl,-,rfl⟩:=eV
     have c0' : wr.cell? ⟨g,k * 3,none⟩ = some (SV ds[k].name):=(hb.cell (p:=⟨g,k * 3,none⟩) hg).trans (hcell k hlt).1
     have c1' : wr.cell? ⟨g,k * 3 + 1,none⟩ = some ds[k].qv:=(hb.cell (p:=⟨g,k * 3 + 1,none⟩) hg).trans (hcell k hlt).2.1
     have c2' : wr.cell? ⟨g,k * 3 + 2,none⟩ = some ds[k].av:=(hb.cell (p:=⟨g,k * 3 + 2,none⟩) hg).trans (hcell k hlt).2.2
     have hgr:g < wr.heap.size:=Nat.lt_of_lt_of_le hg hb.size
     have hdk:=HR.out.each ds[k] (List.getElem_mem hlt)
     obtain ⟨⟨aq,cq,eq⟩,aa,ca,ea⟩:=hdk.forms
     rw [eq] at c1'
     rw [ea] at c2'
     have HST:=Hid.mk' (rest_take (n:=n) hlt)
     have HCE:Hid (ds[k].cells = [SV ds[k].name,.slice aq ds[k].wv.length cq,.slice aa ds[k].ans.length ca]):=by rw [Hid,DRule.cells,eq,ea]
     unfold maxLen at hmV
     have hz:=hb.size
     obtain ⟨aoY,capY,rfl⟩:=row_form hrow
     clear hcell hdk eq ea
     obtain ⟨dk,hdk⟩ : ∃ dk,ds[k] = dk:=⟨_,rfl⟩
     rw [hdk] at HST HCE c0' c1' c2'
     clear hdk
     by_cases hne:dk.name = n
     ·have HE:Hid (ys = ((ds.take (k + 1)).filter fun d => !(d.name == n))):=by rw [Hid,HST.out,if_pos (by simpa using hne),List.append_nil];exact HYS.out
      have hneB:(dk.name == n) = true:=by simpa using hne
      have hbb:=Hid.mk' hb
      have hrr:=Hid.mk' hrow
      clear HST HCE hne
      generalize dk.name = dn at *
      go_wp2
      go_roundw
      case rel => exact ⟨k + 1,ys,by omega,by go_num,HE.out,hrr.out,hbb.out⟩
      case measure => simp [intOf];omega
     ·have HE:Hid (ys ++ [dk] = ((ds.take (k + 1)).filter fun d => !(d.name == n))):=by rw [Hid,HST.out,if_neg (by simpa using hne),HYS.out]
      have hneB:(dk.name == n) = false:=by simpa using hne
      clear HST
      go_wp2_with (at_builtin;go_loud (refine wp_app 191 248 _ 3 64 Tryz.infoRule Tryz.underlying191 rfl (by decide) rfl (.tmp 39) (.tmp 47) rfl hrow [SV dk.name,.slice aq dk.wv.length cq,.slice aa dk.ans.length ca] rfl (by intro u hu;simp at hu;rcases hu with rfl | rfl | rfl <;> rfl) ⟨rfl,rfl,rfl,rfl⟩ rfl rfl (by unfold maxLen;omega) (by omega) hz ?_))
      intro v' w' hown' hb'
      have HR' : Hid (w'.ownsRow w.heap.size 248 3 v' (ys ++ [dk]).length (flatR (ys ++ [dk]))):=by rw [Hid,flatR_app,HCE.out,List.length_append,List.length_singleton];exact hown'
      have HB':=Hid.mk' (hb.trans hb')
      clear hown' hb'
      go_wp2
      go_roundw
      case rel => exact ⟨k + 1,ys ++ [dk],by omega,by go_num,HE.out,HR'.out,HB'.out⟩
      case measure => simp [intOf];omega
   ·have hki:¬ (k:Int) < (ds.length:Int):=by omega
    have HYA:Hid (ys = ds.filter fun d => !(d.name == n)):=by rw [Hid,HYS.out,List.take_of_length_le (by omega)]
    have HRY:=Hid.mk' hrow
    have HBY:=Hid.mk' hb
    obtain ⟨aoY,capY,rfl⟩:=row_form hrow
    clear HYS hrow hb HRC b3 hlt hk
    go_upto_region 10 with fail
    have HRV:Hid ((restD (ds.map (·.view)) n).length = ys.length):=by rw [Hid,rest_view,List.length_map,← HYA.out]
    by_cases hx6:6 < xs.length
    ·have R:=Hid.mk' (BAD.out 7 wr (by rw [ruleDE,if_pos HNM.out,if_pos (.inl hx6)]) (by omega) HBY.out)
     have hx6i:(6:Int) < (xs.length:Int):=by omega
     clear BAD
     go_wp2
     go_ret
     exact R.out
    ·have hx6i:¬ (6:Int) < (xs.length:Int):=by omega
     by_cases hfull:ys.length = ds.length∧8 ≤ ys.length
     ·have R:=Hid.mk' (BAD.out 7 wr (by rw [ruleDE,if_pos HNM.out,if_pos (.inr ⟨by rw [HRV.out,List.length_map];exact hfull.1,by rw [HRV.out];exact hfull.2⟩)]) (by omega) HBY.out)
      have hydi:(ys.length:Int) = (ds.length:Int):=by omega
      have h8:(8:Int) ≤ (ds.length:Int):=by omega
      clear BAD hfull
      go_wp2
      go_ret
      exact R.out
     ·go_cut [66] (fun c wc => c = .bool false∧wc = wr)
      case first =>
       by_cases hyd:ys.length = ds.length
       ·have h8:¬ (8:Int) ≤ (ds.length:Int):=by omega
        have hydi:(ys.length:Int) = (ds.length:Int):=by omega
        clear hyd
        go_wp2
        go_meet
        case rel => exact ⟨rfl,rfl⟩
       ·have hydi:¬ (ys.length:Int) = (ds.length:Int):=by omega
        go_wp2
        go_meet
        case rel => exact ⟨rfl,rfl⟩
      case rest =>
       obtain ⟨rfl,rfl⟩:=hcut
       generalize wc = wr at *
       have HEQ:Hid (ruleDE (ds.map (·.view)) n xs = checkAll xs):=by rw [Hid,ruleDE,if_pos HNM.out,if_neg (by rw [HRV.out,List.length_map];omega)]
       have hfy:ys.length < 8:=by
        have h1:ys.length ≤ ds.length:=by rw [HYA.out];exact List.length_filter_le _ _
        omega
       clear hfull br3 HNM HRV
       generalize wr = wy at *
       go_upto_region 13 with fail
       obtain ⟨w3,hw3⟩ : ∃ w3,w3 = wy.alloc (.cells #[.string ⟨List.toArray n⟩,.slice none 0 0,.slice none 0 0] 248):=⟨_,rfl⟩
       have HB3:Hid (Below wy.heap.size wy w3):=by rw [Hid,hw3];exact (Below.refl _ _).alloc (Nat.le_refl _) _
       have HN3:Hid (w3.heap[wy.heap.size]? = some (.cells #[SV n,.slice none 0 0,.slice none 0 0] 248 (0,0))):=by rw [Hid,hw3];exact heap_alloc_new _ _
       have hs3:wy.heap.size + 1 ≤ w3.heap.size:=(Array.getElem?_eq_some_iff.1 HN3.out).1
       rw [← hw3]
       clear hw3
       obtain ⟨rb,hrb⟩ : ∃ rb,wy.heap.size = rb:=⟨_,rfl⟩
       have HRB:=Hid.mk' hrb
       rw [hrb] at HN3 hs3 ⊢
       clear hrb
       go_wp2
       go_loopw [11] (fun i wx => ∃ (k:Nat) (wv:List Value) (qv:Value),k ≤ xs.length∧i = .int .i64 k∧wv.length = k∧wx.heap[rb]? = some (.cells #[SV n,qv,.slice none 0 0] 248 (0,0))∧wx.ownsRow (rb + 1) 48 1 qv k wv∧(∀ j (h:j < wv.length) (h' : j < xs.length),WordsAt wx wv[j] (splitL 32 xs[j]))∧(∀ x ∈ wv,∀ m,x.ownBlock = some m→rb + 1 ≤ m∧qv.ownBlock ≠ some m)∧(∀ j (h:j < xs.length),j < k→checkL xs[j] = 0)∧Below rb w3 wx) (fun i _ => xs.length - (intOf i).toNat)
       case atStart => exact ⟨0,[],.slice none 0 0,Nat.zero_le _,rfl,rfl,HN3.out,World.ownsRow_nil _ _ _ _,fun j h => by simp at h,fun x hx => by simp at hx,fun j _ h => by omega,Below.refl _ _⟩
       case round =>
        obtain ⟨k2,wv,qv,hk2,rfl,hwl,hrb,hqr,hwd,hwf,hck,hb2⟩:=hrel
        have hrbs:rb < wr.heap.size:=(Array.getElem?_eq_some_iff.1 hrb).1
        have HBW:Hid (Below rb wy wr):=by
         have h1:=HB3.out
         rw [HRB.out] at h1
         exact h1.trans hb2
        have HBW0:Hid (Below w.heap.size w wr):=HBY.out.trans (HBW.out.mono (by rw [← HRB.out];exact HBY.out.size))
        have hrw:w.heap.size ≤ rb:=by rw [← HRB.out];exact HBY.out.size
        by_cases hlt2:k2 < xs.length
        ·as_aux_lemma =>
          have hki2:(k2:Int) < (xs.length:Int):=by omega
          obtain ⟨gx,ox,ex,hgx,cx⟩:=HXC.out k2 hlt2
          subst ex
          have cxr:wr.cell? ⟨gx,ox + k2,none⟩ = some (SV xs[k2]):=(HBW0.out.cell (p:=⟨gx,ox + k2,none⟩) hgx).trans cx
          have hgxr:gx < wr.heap.size:=Nat.lt_of_lt_of_le hgx HBW0.out.size
          have C:=Hid.mk' (check_new xs[k2] wr (HXL.out xs[k2] (List.getElem_mem hlt2)))
          have HBD:Hid (checkL xs[k2] ≠ 0→ruleDE (ds.map (·.view)) n xs = checkL xs[k2]):=fun h => by
           rw [HEQ.out]
           exact checkAll_bad hlt2 (fun j hj => hck j (by omega) hj) h
          have HRBK:=Hid.mk' hrb
          have HQR:=Hid.mk' hqr
          have HWD:=Hid.mk' hwd
          have HWF:=Hid.mk' hwf
          have HCK:=Hid.mk' hck
          have HB2:=Hid.mk' hb2
          have HWL:=Hid.mk' hwl
          clear hrb hqr hwd hwf hck hb2 cx hwl HXC HN
          obtain ⟨xk,hxk⟩ : ∃ xk,xs[k2] = xk:=⟨_,rfl⟩
          have HXK:=Hid.mk' hxk
          rw [hxk] at cxr C HBD
          clear hxk
          unfold maxLen at hmq
          go_wp2_with fail
          refine Calls.mono (show Calls _ _ _ _ _ from C.out) ?_
          rintro e w4 ⟨hb4,⟨hc0,v4,rfl,hw4,hf4⟩ | ⟨hcn,rfl⟩⟩
          ·obtain ⟨aoq,capq,rfl⟩:=row_form HQR.out
           have hr4:w4.heap[rb]? = some (.cells #[SV n,.slice aoq k2 capq,.slice none 0 0] 248 (0,0)):=(hb4.block rb hrbs).trans HRBK.out
           have q4:w4.cell? ⟨rb,1,none⟩ = some (.slice aoq k2 capq):=(blk_cell hr4 1).trans rfl
           have hrb4:rb < w4.heap.size:=(Array.getElem?_eq_some_iff.1 hr4).1
           have hrow4:w4.ownsRow (rb + 1) 48 1 (.slice aoq k2 capq) k2 wv:=rowKept HQR.out fun i hi => hb4.block i (World.ownsRow.lt HQR.out i hi).2
           have HW4:=Hid.mk' hw4
           have HF4:=Hid.mk' hf4
           have HR4:=Hid.mk' hr4
           have HB4:=Hid.mk' hb4
           have HC0:=Hid.mk' hc0
           obtain ⟨g4,cp4,rfl,hl4,hm4,hrest⟩:=hw4
           have hz4:rb + 1 ≤ w4.heap.size:=hrb4
           clear hf4 hr4 hb4 hc0 C HBD hrest hl4
           obtain ⟨n4,hn4⟩ : ∃ n4,(splitL 32 xk).length = n4:=⟨_,rfl⟩
           rw [hn4] at HW4 HF4 ⊢
           clear hn4
           go_wp2_with (at_builtin;go_loud (refine wp_app_at 246 48 _ 1 24 Tryz.infoWords Tryz.underlying246 rfl (by decide) rfl (.tmp 87) (.tmp 89) rfl hrow4 [.slice (some ⟨g4,0,none⟩) n4 cp4] rfl (by intro u hu;simp at hu;subst hu;rfl) ⟨rfl,rfl,rfl,rfl⟩ rfl rfl (by unfold maxLen;omega) (by omega) hz4 ?_))
           intro v' w5 hown5 hb5 hmv5
           have hr5:w5.heap[rb]? = some (.cells #[SV n,.slice aoq k2 capq,.slice none 0 0] 248 (0,0)):=(hb5.block rb (by omega) (fun e => by have:=(World.ownsRow.lt hrow4 rb e.symm).1;omega)).trans HR4.out
           have q5:w5.cell? ⟨rb,1,none⟩ = some (.slice aoq k2 capq):=(blk_cell hr5 1).trans rfl
           have f5:w5.frozen? ⟨rb,1,none⟩ = false:=blk_free hr5 1
           have hrb5:rb < w5.heap.size:=(Array.getElem?_eq_some_iff.1 hr5).1
           obtain ⟨av,cpv,rfl⟩:=row_form hown5
           have HS:=Hid.mk' (setCell_set1 (i:=1) hr5 (.slice av (k2 + 1) cpv))
           have HO5:=Hid.mk' hown5
           have HB5:=Hid.mk' hb5
           have HMV:=Hid.mk' hmv5
           have HRW4:=Hid.mk' hrow4
           clear hr5 hown5 hb5 q4 hmv5 hrow4
           go_wp2
           go_roundw
           case rel =>
            have hS:=HS.out
            have hq5:∀ i,i < w4.heap.size→some i ≠ (Value.slice aoq k2 capq).ownBlock→i ≠ rb→(w5.setCell ⟨rb,1,none⟩ (.slice av (k2 + 1) cpv)).heap[i]? = w4.heap[i]?:=fun i h1 h2 h3 => (hS.other i h3).trans (HB5.out.block i h1 h2)
            have hbw:Below rb w3 (w5.setCell ⟨rb,1,none⟩ (.slice av (k2 + 1) cpv)):=by
             have h1:Below rb w3 w4:=HB2.out.trans (HB4.out.mono (by omega))
             refine ⟨hS.os.trans (HB5.out.os.trans h1.os),hS.tape.trans (HB5.out.tape.trans h1.tape),hS.output.trans (HB5.out.output.trans h1.output),by rw [hS.size];exact Nat.le_trans h1.size HB5.out.size,fun i hi => (hq5 i (by omega) (fun e => ?_) (by omega)).trans (h1.block i hi)⟩
             have:=(World.ownsRow.lt HRW4.out i e.symm).1
             omega
            have hsz:w4.heap.size ≤ (w5.setCell ⟨rb,1,none⟩ (.slice av (k2 + 1) cpv)).heap.size:=by rw [hS.size];exact HB5.out.size
            have hqlt:∀ i,(Value.slice aoq k2 capq).ownBlock = some i→i < wr.heap.size:=fun i hi => (World.ownsRow.lt HQR.out i hi).2
            have hvq:∀ i,(Value.slice av (k2 + 1) cpv).ownBlock = some i→(Value.slice aoq k2 capq).ownBlock = some i∨w4.heap.size ≤ i:=HMV.out
            refine ⟨k2 + 1,wv ++ [.slice (some ⟨g4,0,none⟩) n4 cp4],.slice av (k2 + 1) cpv,by omega,by go_num,by rw [List.length_append,HWL.out];rfl,hS.here,rowKept HO5.out (fun i hi => hS.other i (by have:=(World.ownsRow.lt HO5.out i hi).1;omega)),?_,?_,?_,hbw⟩
            ·intro j hj hj'
             by_cases e:j < wv.length
             ·rw [List.getElem_append_left e]
              have hw:=HWD.out j e hj'
              refine hw.frame (Nat.le_trans HB4.out.size hsz) fun i hi => ?_
              have h1:=HWF.out _ (List.getElem_mem e) i hi
              have h2:=hw.lt hi
              exact (hq5 i (Nat.lt_of_lt_of_le h2 HB4.out.size) (fun e => h1.2 e.symm) (by omega)).trans (HB4.out.block i h2)
             ·have hjk:j = k2:=by rw [List.length_append,List.length_singleton,HWL.out] at hj;rw [HWL.out] at e;omega
              subst hjk
              rw [List.getElem_append_right (by omega)]
              simp only [HWL.out,Nat.sub_self,List.getElem_cons_zero]
              rw [HXK.out]
              refine HW4.out.frame hsz fun i hi => ?_
              have h1:=HF4.out i hi
              exact hq5 i (HW4.out.lt hi) (fun e => by have:=hqlt i e.symm;omega) (by omega)
            ·intro x hx i hi
             rw [List.mem_append,List.mem_singleton] at hx
             rcases hx with hx | rfl
             ·have h1:=HWF.out x hx i hi
              refine ⟨h1.1,fun e => ?_⟩
              obtain ⟨j,hj,rfl⟩:=List.getElem_of_mem hx
              have h2:=(HWD.out j hj (by rw [HWL.out] at hj;omega)).lt hi
              rcases hvq i e with h3 | h3
              ·exact h1.2 h3
              ·have:=HB4.out.size;omega
             ·have h1:=HF4.out i hi
              refine ⟨by omega,fun e => ?_⟩
              rcases hvq i e with h3 | h3
              ·have:=hqlt i h3;omega
              ·have:=HW4.out.lt hi;omega
            ·intro j hj hjk
             by_cases e:j < k2
             ·exact HCK.out j hj e
             ·obtain rfl:j = k2:=by omega
              rw [HXK.out];exact HC0.out
           case measure => simp [intOf];omega
          ·have R:=Hid.mk' (BAD.out (checkL xk) w4 (HBD.out hcn) hcn (HBW0.out.trans (hb4.mono HBW0.out.size)))
           have hci:¬ (checkL xk:Int) = 0:=by omega
           clear hcn hb4 C HBD BAD
           generalize checkL xk = ce at *
           go_wp2
           go_ret
           exact R.out
        ·as_aux_lemma =>
          have hki2:¬ (k2:Int) < (xs.length:Int):=by omega
          have hke:k2 = xs.length:=by omega
          subst hke
          have HOK:Hid (ruleDE (ds.map (·.view)) n xs = 0):=by
           rw [Hid,HEQ.out]
           refine checkAll_ok fun x hx => ?_
           obtain ⟨j,hj,rfl⟩:=List.getElem_of_mem hx
           exact hck j hj hj
          obtain ⟨aoq,capq,rfl⟩:=row_form hqr
          obtain ⟨rD,hrD⟩ : ∃ rD:DRule,rD = ⟨n,xs.map (splitL 32),[],.slice aoq xs.length capq,wv,.slice none 0 0⟩:=⟨_,rfl⟩
          have HDA:Hid (DRuleAt wr rD):=by
           rw [Hid,hrD]
           refine ⟨by rw [hwl];exact ownsRow_le hqr (Nat.zero_le _),by simp [hwl],fun j h h' => ?_,World.ownsRow_nil _ _ _ _⟩
           simp only [List.getElem_map]
           exact hwd j h (by simpa using h')
          have HDF:Hid (∀ m,Dfoot rD m→rb + 1 ≤ m):=fun m hm => by
           rw [hrD] at hm
           rcases hm with hm | hm | ⟨x,hx,hm⟩
           ·exact (World.ownsRow.lt hqr m hm).1
           ·simp [Value.ownBlock] at hm
           ·exact (hwf x hx m hm).1
          have HGD:Hid (∀ x ∈ rD.ws,WOk x):=by
           rw [Hid,hrD]
           intro x hx
           simp only [List.mem_map] at hx
           obtain ⟨y,hy,rfl⟩:=hx
           obtain ⟨j,hj,rfl⟩:=List.getElem_of_mem hy
           have h1:=check_ok (hck j hj hj)
           exact ⟨h1.2,words_ok h1.1⟩
          have HRD:Hid (rD.view = ⟨n,xs.map (splitL 32),[]⟩∧rD.cells = [SV n,.slice aoq xs.length capq,.slice none 0 0]∧rD.name = n∧rD.ws.length ≤ 6):=by
           rw [Hid,hrD]
           exact ⟨rfl,rfl,rfl,by simp;omega⟩
          have hblkr:wr.heap[b]? = some (.cells #[c0,c1,va,.slice aoV ds.length capV] 193 (0,0)):=(HBW0.out.block b hbs).trans HBK.out
          have b3r:wr.cell? ⟨b,3,none⟩ = some (.slice aoV ds.length capV):=(blk_cell hblkr 3).trans rfl
          have f3r:wr.frozen? ⟨b,3,none⟩ = false:=blk_free hblkr 3
          have hbr2:b < wr.heap.size:=(Array.getElem?_eq_some_iff.1 hblkr).1
          have HS8:=Hid.mk' (setCell_set1 (i:=3) hblkr (.slice none 0 0))
          have HRBK:=Hid.mk' hrb
          clear hrb hqr hwd hwf hck hb2 hwl hrD hblkr HEQ BAD HXC
          go_upto_region 21 with fail
          obtain ⟨w8,hw8⟩ : ∃ w8,w8 = wr.setCell ⟨b,3,none⟩ (.slice none 0 0):=⟨_,rfl⟩
          rw [← hw8]
          rw [← hw8] at HS8
          have hz8:=HS8.out.size
          have hbz8:b < w8.heap.size:=by omega
          have HAC:Hid (AccAt b c0 c1 va w8 w8 (.slice none 0 0) []):=⟨HS8.out.here,World.ownsRow_nil _ _ _ _,Turn.refl _ _⟩
          have HKW:Hid (∀ W,Turn (fun k => k = b) w8 W (fun k => k = b)→∀ m,m < wr.heap.size→m ≠ b→W.heap[m]? = wr.heap[m]?):=fun W hW m h1 h2 => (hW.blk m (by omega) h2).trans (HS8.out.other m h2)
          have HYW:Hid (∀ W,Turn (fun k => k = b) w8 W (fun k => k = b)→W.ownsRow w.heap.size 248 3 (.slice aoY ys.length capY) ys.length (flatR ys)):=fun W hW => rowKept HRY.out fun m hm => by
           have h1:=World.ownsRow.lt HRY.out m hm
           rw [HRB.out] at h1
           exact (HKW.out W hW m (by omega) (by omega)).trans (HBW.out.block m (by omega))
          clear b3r f3r hw8 hz8
          obtain ⟨d0,hd0⟩ : ∃ d0,decide (xs.length = 0) = d0:=⟨_,rfl⟩
          have HD0:=Hid.mk' hd0
          clear hd0
          go_cut [14] (fun d wc => wc = w8∧d = .bool d0)
          case first =>
           by_cases hx0:xs.length = 0
           ·have HX0:=Hid.mk' hx0
            have hx0B:((xs.length:Int) == 0) = true:=by simp [hx0]
            clear hx0
            go_wp2
            go_meet
            case rel => exact ⟨rfl,by rw [← HD0.out,decide_eq_true HX0.out]⟩
           ·have hx0i:¬ (xs.length:Int) = 0:=by omega
            go_wp2
            go_meet
            case rel => exact ⟨rfl,by rw [← HD0.out,decide_eq_false hx0];exact congrArg Value.bool (beq_eq_false_iff_ne.2 hx0i)⟩
          case rest =>
           obtain ⟨rfl,rfl⟩:=hcut
           generalize wc = w8 at *
           have HLT:Hid (∀ d:DRule,(fun d:DRule => Op.bytesLess n d.name) d = Op.bytesLess n d.name):=fun d => rfl
           go_wp2
           go_loopw [14,15] (fun dv i wr => ∃ (k:Nat) (zs:List DRule) (done:Bool) (u:Value),k ≤ ys.length∧i = .int .i64 k∧dv = .bool done∧(zs,done) = (ys.take k).foldl (insStep (fun d:DRule => Op.bytesLess n d.name) rD) ([],d0)∧zs.length ≤ 2 * k∧AccAt b c0 c1 va w8 wr u zs) (fun _ i _ => ys.length - (intOf i).toNat)
           case atStart => exact ⟨0,[],_,.slice none 0 0,Nat.zero_le _,rfl,rfl,rfl,by simp,HAC.out⟩
           case round =>
            obtain ⟨k5,zs,done,u,hk5,rfl,rfl,hst,hzl,hac⟩:=hrel
            have HAC5:=Hid.mk' hac
            have HST:=Hid.mk' hst
            obtain ⟨aou,capu,rfl⟩:=row_form hac.row
            have b5:wr.cell? ⟨b,3,none⟩ = some (.slice aou zs.length capu):=(blk_cell hac.blk 3).trans rfl
            have hb5:b < wr.heap.size:=(Array.getElem?_eq_some_iff.1 hac.blk).1
            clear hst hac
            by_cases hlt5:k5 < ys.length
            ·have hki5:(k5:Int) < (ys.length:Int):=by omega
             rcases rule_cells (HYW.out wr HAC5.out.turn) with ⟨_,h0⟩ | ⟨g5,cap5,e5,hg5,hgb5,hcY,hmY,hcell⟩
             ·rw [h0] at hlt5;simp at hlt5
             simp only [Value.slice.injEq] at e5
             obtain ⟨rfl,-,rfl⟩:=e5
             obtain ⟨y0,y1,y2⟩:=hcell k5 hlt5
             have hmem:ys[k5] ∈ ds:=by
              have:∀ d ∈ ys,d ∈ ds:=by rw [HYA.out];exact fun d hd => (List.mem_filter.1 hd).1
              exact this _ (List.getElem_mem hlt5)
             obtain ⟨⟨aq5,cq5,eq5⟩,aa5,ca5,ea5⟩:=(HR.out.each _ hmem).forms
             rw [eq5] at y1
             rw [ea5] at y2
             have HCE:Hid (ys[k5].cells = [SV ys[k5].name,.slice aq5 ys[k5].wv.length cq5,.slice aa5 ys[k5].ans.length ca5]):=by rw [Hid,DRule.cells,eq5,ea5]
             have HFS:Hid ((ys.take (k5 + 1)).foldl (insStep (fun d:DRule => Op.bytesLess n d.name) rD) ([],d0) = insStep (fun d:DRule => Op.bytesLess n d.name) rD (zs,done) ys[k5]):=by
              rw [Hid,List.take_succ_eq_append_getElem hlt5,List.foldl_append,← HST.out];rfl
             unfold maxLen at hmY
             clear hcell hmem eq5 ea5 HST
             obtain ⟨d5,hd5⟩ : ∃ d5,ys[k5] = d5:=⟨_,rfl⟩
             rw [hd5] at y0 y1 y2 HCE HFS
             have HYC:Hid (∀ W,Turn (fun k => k = b) w8 W (fun k => k = b)→g5 < W.heap.size∧W.cell? ⟨g5,k5 * 3,none⟩ = some (SV d5.name)∧W.cell? ⟨g5,k5 * 3 + 1,none⟩ = some (.slice aq5 d5.wv.length cq5)∧W.cell? ⟨g5,k5 * 3 + 2,none⟩ = some (.slice aa5 d5.ans.length ca5)):=fun W hW => by
              rcases rule_cells (HYW.out W hW) with ⟨_,h0⟩ | ⟨g6,cap6,e6,hg6,_,_,_,hc6⟩
              ·rw [h0] at hlt5;simp at hlt5
              ·simp only [Value.slice.injEq,Option.some.injEq,Addr.mk.injEq] at e6
               obtain ⟨⟨rfl,-,-⟩,-,-⟩:=e6
               have h6:=hc6 k5 hlt5
               rw [hd5] at h6
               have hc:=HCE.out
               simp only [DRule.cells,List.cons.injEq,and_true,true_and] at hc
               rw [hc.1,hc.2] at h6
               exact ⟨hg6,h6⟩
             clear hd5
             obtain ⟨lt5,hlt⟩ : ∃ lt5,Op.bytesLess n d5.name = lt5:=⟨_,rfl⟩
             have HL5:=Hid.mk' hlt
             go_upto_region 25 with fail
             go_cut [114] (fun c wc => wc = wr∧c = .bool (!done && lt5))
             case first =>
              cases done
              ·go_wp2
               go_meet
               case rel => exact ⟨rfl,rfl⟩
              ·go_wp2
               go_meet
               case rel => exact ⟨rfl,rfl⟩
             case rest =>
              obtain ⟨rfl,rfl⟩:=hcut
              clear hlt
              generalize wc = wr at *
              obtain ⟨cnd,hcnd⟩ : ∃ cnd,(!done && lt5) = cnd:=⟨_,rfl⟩
              have HIS:Hid (insStep (fun d:DRule => Op.bytesLess n d.name) rD (zs,done) d5 = ((if cnd then zs ++ [rD] else zs) ++ [d5],if cnd then true else done)):=by
               rw [Hid,← hcnd,← HL5.out,insStep]
               by_cases h:(!done && Op.bytesLess n d5.name) = true
               ·rw [if_pos h,if_pos h,if_pos h];simp
               ·rw [if_neg h,if_neg h,if_neg h]
              have HKB:=Hid.mk' (HAC5.out.turn)
              have r5:wr.heap[rb]? = some (.cells #[SV n,.slice aoq xs.length capq,.slice none 0 0] 248 (0,0)):=(HKW.out wr HAC5.out.turn rb hrbs (by omega)).trans HRBK.out
              have hrb5:rb < wr.heap.size:=(Array.getElem?_eq_some_iff.1 r5).1
              have n0:wr.cell? ⟨rb,0,none⟩ = some (SV n):=(blk_cell r5 0).trans rfl
              have n1:wr.cell? ⟨rb,1,none⟩ = some (.slice aoq xs.length capq):=(blk_cell r5 1).trans rfl
              have n2:wr.cell? ⟨rb,2,none⟩ = some (.slice none 0 0):=(blk_cell r5 2).trans rfl
              rw [hcnd]
              clear hcnd r5
              go_upto_if 114 with fail
              go_cut [14] (fun dv wc => ∃ u2,dv = .bool (if cnd then true else done)∧AccAt b c0 c1 va w8 wc u2 (if cnd then zs ++ [rD] else zs))
              case first =>
               cases cnd
               ·go_wp2
                go_meet
                case rel => exact ⟨_,rfl,HAC5.out⟩
               ·have hrow:=HAC5.out.row
                have hz:=HAC5.out.turn.size
                go_wp2_with fail
                go_region_law (refine step_app_at 191 248 _ 3 64 Tryz.infoRule Tryz.underlying191 rfl (by decide) rfl (.tmp 119) (.tmp 121) rfl hrow [SV n,.slice aoq xs.length capq,.slice none 0 0] rfl (by intro u hu;simp at hu;rcases hu with rfl | rfl | rfl <;> rfl) ⟨rfl,rfl,rfl,rfl⟩ rfl rfl (by unfold maxLen;omega) (by omega) hz ?_;intro v' w' hown' hg hmv;have hb':=acc_grow HAC5.out hbz8 hg;have hc3:=blk_cell hb' 3;have hf3:=blk_free hb' 3;simp only [List.getElem?_toArray,List.getElem?_cons_succ,List.getElem?_cons_zero] at hc3;clear hb';obtain ⟨g',cap',rfl⟩:=row_some hown')
                all_goals
                 go_wp2
                 go_meet
                 case rel => exact ⟨_,rfl,acc_push HAC5.out hbz8 (by rw [HRD.out.2.1];assumption) (by assumption) ⟨rfl,rfl,rfl,rfl⟩⟩
              case rest =>
               obtain ⟨u2,rfl,hac2⟩:=hcut
               obtain ⟨zs2,hzs2⟩ : ∃ zs2,(if cnd = true then zs ++ [rD] else zs) = zs2:=⟨_,rfl⟩
               obtain ⟨done2,hdone2⟩ : ∃ done2,(if cnd = true then true else done) = done2:=⟨_,rfl⟩
               have hzl2:zs2.length ≤ 2 * k5 + 1:=by
                rw [← hzs2]
                split
                ·rw [List.length_append,List.length_singleton];omega
                ·omega
               have HFS2:Hid ((ys.take (k5 + 1)).foldl (insStep (fun d:DRule => Op.bytesLess n d.name) rD) ([],d0) = (zs2 ++ [d5],done2)):=by
                rw [Hid,HFS.out,HIS.out,hzs2,hdone2]
               rw [hzs2] at hac2
               rw [hdone2]
               clear hzs2 hdone2 HFS HIS y0 y1 y2 b5 n0 n1 n2 HL5 hg5 hb5 hrb5 HAC5 HKB
               have HAC2:=Hid.mk' hac2
               obtain ⟨hg6,y0,y1,y2⟩:=HYC.out wc hac2.turn
               obtain ⟨au2,cu2,rfl⟩:=row_form hac2.row
               have b5:wc.cell? ⟨b,3,none⟩ = some (.slice au2 zs2.length cu2):=(blk_cell hac2.blk 3).trans rfl
               have hb5:b < wc.heap.size:=(Array.getElem?_eq_some_iff.1 hac2.blk).1
               have hrow:=hac2.row
               have hz:=hac2.turn.size
               have f5:wc.frozen? ⟨b,3,none⟩ = false:=blk_free hac2.blk 3
               have hg58:g5 < w8.heap.size:=by
                have h1:=(World.ownsRow.lt HRY.out g5 rfl).2
                rw [HRB.out] at h1
                rw [HS8.out.size];omega
               have KS:Hid (∀ W,Below wc.heap.size wc W→W.cell? ⟨b,3,none⟩ = some (.slice au2 zs2.length cu2)∧W.frozen? ⟨b,3,none⟩ = false∧W.cell? ⟨g5,k5 * 3,none⟩ = some (SV d5.name)∧W.cell? ⟨g5,k5 * 3 + 1,none⟩ = some (.slice aq5 d5.wv.length cq5)∧W.cell? ⟨g5,k5 * 3 + 2,none⟩ = some (.slice aa5 d5.ans.length ca5)):=fun W hW =>
                ⟨(hW.cell (p:=⟨b,3,none⟩) hb5).trans b5,(World.frozen?_of_block (a:=⟨b,3,none⟩) (hW.block b hb5)).trans f5,(hW.cell (p:=⟨g5,k5 * 3,none⟩) hg6).trans y0,(hW.cell (p:=⟨g5,k5 * 3 + 1,none⟩) hg6).trans y1,(hW.cell (p:=⟨g5,k5 * 3 + 2,none⟩) hg6).trans y2⟩
               have KG:Hid (∀ W,wc.grownBy W (Value.slice au2 zs2.length cu2).ownBlock→W.cell? ⟨b,3,none⟩ = some (.slice au2 zs2.length cu2)∧W.frozen? ⟨b,3,none⟩ = false∧W.cell? ⟨g5,k5 * 3,none⟩ = some (SV d5.name)∧W.cell? ⟨g5,k5 * 3 + 1,none⟩ = some (.slice aq5 d5.wv.length cq5)∧W.cell? ⟨g5,k5 * 3 + 2,none⟩ = some (.slice aa5 d5.ans.length ca5)):=fun W hW => by
                have hgn:some g5 ≠ (Value.slice au2 zs2.length cu2).ownBlock:=fun e => by
                 have:=(hrow.lt g5 e.symm).1
                 omega
                have e1:=hW.block b hb5 (HAC2.out.nb hbz8)
                have e2:=hW.block g5 hg6 hgn
                exact ⟨(World.cell?_of_block (a:=⟨b,3,none⟩) e1).trans b5,(World.frozen?_of_block (a:=⟨b,3,none⟩) e1).trans f5,(World.cell?_of_block (a:=⟨g5,k5 * 3,none⟩) e2).trans y0,(World.cell?_of_block (a:=⟨g5,k5 * 3 + 1,none⟩) e2).trans y1,(World.cell?_of_block (a:=⟨g5,k5 * 3 + 2,none⟩) e2).trans y2⟩
               have KA:Hid (∀ o,(wc.alloc o).drew.cell? ⟨g5,k5 * 3,none⟩ = some (SV d5.name)∧(wc.alloc o).drew.cell? ⟨g5,k5 * 3 + 1,none⟩ = some (.slice aq5 d5.wv.length cq5)∧(wc.alloc o).drew.cell? ⟨g5,k5 * 3 + 2,none⟩ = some (.slice aa5 d5.ans.length ca5)):=fun o => (KS.out (wc.alloc o) ((Below.refl _ _).alloc (Nat.le_refl _) _)).2.2
               have hbg5:(⟨b,3,none⟩ : Addr).block ≠ g5:=by
                intro e
                have e:b = g5:=e
                have h1:=(World.ownsRow.lt HRY.out g5 rfl).1
                omega
               have KF:Hid (∀ (W:World) (v:Value),(W.cell? ⟨g5,k5 * 3,none⟩ = some (SV d5.name)∧W.cell? ⟨g5,k5 * 3 + 1,none⟩ = some (.slice aq5 d5.wv.length cq5)∧W.cell? ⟨g5,k5 * 3 + 2,none⟩ = some (.slice aa5 d5.ans.length ca5))→(W.setCell ⟨b,3,none⟩ v).cell? ⟨g5,k5 * 3,none⟩ = some (SV d5.name)∧(W.setCell ⟨b,3,none⟩ v).cell? ⟨g5,k5 * 3 + 1,none⟩ = some (.slice aq5 d5.wv.length cq5)∧(W.setCell ⟨b,3,none⟩ v).cell? ⟨g5,k5 * 3 + 2,none⟩ = some (.slice aa5 d5.ans.length ca5)):=fun W v hW =>
                ⟨(World.cell?_setCell_far W ⟨b,3,none⟩ ⟨g5,k5 * 3,none⟩ v hbg5).trans hW.1,(World.cell?_setCell_far W ⟨b,3,none⟩ ⟨g5,k5 * 3 + 1,none⟩ v hbg5).trans hW.2.1,(World.cell?_setCell_far W ⟨b,3,none⟩ ⟨g5,k5 * 3 + 2,none⟩ v hbg5).trans hW.2.2⟩
               clear hac2
               clear hl HXL hcq hmq HVB hds8 hnm HN8 HN HR HBK hyl HYA hx6 hbr HBY HB3 hs3 HN3 hki hx6i hrbs HBW HBW0 hrw hk2 hlt2 HOK HDA HDF hbr2 HRBK HD0 HS8 HAC HKW hki2 HLT hgb5 HYW HRY HRD HGD hzl HYC KS
               go_wp2_with fail
               refine wp_region_held_drew (S:=fun W:World => W.cell? ⟨g5,k5 * 3,none⟩ = some (SV d5.name)∧W.cell? ⟨g5,k5 * 3 + 1,none⟩ = some (.slice aq5 d5.wv.length cq5)∧W.cell? ⟨g5,k5 * 3 + 2,none⟩ = some (.slice aa5 d5.ans.length ca5)) (by kernel_rfl) ⟨y0,y1,y2⟩ (fun hS => ?_)
               refine wpAnyH_take (i:=0) (v:=ptrV b) rfl (by kernel_rfl) (by kernel_rfl) (by kernel_rfl) (fun _ _ _ h => h) (.inl ⟨by rfl,fun W hW => by rfl⟩) hS ?_
               simp only [List.getElem_toArray,List.getElem_cons_zero,Act.put,List.setIfInBounds_toArray,List.set_cons_zero,List.set_cons_succ]
               refine wpAnyH_take (i:=1) (v:=ptrV b) rfl (by kernel_rfl) (by kernel_rfl) (by kernel_rfl) (fun _ _ _ h => h) (.inl ⟨by rfl,fun W hW => by rfl⟩) hS ?_
               simp only [List.getElem_toArray,List.getElem_cons_zero,List.getElem_cons_succ,Act.put,List.setIfInBounds_toArray,List.set_cons_zero,List.set_cons_succ]
               refine wpAnyH_take (i:=2) (v:=ptrV b) rfl (by kernel_rfl) (by kernel_rfl) (by kernel_rfl) (fun _ _ _ h => h) (.inl ⟨by rfl,fun W hW => by go_simp⟩) hS ?_
               simp only [List.getElem_toArray,List.getElem_cons_zero,List.getElem_cons_succ,Act.put,List.setIfInBounds_toArray,List.set_cons_zero,List.set_cons_succ]
               refine wpAnyH_take (i:=3) (v:=.pointer (some ⟨b,3,none⟩)) rfl (by kernel_rfl) (by kernel_rfl) (by kernel_rfl) (fun _ _ _ h => h) (.inl ⟨by rfl,fun W hW => by go_simp⟩) hS ?_
               simp only [List.getElem_toArray,List.getElem_cons_zero,List.getElem_cons_succ,Act.put,List.setIfInBounds_toArray,List.set_cons_zero,List.set_cons_succ]
               refine wpAnyH_take (i:=5) (v:=.slice (some ⟨g5,0,none⟩) ys.length capY) rfl (by kernel_rfl) (by kernel_rfl) (by kernel_rfl) (fun _ _ _ h => h) (.inl ⟨by rfl,fun W hW => by rfl⟩) hS ?_
               simp only [List.getElem_toArray,List.getElem_cons_zero,List.getElem_cons_succ,Act.put,List.setIfInBounds_toArray,List.set_cons_zero,List.set_cons_succ]
               refine wpAnyH_take (i:=6) (v:=.int .i64 k5) rfl (by kernel_rfl) (by kernel_rfl) (by kernel_rfl) (fun _ _ _ h => h) (.inl ⟨by rfl,fun W hW => by rfl⟩) hS ?_
               simp only [List.getElem_toArray,List.getElem_cons_zero,List.getElem_cons_succ,Act.put,List.setIfInBounds_toArray,List.set_cons_zero,List.set_cons_succ]
               refine wpAnyH_take (i:=7) (v:=.pointer (some ⟨g5,k5 * 3,none⟩)) rfl (by kernel_rfl) (by kernel_rfl) (by kernel_rfl) (fun _ _ _ h => h) (.inl ⟨by rfl,fun W hW => by go_simp⟩) hS ?_
               simp only [List.getElem_toArray,List.getElem_cons_zero,List.getElem_cons_succ,Act.put,List.setIfInBounds_toArray,List.set_cons_zero,List.set_cons_succ]
               refine wpAnyH_take (i:=8) (v:=.agg #[SV d5.name,.slice aq5 d5.wv.length cq5,.slice aa5 d5.ans.length ca5]) rfl (by kernel_rfl) (by kernel_rfl) (by kernel_rfl) (fun _ _ _ h => h) (.inl ⟨by rfl,fun W hW => by (have h0:=hW.1;have h1:=hW.2.1;have h2:=hW.2.2;go_simp)⟩) hS ?_
               simp only [List.getElem_toArray,List.getElem_cons_zero,List.getElem_cons_succ,Act.put,List.setIfInBounds_toArray,List.set_cons_zero,List.set_cons_succ]
               refine wpAnyH_ready (rs:=[4,9]) (by kernel_rfl) (by simp) (AllReadyH.cons rfl (fun K hK => ?_) (AllReadyH.cons rfl (fun K hK => ?_) AllReadyH.nil))
               ·go_simp
                refine hK.out _ _ ⟨y0,y1,y2⟩ (fun hS4 => ?_)
                clear hK K hS
                refine wpAnyH_ready (rs:=[9]) (by kernel_rfl) (by simp) (AllReadyH.cons rfl (fun K hK => ?_) AllReadyH.nil)
                go_simp
                refine hK.out _ _ (KA.out _) (fun hS5 => ?_)
                clear hK K hS4
                refine wpAnyH_ready (rs:=[10]) (by kernel_rfl) (by simp) (AllReadyH.cons rfl (fun K hK => ?_) AllReadyH.nil)
                refine step_app_at 191 248 _ 3 64 Tryz.infoRule Tryz.underlying191 rfl (by decide) rfl (.tmp 129) (.tmp 134) rfl hrow [SV d5.name,.slice aq5 d5.wv.length cq5,.slice aa5 d5.ans.length ca5] rfl (by intro u hu;simp at hu;rcases hu with rfl | rfl | rfl <;> rfl) ⟨rfl,rfl,rfl,rfl⟩ rfl rfl (by unfold maxLen;omega) (by omega) hz ?_
                intro v' w' hown' hg hmv
                obtain ⟨hc3,hf3,hy3⟩:=KG.out _ hg
                have HOW:=Hid.mk' hown'
                have HGG:=Hid.mk' hg
                obtain ⟨g',cap',rfl⟩:=row_some hown'
                clear hown' hg hmv
                refine hK.out _ _ hy3 (fun hS6 => ?_)
                clear hK K
                simp only [List.getElem_toArray,List.getElem_cons_zero,List.getElem_cons_succ,Act.put,List.setIfInBounds_toArray,List.set_cons_zero,List.set_cons_succ]
                refine wpAnyH_take (i:=11) (v:=ptrV b) rfl (by kernel_rfl) (by kernel_rfl) (by kernel_rfl) (fun _ _ _ h => h) (.inl ⟨by rfl,fun W hW => by go_simp⟩) hS6 ?_
                simp only [List.getElem_toArray,List.getElem_cons_zero,List.getElem_cons_succ,Act.put,List.setIfInBounds_toArray,List.set_cons_zero,List.set_cons_succ]
                refine wpAnyH_take (i:=12) (v:=.pointer (some ⟨b,3,none⟩)) rfl (by kernel_rfl) (by kernel_rfl) (by kernel_rfl) (fun _ _ _ h => h) (.inl ⟨by rfl,fun W hW => by go_simp⟩) hS6 ?_
                simp only [List.getElem_toArray,List.getElem_cons_zero,List.getElem_cons_succ,Act.put,List.setIfInBounds_toArray,List.set_cons_zero,List.set_cons_succ]
                refine wpAnyH_ready (rs:=[13]) (by kernel_rfl) (by simp) (AllReadyH.cons rfl (fun K hK => ?_) AllReadyH.nil)
                go_simp
                refine hK.out _ _ (KF.out _ _ hy3) (fun hS7 => ?_)
                clear hK K hS6 hS7 hy3
                refine wpAnyH_done (by kernel_rfl) ?_ _
                go_wp2
                go_roundw
                case rel => exact ⟨k5 + 1,zs2 ++ [d5],done2,_,by omega,by go_num,rfl,HFS2.out.symm,by rw [List.length_append,List.length_singleton];omega,acc_push HAC2.out hbz8 (by rw [HCE.out];exact HOW.out) HGG.out ⟨rfl,rfl,rfl,rfl⟩⟩
                case measure => simp [intOf];omega
               ·go_simp
                refine hK.out _ _ (KA.out _) (fun hS4 => ?_)
                clear hK K hS
                refine wpAnyH_ready (rs:=[4]) (by kernel_rfl) (by simp) (AllReadyH.cons rfl (fun K hK => ?_) AllReadyH.nil)
                go_simp
                refine hK.out _ _ (KA.out _) (fun hS5 => ?_)
                clear hK K hS4
                refine wpAnyH_ready (rs:=[10]) (by kernel_rfl) (by simp) (AllReadyH.cons rfl (fun K hK => ?_) AllReadyH.nil)
                refine step_app_at 191 248 _ 3 64 Tryz.infoRule Tryz.underlying191 rfl (by decide) rfl (.tmp 129) (.tmp 134) rfl hrow [SV d5.name,.slice aq5 d5.wv.length cq5,.slice aa5 d5.ans.length ca5] rfl (by intro u hu;simp at hu;rcases hu with rfl | rfl | rfl <;> rfl) ⟨rfl,rfl,rfl,rfl⟩ rfl rfl (by unfold maxLen;omega) (by omega) hz ?_
                intro v' w' hown' hg hmv
                obtain ⟨hc3,hf3,hy3⟩:=KG.out _ hg
                have HOW:=Hid.mk' hown'
                have HGG:=Hid.mk' hg
                obtain ⟨g',cap',rfl⟩:=row_some hown'
                clear hown' hg hmv
                refine hK.out _ _ hy3 (fun hS6 => ?_)
                clear hK K
                simp only [List.getElem_toArray,List.getElem_cons_zero,List.getElem_cons_succ,Act.put,List.setIfInBounds_toArray,List.set_cons_zero,List.set_cons_succ]
                refine wpAnyH_take (i:=11) (v:=ptrV b) rfl (by kernel_rfl) (by kernel_rfl) (by kernel_rfl) (fun _ _ _ h => h) (.inl ⟨by rfl,fun W hW => by go_simp⟩) hS6 ?_
                simp only [List.getElem_toArray,List.getElem_cons_zero,List.getElem_cons_succ,Act.put,List.setIfInBounds_toArray,List.set_cons_zero,List.set_cons_succ]
                refine wpAnyH_take (i:=12) (v:=.pointer (some ⟨b,3,none⟩)) rfl (by kernel_rfl) (by kernel_rfl) (by kernel_rfl) (fun _ _ _ h => h) (.inl ⟨by rfl,fun W hW => by go_simp⟩) hS6 ?_
                simp only [List.getElem_toArray,List.getElem_cons_zero,List.getElem_cons_succ,Act.put,List.setIfInBounds_toArray,List.set_cons_zero,List.set_cons_succ]
                refine wpAnyH_ready (rs:=[13]) (by kernel_rfl) (by simp) (AllReadyH.cons rfl (fun K hK => ?_) AllReadyH.nil)
                go_simp
                refine hK.out _ _ (KF.out _ _ hy3) (fun hS7 => ?_)
                clear hK K hS6 hS7 hy3
                refine wpAnyH_done (by kernel_rfl) ?_ _
                go_wp2
                go_roundw
                case rel => exact ⟨k5 + 1,zs2 ++ [d5],done2,_,by omega,by go_num,rfl,HFS2.out.symm,by rw [List.length_append,List.length_singleton];omega,acc_push HAC2.out hbz8 (by rw [HCE.out];exact HOW.out) HGG.out ⟨rfl,rfl,rfl,rfl⟩⟩
                case measure => simp [intOf];omega
            ·have hki5:¬ (k5:Int) < (ys.length:Int):=by omega
             have HST2:Hid ((zs,done) = ys.foldl (insStep (fun d:DRule => Op.bytesLess n d.name) rD) ([],d0)):=by
              rw [Hid,HST.out,List.take_of_length_le (by omega)]
             have DONE:Hid (∀ W u fs,AccAt b c0 c1 va w8 W u fs→fs = insEnd rD (zs,done)→DRuleOut w b c0 c1 va (.slice aoV ds.length capV) ds n xs (.returned (.int .i64 0)) W):=fun W u fs hA hfs =>
              drule_done HR.out HVB.out HBW0.out HS8.out hA (by rw [hfs,HST2.out]) HD0.out HYA.out HDA.out (fun m hm => by have:=HDF.out m hm;omega) hbs ⟨HRD.out.1,HRD.out.2.2.1,HRD.out.2.2.2⟩ HGD.out HOK.out HN8.out hfy
             clear HST HST2
             cases done
             ·have r5:wr.heap[rb]? = some (.cells #[SV n,.slice aoq xs.length capq,.slice none 0 0] 248 (0,0)):=(HKW.out wr HAC5.out.turn rb hrbs (by omega)).trans HRBK.out
              have hrb5:rb < wr.heap.size:=(Array.getElem?_eq_some_iff.1 r5).1
              have n0:wr.cell? ⟨rb,0,none⟩ = some (SV n):=(blk_cell r5 0).trans rfl
              have n1:wr.cell? ⟨rb,1,none⟩ = some (.slice aoq xs.length capq):=(blk_cell r5 1).trans rfl
              have n2:wr.cell? ⟨rb,2,none⟩ = some (.slice none 0 0):=(blk_cell r5 2).trans rfl
              have hrow:=HAC5.out.row
              have hz:=HAC5.out.turn.size
              clear r5
              go_wp2_with fail
              go_region_law (refine step_app_at 191 248 _ 3 64 Tryz.infoRule Tryz.underlying191 rfl (by decide) rfl (.tmp 144) (.tmp 146) rfl hrow [SV n,.slice aoq xs.length capq,.slice none 0 0] rfl (by intro u hu;simp at hu;rcases hu with rfl | rfl | rfl <;> rfl) ⟨rfl,rfl,rfl,rfl⟩ rfl rfl (by unfold maxLen;omega) (by omega) hz ?_;intro v' w' hown' hg hmv;have hb':=acc_grow HAC5.out hbz8 hg;have hc3:=blk_cell hb' 3;have hf3:=blk_free hb' 3;simp only [List.getElem?_toArray,List.getElem?_cons_succ,List.getElem?_cons_zero] at hc3;clear hb';obtain ⟨g',cap',rfl⟩:=row_some hown')
              all_goals
               go_wp2
               go_ret
               exact DONE.out _ _ _ (acc_push HAC5.out hbz8 (by rw [HRD.out.2.1];assumption) (by assumption) ⟨rfl,rfl,rfl,rfl⟩) rfl
             ·have R:=Hid.mk' (DONE.out wr _ _ HAC5.out rfl)
              go_wp2
              go_ret
              exact R.out
end Go.Proofs.YtdcbgfhkfmohiaaGreatDoor
