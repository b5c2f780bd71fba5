/- Contracts of the document's answer (package canopyref): Plan, the walk. -/
import Derived.Test.YtdcbgfhkfmohiaaGreatDoorAl24
import Derived.Deep.DeepCutAuto
namespace Go.Proofs.YtdcbgfhkfmohiaaGreatDoor
open Go.RowKit
attribute [local go_sem] Oper.semAt_some
def sameD (a ys:List Str) (j n:Nat):Bool:=decide (a.length = n∧ys = a.take j)
theorem sameD_start (a:List Str) (n:Nat):sameD a [] 0 n = decide (a.length = n):=by simp [sameD]
theorem sameD_false {a ys:List Str} {j n:Nat} {x:Str} (hl:ys.length = j) (h:sameD a ys j n = false):sameD a (ys ++ [x]) (j + 1) n = false:=by
 unfold sameD at *
 rw [decide_eq_false_iff_not] at *
 rintro ⟨h1,h2⟩
 refine h ⟨h1,?_⟩
 have:=congrArg (List.take j) h2
 rw [List.take_take,List.take_append_of_le_length (by omega),List.take_of_length_le (by omega)] at this
 rw [this,Nat.min_eq_left (by omega)]
theorem sameD_true {a ys:List Str} {j n:Nat} {x:Str} (h:sameD a ys j n = true) (hj:j < a.length):sameD a (ys ++ [x]) (j + 1) n = decide (a[j] = x):=by
 unfold sameD at *
 rw [decide_eq_true_eq] at h
 rw [h.2,List.take_succ_eq_append_getElem hj,decide_eq_decide]
 constructor
 ·rintro ⟨_,h2⟩
  simpa using (List.append_cancel_left h2).symm
 ·intro h2
  exact ⟨h.1,by rw [h2]⟩
theorem sameD_end {a ys:List Str} {n:Nat} (hl:ys.length = n):sameD a ys n n = decide (ys = a):=by
 unfold sameD
 rw [decide_eq_decide]
 constructor
 ·rintro ⟨h1,h2⟩
  rw [h2,List.take_of_length_le (by omega)]
 ·intro h
  exact ⟨by rw [← h];exact hl,by rw [← h,List.take_of_length_le (by omega)]⟩
def DPlanOut (w:World) (vr:Value) (ds:List DRule) (r:RSt) (n:Int) (e:Ending) (w' : World):Prop :=
 (findL r.all n = none∧e = .returned (.tuple #[SV [],.int .i64 2])∧w' = w) ∨
 ∃ l,findL r.all n = some l∧((ds = []∧e = .returned (.tuple #[SV [],.int .i64 11])∧w' = w)∨(ds ≠ []∧e = .returned (.tuple #[SV (ds.flatMap fun d => lineD l d.view),.int .i64 0])∧∃ dk,PlanAt w w' vr ds l ds.length dk))
theorem line_len {ds:List DRule} {l:List Fl} (h:∀ d ∈ ds,d.name.length ≤ 8) (k:Nat):((ds.take k).flatMap fun d => lineD l d.view).length ≤ 9 * k:=by
 induction k with
 | zero => simp
 | succ k ih =>
  by_cases hk:k < ds.length
  ·rw [List.take_succ_eq_append_getElem hk,List.flatMap_append,List.length_append,List.flatMap_singleton]
   have h1:(lineD l ds[k].view).length ≤ 9:=by
    have:=h ds[k] (List.getElem_mem hk)
    unfold lineD
    split
    ·simp
    ·simp only [List.length_append,List.length_singleton]
     have e:ds[k].view.name = ds[k].name:=rfl
     rw [e];omega
   omega
  ·rw [List.take_of_length_le (by omega)]
   rw [List.take_of_length_le (by omega)] at ih
   omega
set_option maxHeartbeats 16000000 in
set_option maxRecDepth 50000 in
theorem refPlan_any (b:Nat) (r:RSt) (va vr:Value) (sn:List (Nat × Value)) (ds:List DRule) (n:Int) (w:World) (h:RefAt w b r va vr sn) (hR:DRulesAt w vr ds) (hF:∀ x ∈ sn,∀ k,x.2.ownBlock = some k→vr.ownBlock ≠ some k) (hvb:vr.ownBlock ≠ some b) :
  Calls Tryz.prog 106 #[.pointer (some ⟨b,0,none⟩),.int .i64 n] w fun e w' => DPlanOut w vr ds r n e w':=by
 have C:=find_any b r va vr sn n w h
 have b3:w.cell? ⟨b,3,none⟩ = some vr:=(blk_cell h.blk 3).trans rfl
 have hbs:b < w.heap.size:=(Array.getElem?_eq_some_iff.1 h.blk).1
 obtain ⟨aoV,capV,rfl⟩:=row_form hR.row
 have HH:=Hid.mk' h
 have HR:=Hid.mk' hR
 have HF:=Hid.mk' hF
 have HVB:=Hid.mk' hvb
 have hds8:=hR.few
 clear h hR hF hvb
 go_enter Tryz.func106,Tryz.ntmps106
 go_wp2_with fail
 refine C.mono ?_
 rintro e w ⟨rfl,hf⟩
 clear C
 rcases hf with ⟨kf,hf1,hf2,hfl,rfl⟩ | ⟨hfl,rfl⟩
 ·have HFA:=Hid.mk' (HH.out.fil kf hf1 hf2)
  have HTI:=Hid.mk' (HH.out.tiny _ (List.getElem_mem hf2))
  have HLB:Hid (∀ m,sn[kf].2.ownBlock = some m→(Value.slice aoV ds.length capV).ownBlock ≠ some m):=HF.out _ (List.getElem_mem hf1)
  have HFL:=Hid.mk' hfl
  clear hfl
  generalize r.all[kf].2 = l at *
  generalize sn[kf].2 = lv at *
  by_cases hd0:ds.length = 0
  ·have R:Hid (DPlanOut w (.slice aoV ds.length capV) ds r n (.returned (.tuple #[SV [],.int .i64 11])) w):=.inr ⟨l,HFL.out,.inl ⟨List.eq_nil_of_length_eq_zero hd0,rfl,rfl⟩⟩
   have hd0B:((ds.length:Int) == 0) = true:=by simp [hd0]
   have hd0i:(ds.length:Int) = 0:=by omega
   clear hd0
   obtain ⟨ao',cap',e⟩:=row_form HFA.out
   subst e
   go_wp2
   go_ret2
   exact R.out
  ·have hd0B:((ds.length:Int) == 0) = false:=by simpa using hd0
   have DONE:Hid (∀ W dk,PlanAt w W (.slice aoV ds.length capV) ds l ds.length dk→DPlanOut w (.slice aoV ds.length capV) ds r n (.returned (.tuple #[SV (ds.flatMap fun d => lineD l d.view),.int .i64 0])) W):=fun W dk hP => .inr ⟨l,HFL.out,.inr ⟨fun e => hd0 (by rw [e];rfl),rfl,dk,hP⟩⟩
   obtain ⟨g,cap,eV,hg,hcV,hmV⟩ : ∃ g cap,Value.slice aoV ds.length capV = .slice (some ⟨g,0,none⟩) ds.length cap∧g < w.heap.size∧ds.length ≤ cap∧cap ≤ maxLen:=by
    rcases rule_cells HR.out.row with ⟨_,h0⟩ | ⟨g,cap,eV,hg,_,h3,h4,_⟩
    ·exact absurd (by rw [h0];rfl) hd0
    ·exact ⟨g,cap,eV,hg,h3,h4⟩
   simp only [Value.slice.injEq] at eV
   obtain ⟨rfl,-,rfl⟩:=eV
   have hgb:b ≠ g:=fun e => HVB.out (by rw [e];rfl)
   have HST0:Hid (PlanAt w w (.slice (some ⟨g,0,none⟩) ds.length capV) ds l 0 ds):=⟨HR.out,rfl,by simp,Turn.refl _ _,fun m hm => .inl hm⟩
   have HNL:Hid (∀ d ∈ ds,d.name.length ≤ 8):=fun d hd => (HR.out.short d hd).1
   have HKP:Hid (∀ W dk k,PlanAt w W (.slice (some ⟨g,0,none⟩) ds.length capV) ds l k dk→W.cell? ⟨b,3,none⟩ = some (.slice (some ⟨g,0,none⟩) ds.length capV)∧b < W.heap.size∧FilesAt W lv l):=fun W dk k hP => by
    have hb1:=hP.turn.blk b hbs (fun e => hgb (by simpa [Value.ownBlock] using e.symm))
    exact ⟨(World.cell?_of_block (a:=⟨b,3,none⟩) hb1).trans b3,Nat.lt_of_lt_of_le hbs hP.turn.size,files_kept HFA.out fun m hm => hP.turn.blk m (HFA.out.lt m hm).2 (HLB.out m hm)⟩
   unfold maxLen at hmV
   clear HF HVB HR hd0
   obtain ⟨aol,capl,hlv⟩:=row_form HFA.out
   subst hlv
   go_wp2
   go_loopw [8,9] (fun o i wr => ∃ (k:Nat) (dk:List DRule) (t:Str),k ≤ ds.length∧i = .int .i64 k∧o = SV t∧t = ((ds.take k).flatMap fun d => lineD l d.view)∧PlanAt w wr (.slice (some ⟨g,0,none⟩) ds.length capV) ds l k dk) (fun _ i _ => ds.length - (intOf i).toNat)
   case atStart => exact ⟨0,ds,[],Nat.zero_le _,rfl,rfl,rfl,HST0.out⟩
   case round =>
    obtain ⟨k,dk,t,hk,rfl,rfl,ht,hP⟩:=hrel
    have HP:=Hid.mk' hP
    have htl:t.length ≤ 9 * k:=by rw [ht];exact line_len HNL.out k
    have HT:=Hid.mk' ht
    obtain ⟨b3r,hbr,hfr⟩:=HKP.out wr dk k hP
    have HFR:=Hid.mk' hfr
    clear hP ht hfr b3
    by_cases hlt:k < ds.length
    ·as_aux_lemma =>
      have hki:(k:Int) < (ds.length:Int):=by omega
      have hk' : k < dk.length:=by rw [HP.out.len];exact hlt
      rcases rule_cells HP.out.rules.row with ⟨_,h0⟩ | ⟨g2,cap2,e2,hg2,_,_,_,hcell⟩
      ·rw [h0] at hk';simp at hk'
      simp only [Value.slice.injEq,Option.some.injEq,Addr.mk.injEq] at e2
      obtain ⟨⟨rfl,-,-⟩,-,-⟩:=e2
      obtain ⟨y0,y1,y2⟩:=hcell k hk'
      have hdk:=HP.out.rules.each dk[k] (List.getElem_mem hk')
      obtain ⟨⟨aq,cq,eq⟩,aa,ca,ea⟩:=hdk.forms
      rw [hdk.len] at eq
      rw [eq] at y1
      rw [ea] at y2
      have hv:=HP.out.at' hlt hk'
      have HGD:Hid (∀ x ∈ dk[k].ws,WOk x):=HP.out.rules.good dk[k] (List.getElem_mem hk')
      have hsh:=HP.out.rules.short dk[k] (List.getElem_mem hk')
      have HQC:Hid (0 < dk[k].ws.length→∃ gq,aq = some ⟨gq,0,none⟩∧gq < wr.heap.size∧dk[k].ws.length ≤ cq∧cq ≤ maxLen∧∀ j (hj:j < dk[k].ws.length),∃ wvj,wr.cell? ⟨gq,j,none⟩ = some wvj∧WordsAt wr wvj dk[k].ws[j]):=fun h0 => by
       have hrw:=hdk.row
       rw [eq,hdk.len] at hrw
       rcases row_cells hrw with ⟨_,h1⟩ | ⟨gq,cap,e,h1,_,h3,h4,h5⟩
       ·omega
       ·simp only [Value.slice.injEq] at e
        obtain ⟨rfl,-,rfl⟩:=e
        refine ⟨gq,rfl,h1,h3,h4,fun j hj => ⟨dk[k].wv[j]'(by rw [hdk.len];exact hj),h5 j _ (List.getElem?_eq_getElem _),hdk.wds j _ hj⟩⟩
      have HACS:Hid (wr.ownsRow 0 9 1 (.slice aa dk[k].ans.length ca) dk[k].ans.length (dk[k].ans.map SV)):=by rw [Hid,← ea];exact hdk.ans
      have HLN:Hid (ds[k].ws = dk[k].ws∧ds[k].ans = dk[k].ans∧ds[k].name = dk[k].name):=⟨congrArg DView.ws hv.symm,congrArg DView.ans hv.symm,congrArg DView.name hv.symm⟩
      have HGB:Hid (∀ W,Below wr.heap.size wr W→W.cell? ⟨g,k * 3 + 2,none⟩ = some (.slice aa dk[k].ans.length ca)∧W.frozen? ⟨g,k * 3 + 2,none⟩ = false):=fun W hW => by
       refine ⟨(hW.cell (p:=⟨g,k * 3 + 2,none⟩) hg2).trans y2,?_⟩
       obtain ⟨c,hc⟩:=row_type HP.out.rules.row (k:=g) rfl
       exact blk_free ((hW.block g hg2).trans hc) _
      have hws6:=hsh.2
      have hnm8:=hsh.1
      have HTS:Hid (((ds.take (k + 1)).flatMap fun d => lineD l d.view) = t ++ lineD l ds[k].view):=by rw [Hid,List.take_succ_eq_append_getElem hlt,List.flatMap_append,List.flatMap_singleton,HT.out]
      have HLD:Hid (lineD l ds[k].view = if nowD l dk[k].ws = dk[k].ans then [] else dk[k].name ++ [10]):=by
       rw [Hid,← HLN.out.1,← HLN.out.2.1,← HLN.out.2.2];rfl
      clear hcell hdk eq ea hv hsh HT
      generalize dk[k].ws = wl at *
      generalize dk[k].ans = al at *
      generalize dk[k].name = nm at *
      go_upto_region 11 with fail
      obtain ⟨w5,hw5⟩ : ∃ w5,w5 = wr.alloc (.cells #[.string ⟨List.toArray nm⟩,.slice aq wl.length cq,.slice aa al.length ca] 248):=⟨_,rfl⟩
      have HB5:Hid (Below wr.heap.size wr w5):=by rw [Hid,hw5];exact (Below.refl _ _).alloc (Nat.le_refl _) _
      have HN5:Hid (w5.heap[wr.heap.size]? = some (.cells #[SV nm,.slice aq wl.length cq,.slice aa al.length ca] 248 (0,0))):=by rw [Hid,hw5];exact heap_alloc_new _ _
      have hs5:wr.heap.size + 1 ≤ w5.heap.size:=(Array.getElem?_eq_some_iff.1 HN5.out).1
      rw [← hw5]
      clear hw5
      obtain ⟨rb,hrb⟩ : ∃ rb,wr.heap.size = rb:=⟨_,rfl⟩
      have HRB:=Hid.mk' hrb
      rw [hrb] at HN5 hs5 ⊢
      clear hrb
      have HLC:Hid (∀ W,Below w5.heap.size w5 W→rb < W.heap.size∧W.cell? ⟨rb,0,none⟩ = some (SV nm)∧W.cell? ⟨rb,1,none⟩ = some (.slice aq wl.length cq)∧W.cell? ⟨rb,2,none⟩ = some (.slice aa al.length ca)):=fun W hW => by
       have e:=(hW.block rb (by omega)).trans HN5.out
       exact ⟨by have:=hW.size;omega,(blk_cell e 0).trans rfl,(blk_cell e 1).trans rfl,(blk_cell e 2).trans rfl⟩
      obtain ⟨hr5,n0,n1,n2⟩:=HLC.out w5 (Below.refl _ _)
      go_cut [11] (fun sv wc => wc = w5∧sv = .bool (sameD al [] 0 wl.length))
      case first =>
       by_cases hal:al.length = wl.length
       ·have HAL:=Hid.mk' hal
        have halB:((al.length:Int) == (wl.length:Int)) = true:=by simp [hal]
        clear hal
        go_wp2
        go_meet
        case rel => exact ⟨rfl,by rw [sameD_start,decide_eq_true HAL.out]⟩
       ·have hali:¬ (al.length:Int) = (wl.length:Int):=by omega
        go_wp2
        go_meet
        case rel => exact ⟨rfl,by rw [sameD_start,decide_eq_false hal];exact congrArg Value.bool (beq_eq_false_iff_ne.2 hali)⟩
      case rest =>
       obtain ⟨rfl,rfl⟩:=hcut
       generalize wc = w5 at *
       clear n0 n1 n2 hr5 y0 y1 y2
       generalize wr = wz at *
       have HFZ:Hid (∀ W,Below w5.heap.size w5 W→FilesAt W (.slice aol l.length capl) l):=fun W hW => files_kept HFR.out fun m hm => by
        have h1:=(HFR.out.lt m hm).2
        have h2:=HB5.out.size
        exact (hW.block m (by omega)).trans (HB5.out.block m h1)
       go_wp2
       go_loopw [11,12,13] (fun sv nv i wr => ∃ (j:Nat) (ys:List Str) (mb:Bool),j ≤ wl.length∧i = .int .i64 j∧ys = (wl.take j).map (answerL l)∧wr.ownsRow w5.heap.size 9 1 nv j (ys.map SV)∧sv = .bool mb∧mb = sameD al ys j wl.length∧Below w5.heap.size w5 wr) (fun _ _ i _ => wl.length - (intOf i).toNat)
       case atStart => exact ⟨0,[],_,Nat.zero_le _,rfl,rfl,World.ownsRow_nil _ _ _ _,rfl,rfl,Below.refl _ _⟩
       case round =>
        obtain ⟨j,ys,mb,hj,rfl,hys,hrow,rfl,hmb,hb⟩:=hrel
        have HYS:=Hid.mk' hys
        have HMB:=Hid.mk' hmb
        have HROW:=Hid.mk' hrow
        have HB:=Hid.mk' hb
        obtain ⟨aoY,capY,rfl⟩:=row_form hrow
        obtain ⟨hrb,n0,n1,n2⟩:=HLC.out wr hb
        clear hys hmb hrow hb
        by_cases hjl:j < wl.length
        ·as_aux_lemma =>
          have hji:(j:Int) < (wl.length:Int):=by omega
          obtain ⟨gq,eaq,hgq,hlq,hmq,hwq⟩:=HQC.out (by omega)
          subst eaq
          obtain ⟨wvj,cw,hwj⟩:=hwq j hjl
          have hbz:Below wz.heap.size wz wr:=HB5.out.trans (HB.out.mono HB5.out.size)
          have cwr:wr.cell? ⟨gq,j,none⟩ = some wvj:=(hbz.cell (p:=⟨gq,j,none⟩) hgq).trans cw
          have hgqr:gq < wr.heap.size:=Nat.lt_of_lt_of_le hgq hbz.size
          have hwk:=HGD.out wl[j] (List.getElem_mem hjl)
          have CA:=Hid.mk' (refAnswer_any l (.slice aol l.length capl) wvj wl[j] wr (HFZ.out wr HB.out) HTI.out (hwj.below hbz) hwk.2.1 hwk.2.2 hwk.1)
          have HYN:Hid (ys ++ [answerL l wl[j]] = (wl.take (j + 1)).map (answerL l)):=by rw [Hid,List.take_succ_eq_append_getElem hjl,List.map_append,HYS.out];rfl
          have HYL:Hid (ys.length = j):=by rw [Hid,HYS.out];simp;omega
          obtain ⟨gw,cpw,rfl,hlw,hmw,hrest⟩:=hwj
          unfold maxLen at hmq
          clear hwq cw hwk hlw hmw hrest
          generalize answerL l wl[j] = x at *
          generalize wl[j].length = nw at *
          go_wp2_with fail
          refine Calls.mono (show Calls _ _ _ _ _ from CA.out) ?_
          rintro e w6 ⟨rfl,hb6⟩
          have HR6:Hid (w6.ownsRow w5.heap.size 9 1 (.slice aoY j capY) j (ys.map SV)):=rowKept HROW.out fun i hi => hb6.block i (World.ownsRow.lt HROW.out i hi).2
          have HB6:Hid (Below w5.heap.size w5 w6):=HB.out.trans (hb6.mono HB.out.size)
          have hz6:=HB6.out.size
          clear hb6 CA cwr HROW HB n0 n1 n2 hrb
          go_wp2_with (at_builtin;go_loud (refine wp_app_str rfl (.tmp 66) (.tmp 68) rfl HR6.out x ⟨rfl,rfl,rfl,rfl⟩ rfl rfl (by omega) hz6 ?_))
          intro v' w7 hown7 hb7
          have HR7:Hid (w7.ownsRow w5.heap.size 9 1 v' (j + 1) ((ys ++ [x]).map SV)):=by rw [Hid,List.map_append];exact hown7
          have HB7:Hid (Below w5.heap.size w5 w7):=HB6.out.trans hb7
          obtain ⟨hrb,n0,n1,n2⟩:=HLC.out w7 HB7.out
          clear hown7 hb7 HR6 HB6 hz6
          cases mb
          ·have HM2:Hid (false = sameD al (ys ++ [x]) (j + 1) wl.length):=(sameD_false HYL.out HMB.out.symm).symm
           go_wp2
           go_roundw
           case rel => exact ⟨j + 1,ys ++ [x],false,by omega,by go_num,HYN.out,HR7.out,rfl,HM2.out,HB7.out⟩
           case measure => simp [intOf];omega
          ·have hal:al.length = wl.length:=by
            have:=HMB.out.symm
            unfold sameD at this
            rw [decide_eq_true_eq] at this
            exact this.1
           have hja:j < al.length:=by omega
           rcases strs_cells HACS.out with ⟨_,h0,_⟩ | ⟨gA,cA,eA,hnA,hgA,_,hcA,hmA,hpA⟩
           ·omega
           simp only [Value.slice.injEq] at eA
           obtain ⟨rfl,-,rfl⟩:=eA
           have ca' : w7.cell? ⟨gA,j,none⟩ = some (SV al[j]):=((HB5.out.trans (HB7.out.mono HB5.out.size)).cell (p:=⟨gA,j,none⟩) hgA).trans (hpA j hja)
           have hgA7:gA < w7.heap.size:=Nat.lt_of_lt_of_le hgA (Nat.le_trans HB5.out.size HB7.out.size)
           have hjai:(j:Int) < (al.length:Int):=by omega
           have HMF:=Hid.mk' (sameD_true (x:=x) HMB.out.symm hja)
           clear hnA hpA hal
           unfold maxLen at hmA
           generalize al[j] = aj at *
           by_cases hax:aj = x
           ·have HM2:Hid (true = sameD al (ys ++ [x]) (j + 1) wl.length):=by rw [Hid,HMF.out];simp [hax]
            subst hax
            clear HMF
            go_wp2
            go_roundw
            case rel => exact ⟨j + 1,ys ++ [aj],true,by omega,by go_num,HYN.out,HR7.out,rfl,HM2.out,HB7.out⟩
            case measure => simp [intOf];omega
           ·have HM2:Hid (false = sameD al (ys ++ [x]) (j + 1) wl.length):=by rw [Hid,HMF.out];simp [hax]
            have haxB:(aj == x) = false:=by simpa using hax
            clear HMF
            go_wp2
            go_roundw
            case rel => exact ⟨j + 1,ys ++ [x],false,by omega,by go_num,HYN.out,HR7.out,rfl,HM2.out,HB7.out⟩
            case measure => simp [intOf];omega
        ·as_aux_lemma =>
          have hji:¬ (j:Int) < (wl.length:Int):=by omega
          have hje:j = wl.length:=by omega
          subst hje
          have HYA:Hid (ys = nowD l wl):=by rw [Hid,HYS.out,List.take_length];rfl
          have HME:Hid (mb = decide (ys = al)):=by rw [Hid,HMB.out];exact sameD_end (by rw [HYS.out];simp)
          have hbz:Below wz.heap.size wz wr:=HB5.out.trans (HB.out.mono HB5.out.size)
          have HBZ:=Hid.mk' hbz
          obtain ⟨c2,f2⟩:=HGB.out wr hbz
          obtain ⟨b3w,hbw,_⟩:=HKP.out wr dk k (HP.out.below hbz)
          have hgw:g < wr.heap.size:=Nat.lt_of_lt_of_le hg2 hbz.size
          have hap:=app_list
          clear hbz HYS HMB HQC HACS HFZ
          cases mb
          ·have hne:¬ nowD l wl = al:=by
            have:=HME.out.symm
            rw [HYA.out,decide_eq_false_iff_not] at this
            exact this
           have HTN:Hid (t ++ (nm ++ [10]) = ((ds.take (k + 1)).flatMap fun d => lineD l d.view)):=by rw [Hid,HTS.out,HLD.out,if_neg hne]
           have HRW:Hid (∃ dk',PlanAt w (wr.setCell ⟨g,k * 3 + 2,none⟩ (.slice aoY wl.length capY)) (.slice (some ⟨g,0,none⟩) ds.length capV) ds l (k + 1) dk'):=by
            refine PlanAt.told HP.out hlt HBZ.out (base:=w5.heap.size) ?_ HB5.out.size
            have:=HROW.out
            rw [HYA.out] at this
            rw [HLN.out.1,show (nowD l wl).length = wl.length from by simp [nowD]]
            exact this
           clear hne HME HTS HLD HYA HROW
           go_wp2
           go_roundw
           case rel =>
            obtain ⟨dk',hP'⟩:=HRW.out
            exact ⟨k + 1,dk',t ++ (nm ++ [10]),by omega,by go_num,by simp,HTN.out,hP'⟩
           case measure => simp [intOf];omega
          ·have he:nowD l wl = al:=by
            have:=HME.out.symm
            rw [HYA.out,decide_eq_true_eq] at this
            exact this
           have HTN:Hid (t = ((ds.take (k + 1)).flatMap fun d => lineD l d.view)):=by rw [Hid,HTS.out,HLD.out,if_pos he,List.append_nil]
           have HRW:=Hid.mk' ((HP.out.below HBZ.out).skip hlt (by rw [HLN.out.1,HLN.out.2.1];exact he))
           clear he HME HTS HLD HYA HROW
           go_wp2
           go_roundw
           case rel => exact ⟨k + 1,dk,t,by omega,by go_num,rfl,HTN.out,HRW.out⟩
           case measure => simp [intOf];omega
    ·as_aux_lemma =>
      have hki:¬ (k:Int) < (ds.length:Int):=by omega
      have hke:k = ds.length:=by omega
      subst hke
      have R:Hid (DPlanOut w (.slice (some ⟨g,0,none⟩) ds.length capV) ds r n (.returned (.tuple #[SV t,.int .i64 0])) wr):=by
       have:=DONE.out wr dk HP.out
       rw [HT.out,List.take_length]
       exact this
      clear HP HT DONE HST0 HKP
      go_wp2
      go_ret2
      exact R.out
 ·have R:Hid (DPlanOut w (.slice aoV ds.length capV) ds r n (.returned (.tuple #[SV [],.int .i64 2])) w):=.inl ⟨hfl,rfl,rfl⟩
  clear hfl
  go_wp2
  go_ret2
  exact R.out
end Go.Proofs.YtdcbgfhkfmohiaaGreatDoor

namespace Go.Proofs.YtdcbgfhkfmohiaaGreatDoor
open Go.RowKit Go.Sort Go.Shelf
def docV (d:DView):RView:=⟨d.name,d.ws.map fun x => (qnOf x).getD (.ex none),d.ans⟩
structure Tied (V:List RView) (D:List DView):Prop where
 perm:V.Perm (D.map docV)
 sorted:D.Pairwise fun a b => Op.bytesLess a.name b.name = true
 good:∀ d ∈ D,∀ x ∈ d.ws,WOk x
theorem tied_nil:Tied [] []:=⟨List.Perm.refl _,List.Pairwise.nil,by simp⟩
theorem Tied.len {V:List RView} {D:List DView} (h:Tied V D):V.length = D.length:=by rw [h.perm.length_eq,List.length_map]
theorem Tied.nd {V:List RView} {D:List DView} (h:Tied V D):(D.map (·.name)).Nodup:=by
 unfold List.Nodup
 rw [List.pairwise_map]
 refine h.sorted.imp fun {a b} hab e => ?_
 rw [e,bl_irrefl] at hab
 simp at hab
theorem any_perm {V W:List RView} (h:V.Perm W) (p:RView→Bool):V.any p = W.any p:=by
 rw [Bool.eq_iff_iff,List.any_eq_true,List.any_eq_true]
 exact ⟨fun ⟨x,hx,hp⟩ => ⟨x,h.mem_iff.1 hx,hp⟩,fun ⟨x,hx,hp⟩ => ⟨x,h.mem_iff.2 hx,hp⟩⟩
theorem rest_any (D:List DView) (n:Str):(restD D n).length = D.length ↔ (D.map docV).any (·.name == n) = false:=by
 unfold restD
 rw [List.length_filter_eq_length_iff,List.any_eq_false]
 constructor
 ·intro h x hx
  rw [List.mem_map] at hx
  obtain ⟨d,hd,rfl⟩:=hx
  simpa [docV] using h d hd
 ·intro h d hd
  simpa [docV] using h (docV d) (List.mem_map.2 ⟨d,hd,rfl⟩)
theorem tied_err {V:List RView} {D:List DView} (h:Tied V D) (n:Str) (xs:List Str):ruleE V n xs = ruleDE D n xs:=by
 unfold ruleE ruleDE
 have e:(6 < xs.length∨(V.any (·.name == n) = false∧8 ≤ V.length)) ↔ (6 < xs.length∨((restD D n).length = D.length∧8 ≤ (restD D n).length)):=by
  rw [any_perm h.perm,← rest_any,h.len]
  constructor
  ·rintro (h1 | ⟨h1,h2⟩)
   ·exact .inl h1
   ·exact .inr ⟨h1,by omega⟩
  ·rintro (h1 | ⟨h1,h2⟩)
   ·exact .inl h1
   ·exact .inr ⟨h1,by omega⟩
 split
 ·by_cases h1:6 < xs.length∨(V.any (·.name == n) = false∧8 ≤ V.length)
  ·rw [if_pos h1,if_pos (e.1 h1)]
  ·rw [if_neg h1,if_neg (fun h2 => h1 (e.2 h2))]
 ·rfl
theorem rest_docV (D:List DView) (n:Str):(D.map docV).filter (fun x => !(x.name == n)) = (restD D n).map docV:=by
 unfold restD
 rw [List.filter_map]
 rfl
theorem insD_perm {T:Type} (lt:T→Bool) (r:T) (l:List T):(insD lt r l).Perm (r :: l):=by
 induction l with
 | nil => exact List.Perm.refl _
 | cons d l ih =>
  simp only [insD]
  split
  ·exact List.Perm.refl _
  ·exact (ih.cons d).trans (List.Perm.swap r d l)
theorem insD_sorted {r:DView} {l:List DView} (hs:l.Pairwise fun a b => Op.bytesLess a.name b.name = true) (hn:∀ d ∈ l,d.name ≠ r.name):(insD (fun d => Op.bytesLess r.name d.name) r l).Pairwise fun a b => Op.bytesLess a.name b.name = true:=by
 induction l with
 | nil => simp [insD]
 | cons d l ih =>
  rw [List.pairwise_cons] at hs
  simp only [insD]
  split
  ·rename_i h
   rw [List.pairwise_cons,List.pairwise_cons]
   refine ⟨fun x hx => ?_,hs.1,hs.2⟩
   rw [List.mem_cons] at hx
   rcases hx with rfl | hx
   ·exact h
   ·exact bl_trans h (hs.1 x hx)
  ·rename_i h
   rw [List.pairwise_cons]
   refine ⟨fun x hx => ?_,ih hs.2 fun y hy => hn y (List.mem_cons_of_mem _ hy)⟩
   rcases ins_mem hx with rfl | hx
   ·exact bl_total (by simpa using h) (fun e => hn d (List.mem_cons_self ..) e.symm)
   ·exact hs.1 x hx
theorem split_name {V:List RView} (hnd:(V.map (·.name)).Nodup) {n:Str} (ha:V.any (·.name == n) = true):∃ m,m.name = n∧V.Perm (m :: V.filter fun x => !(x.name == n)):=by
 rw [List.any_eq_true] at ha
 obtain ⟨m,hm,hmn⟩:=ha
 have hmn' : m.name = n:=by simpa using hmn
 refine ⟨m,hmn',?_⟩
 have h1:(V.filter (fun x => x.name == n) ++ V.filter (fun x => !(x.name == n))).Perm V:=List.filter_append_perm _ V
 have h2:V.filter (fun x => x.name == n) = [m]:=by
  have hs:V.Nodup:=(List.pairwise_map.1 hnd).imp fun h e => h (by rw [e])
  have hall:∀ x ∈ V.filter (fun x => x.name == n),x = m:=by
   intro x hx
   rw [List.mem_filter] at hx
   have hxn:x.name = n:=by simpa using hx.2
   obtain ⟨i,hi,rfl⟩:=List.getElem_of_mem hx.1
   obtain ⟨j,hj,rfl⟩:=List.getElem_of_mem hm
   have:i = j:=by
    have e:(V.map (·.name))[i]'(by simpa using hi) = (V.map (·.name))[j]'(by simpa using hj):=by simp [hxn,hmn']
    exact (List.getElem_inj hnd).1 e
   subst this
   rfl
  have hmf:m ∈ V.filter (fun x => x.name == n):=List.mem_filter.2 ⟨hm,by simpa using hmn'⟩
  have hnf:(V.filter (fun x => x.name == n)).Nodup:=hs.filter _
  cases hf:V.filter (fun x => x.name == n) with
  | nil => rw [hf] at hmf;simp at hmf
  | cons a r =>
   rw [hf] at hall hnf
   have ha:a = m:=hall a (List.mem_cons_self ..)
   cases r with
   | nil => rw [ha]
   | cons c r =>
    have hc:c = m:=hall c (by simp)
    rw [ha,hc] at hnf
    simp at hnf
 rw [h2] at h1
 exact h1.symm
theorem setV_perm {V:List RView} (hnd:(V.map (·.name)).Nodup) (n:Str) (qs:List Qn):(setV V n qs).Perm (⟨n,qs,[]⟩ :: V.filter fun x => !(x.name == n)):=by
 unfold setV
 cases ha:V.any (·.name == n)
 ·rw [if_neg (by simp)]
  have hf:V.filter (fun x => !(x.name == n)) = V:=by
   rw [List.filter_eq_self]
   intro x hx
   rw [List.any_eq_false] at ha
   simpa using ha x hx
  rw [hf]
  exact (List.perm_append_singleton _ _)
 ·rw [if_pos rfl]
  obtain ⟨m,hm,hp⟩:=split_name hnd ha
  refine (hp.map _).trans ?_
  rw [List.map_cons]
  have e1:(if (m.name == n) = true then (⟨n,qs,[]⟩ : RView) else m) = ⟨n,qs,[]⟩:=if_pos (by simpa using hm)
  rw [e1]
  have e2:(V.filter fun x => !(x.name == n)).map (fun x => if (x.name == n) = true then (⟨n,qs,[]⟩ : RView) else x) = V.filter fun x => !(x.name == n):=by
   have:∀ x ∈ V.filter (fun x => !(x.name == n)),(fun x:RView => if (x.name == n) = true then (⟨n,qs,[]⟩ : RView) else x) x = id x:=by
    intro x hx
    rw [List.mem_filter] at hx
    have:(x.name == n) = false:=by simpa using hx.2
    simp [this]
   rw [List.map_congr_left this,List.map_id]
  rw [e2]
theorem checkAll_all {xs:List Str} (h:checkAll xs = 0):∀ x ∈ xs,checkL x = 0:=by
 induction xs with
 | nil => simp
 | cons x r ih =>
  unfold checkAll at h
  by_cases hx:checkL x = 0
  ·rw [if_pos hx] at h
   intro y hy
   rw [List.mem_cons] at hy
   rcases hy with rfl | hy
   ·exact hx
   ·exact ih h y hy
  ·rw [if_neg hx] at h;exact absurd h hx
theorem rule_check {V:List RView} {n:Str} {xs:List Str} (h:ruleE V n xs = 0):∀ x ∈ xs,checkL x = 0:=by
 unfold ruleE at h
 split at h
 ·split at h
  ·simp at h
  ·exact checkAll_all h
 ·simp at h
theorem tied_rule {V:List RView} {D:List DView} (h:Tied V D) (n:Str) (xs:List Str):Tied (ruleV V n xs) (ruleDV D n xs):=by
 have he:=tied_err h n xs
 have hsub:∀ d ∈ restD D n,d ∈ D:=fun d hd => (List.mem_filter.1 hd).1
 have hne:∀ d ∈ restD D n,d.name ≠ n:=fun d hd => by simpa using (List.mem_filter.1 hd).2
 have hp:(V.filter fun x => !(x.name == n)).Perm ((restD D n).map docV):=by
  rw [← rest_docV]
  exact h.perm.filter _
 have hndV:(V.map (·.name)).Nodup:=by
  have h1:=h.nd
  have h2:(V.map (·.name)).Perm (D.map (·.name)):=by
   have:=h.perm.map (·.name)
   rw [List.map_map] at this
   exact this
  exact h2.nodup_iff.2 h1
 unfold ruleV ruleDV
 by_cases h0:ruleE V n xs = 0
 ·have h0' : ruleDE D n xs = 0:=by rw [← he];exact h0
  rw [if_pos h0,if_pos h0']
  by_cases hx:xs = []
  ·rw [if_pos hx,if_pos hx]
   exact ⟨hp,h.sorted.filter _,fun d hd => h.good d (hsub d hd)⟩
  ·rw [if_neg hx,if_neg hx]
   have hck:=rule_check h0
   refine ⟨?_,insD_sorted (r:=⟨n,xs.map (splitL 32),[]⟩) (h.sorted.filter _) hne,?_⟩
   ·refine (setV_perm hndV n (qnsL xs)).trans ?_
    refine (hp.cons _).trans ?_
    have e:(⟨n,qnsL xs,[]⟩ : RView) = docV ⟨n,xs.map (splitL 32),[]⟩:=by
     unfold docV qnsL
     simp
    rw [e,← List.map_cons]
    exact ((insD_perm _ _ _).map docV).symm
   ·intro d hd x hx'
    rcases ins_mem hd with rfl | hd
    ·simp only [List.mem_map] at hx'
     obtain ⟨y,hy,rfl⟩:=hx'
     have h1:=check_ok (hck y hy)
     exact ⟨h1.2,words_ok h1.1⟩
    ·exact h.good d (hsub d hd) x hx'
 ·have h0' : ¬ ruleDE D n xs = 0:=by rw [← he];exact h0
  rw [if_neg h0,if_neg h0']
  exact h
theorem words_qn {es:Ents} (hw:WFE es) (h5:heightE es ≤ 5) {x:List Str} (h:WOk x):answerQ es ((qnOf x).getD (.ex none)) = answerL (toF (filesE es)) x:=by
 have hne:x ≠ []:=by
  intro e
  have:=h.1
  rw [e] at this
  exact absurd this (by decide)
 have hc:=h.1
 rw [← parse_check x hne,parseW] at hc
 cases hq:qnOf x with
 | none => rw [hq] at hc;simp at hc
 | some q => rw [hq] at hc;exact answer_tree hw h5 hq hc
theorem now_docV {es:Ents} (hw:WFE es) (h5:heightE es ≤ 5) {d:DView} (h:∀ x ∈ d.ws,WOk x):nowQ es (docV d).qs = nowD (toF (filesE es)) d.ws:=by
 unfold nowQ nowD docV
 rw [List.map_map]
 exact List.map_congr_left fun x hx => words_qn hw h5 (h x hx)
theorem tied_built {es:Ents} (hw:WFE es) (h5:heightE es ≤ 5) {V:List RView} {D:List DView} (h:Tied V D):Tied (builtV es V) (D.map (planD (toF (filesE es)))):=by
 refine ⟨?_,?_,?_⟩
 ·unfold builtV
  refine (h.perm.map _).trans ?_
  rw [List.map_map,List.map_map]
  have:D.map ((fun x:RView => { x with ans:=nowQ es x.qs }) ∘ docV) = D.map (docV ∘ planD (toF (filesE es))):=by
   apply List.map_congr_left
   intro d hd
   show ({ docV d with ans:=nowQ es (docV d).qs }:RView) = docV (planD (toF (filesE es)) d)
   rw [now_docV hw h5 (h.good d hd)]
   rfl
  rw [this]
 ·rw [List.pairwise_map]
  exact h.sorted
 ·intro d hd
  rw [List.mem_map] at hd
  obtain ⟨e,he,rfl⟩:=hd
  exact h.good e he
theorem tied_srt {V:List RView} {D:List DView} (h:Tied V D):srt V = D.map (·.name):=by
 unfold srt
 have h2:(V.map (·.name)).Perm (D.map (·.name)):=by
  have:=h.perm.map (·.name)
  rw [List.map_map] at this
  exact this
 rw [mergeSort_of_perm h2]
 refine List.mergeSort_of_pairwise ?_
 rw [List.pairwise_map]
 refine h.sorted.imp fun {a b} hab => ?_
 rw [bytesLess_eq,decide_eq_true_eq] at hab
 exact decide_eq_true (Std.le_of_lt hab)
theorem tied_text {es:Ents} (hw:WFE es) (h5:heightE es ≤ 5) {V:List RView} {D:List DView} (h:Tied V D):(srt V).flatMap (lineP es V) = D.flatMap (lineD (toF (filesE es))):=by
 rw [tied_srt h,List.flatMap_map]
 rw [List.flatMap_def,List.flatMap_def]
 congr 1
 refine List.map_congr_left fun d hd => ?_
 unfold lineP lineD
 rw [any_perm h.perm]
 have:(D.map docV).any (fun x => x.name == d.name && decide (nowQ es x.qs ≠ x.ans)) = decide (nowD (toF (filesE es)) d.ws ≠ d.ans):=by
  rw [Bool.eq_iff_iff,List.any_eq_true,decide_eq_true_eq]
  constructor
  ·rintro ⟨x,hx,hp⟩
   rw [List.mem_map] at hx
   obtain ⟨e,he,rfl⟩:=hx
   rw [Bool.and_eq_true,decide_eq_true_eq,now_docV hw h5 (h.good e he)] at hp
   have hn:e.name = d.name:=by simpa [docV] using hp.1
   have:e = d:=by
    obtain ⟨i,hi,rfl⟩:=List.getElem_of_mem he
    obtain ⟨j,hj,rfl⟩:=List.getElem_of_mem hd
    have e:(D.map (·.name))[i]'(by simpa using hi) = (D.map (·.name))[j]'(by simpa using hj):=by simp [hn]
    have:=(List.getElem_inj h.nd).1 e
    subst this
    rfl
   subst this
   exact hp.2
  ·intro hne
   refine ⟨docV d,List.mem_map.2 ⟨d,hd,rfl⟩,?_⟩
   rw [Bool.and_eq_true,decide_eq_true_eq,now_docV hw h5 (h.good d hd)]
   exact ⟨by simp [docV],hne⟩
 rw [this]
 by_cases hs:nowD (toF (filesE es)) d.ws = d.ans
 ·rw [if_pos hs,if_neg (by simp [hs])]
 ·rw [if_neg hs,if_pos (by simpa using hs)]
end Go.Proofs.YtdcbgfhkfmohiaaGreatDoor

namespace Go.Proofs.YtdcbgfhkfmohiaaGreatDoor
open Go.RowKit
structure DuoX where
 D:Duo
 Rs:List RuleP
 ds:List DRule
def DuoX.foot (X:DuoX) (k:Nat):Prop:=Foot X.D.B.rr X.Rs k∨docR X.D.vr X.ds k
def DuoX.own (X:DuoX) (k:Nat):Prop:=X.D.own k∨X.foot k
structure DuoXAt (w:World) (X:DuoX):Prop where
 duo:DuoAt w X.D
 prog:RulesAt w X.D.B.rr X.Rs
 doc:DRulesAt w X.D.vr X.ds
 tie:Tied (X.Rs.map (·.view)) (X.ds.map (·.view))
 outD:∀ k,X.foot k→¬ X.D.own k
 outR:∀ k,Foot X.D.B.rr X.Rs k→¬ docR X.D.vr X.ds k
structure DuoXStep (w:World) (X:DuoX) (w' : World) (X' : DuoX):Prop where
 os:w'.os = w.os
 tape:w'.tape = w.tape
 output:w'.output = w.output
 size:w.heap.size ≤ w'.heap.size
 blk:∀ k,k < w.heap.size→¬ X.own k→w'.heap[k]? = w.heap[k]?
 own:∀ k,X'.own k→X.own k∨w.heap.size ≤ k
 sb:X'.D.B.sb = X.D.B.sb
 b:X'.D.b = X.D.b
 made:X'.D.r.made ≤ X.D.r.made + 1
theorem DuoXAt.foot_lt {w:World} {X:DuoX} (h:DuoXAt w X) {k:Nat} (hk:X.foot k):k < w.heap.size:=hk.elim (fun h1 => h.prog.lt h1) (fun h1 => h.doc.lt h1)
theorem DuoXAt.own_lt {w:World} {X:DuoX} (h:DuoXAt w X) {k:Nat} (hk:X.own k):k < w.heap.size:=hk.elim (fun h1 => h.duo.own_lt h1) (fun h1 => h.foot_lt h1)
theorem DuoXAt.frame {w w' : World} {X:DuoX} (h:DuoXAt w X) (hs:w.heap.size ≤ w'.heap.size) (hb:∀ k,X.own k→w'.heap[k]? = w.heap[k]?):DuoXAt w' X :=
 ⟨h.duo.frame fun k hk => hb k (.inl hk),h.prog.keep hs fun k hk => hb k (.inr (.inl hk)),h.doc.frame hs fun k hk => hb k (.inr (.inr hk)),h.tie,h.outD,h.outR⟩
theorem DuoXAt.below {w w' : World} {X:DuoX} (h:DuoXAt w X) (hb:Below w.heap.size w w'):DuoXAt w' X:=h.frame hb.size fun _ hk => hb.block _ (h.own_lt hk)
theorem DuoXStep.of_below {w w' : World} {X:DuoX} (h:Below w.heap.size w w'):DuoXStep w X w' X :=
 ⟨h.os,h.tape,h.output,h.size,fun k hk _ => h.block k hk,fun _ hk => .inl hk,rfl,rfl,by omega⟩
theorem DuoXStep.before {w w1 w' : World} {X X' : DuoX} (h:Below w.heap.size w w1) (hs:DuoXStep w1 X w' X'):DuoXStep w X w' X' :=
 ⟨hs.os.trans h.os,hs.tape.trans h.tape,hs.output.trans h.output,Nat.le_trans h.size hs.size,fun k hk hn => (hs.blk k (Nat.lt_of_lt_of_le hk h.size) hn).trans (h.block k hk),fun k hk => (hs.own k hk).imp id (fun h2 => Nat.le_trans h.size h2),hs.sb,hs.b,hs.made⟩
theorem duoX_lift {w w' : World} {X:DuoX} {D' : Duo} (h:DuoXAt w X) (hD:DuoAt w' D') (hS:DuoStep w X.D w' D'):DuoXAt w' ⟨D',X.Rs,X.ds⟩∧DuoXStep w X w' ⟨D',X.Rs,X.ds⟩:=by
 have hst:∀ k,X.foot k→w'.heap[k]? = w.heap[k]?:=fun k hk => hS.blk k (h.foot_lt hk) (h.outD k hk)
 have hf:∀ k,DuoX.foot ⟨D',X.Rs,X.ds⟩ k ↔ X.foot k:=fun k => by
  unfold DuoX.foot
  rw [hS.rr,hS.vr]
 refine ⟨⟨hD,?_,?_,h.tie,?_,?_⟩,⟨hS.os,hS.tape,hS.output,hS.size,fun k hk hn => hS.blk k hk fun h1 => hn (.inl h1),?_,hS.sb,hS.b,hS.made⟩⟩
 ·show RulesAt w' D'.B.rr X.Rs
  rw [hS.rr]
  exact h.prog.keep hS.size fun k hk => hst k (.inl hk)
 ·show DRulesAt w' D'.vr X.ds
  rw [hS.vr]
  exact h.doc.frame hS.size fun k hk => hst k (.inr hk)
 ·intro k hk ho
  have hk':=(hf k).1 hk
  rcases hS.own k ho with h1 | h1
  ·exact h.outD k hk' h1
  ·have:=h.foot_lt hk';omega
 ·show ∀ k,Foot D'.B.rr X.Rs k→¬ docR D'.vr X.ds k
  rw [hS.rr,hS.vr]
  exact h.outR
 ·rintro k (hk | hk)
  ·exact (hS.own k hk).imp .inl id
  ·exact .inl (.inr ((hf k).1 hk))
theorem duoX_rules {w w2 w3:World} {X:DuoX} {Rs' : List RuleP} {vr' : Value} {ds' : List DRule} {O' : Nat→Prop} (h:DuoXAt w X) (hP:RulesAt w2 X.D.B.rr Rs') (hT:Turn (Ow X.D.B.rr X.Rs) w w2 (Ow X.D.B.rr Rs')) (hFt:∀ k,Foot X.D.B.rr Rs' k→Foot X.D.B.rr X.Rs k∨w.heap.size ≤ k)
  (hblk:w3.heap[X.D.b]? = some (.cells #[.int .i64 X.D.r.limit,.int .i64 X.D.r.made,X.D.va,vr'] 193 (0,0))) (hQ:DRulesAt w3 vr' ds') (hT2:Turn (fun k => k = X.D.b∨X.D.vr.ownBlock = some k) w2 w3 O') (hFt2:∀ k,docR vr' ds' k→docR X.D.vr X.ds k∨w2.heap.size ≤ k)
  (ht:Tied (Rs'.map (·.view)) (ds'.map (·.view))):DuoXAt w3 ⟨{ X.D with vr:=vr' },Rs',ds'⟩∧DuoXStep w X w3 ⟨{ X.D with vr:=vr' },Rs',ds'⟩:=by
 have hbs:X.D.own X.D.b:=.inr (.inl rfl)
 have hbl:=h.duo.own_lt hbs
 have hOw:∀ k,Ow X.D.B.rr X.Rs k→X.foot k:=fun k hk => .inl (.inl hk)
 have hvr:∀ k,X.D.vr.ownBlock = some k→X.foot k:=fun k hk => .inr (.inl hk)
 -- what is neither the rules' nor the store's head
 have hk2:∀ k,k < w.heap.size→¬ X.foot k→w2.heap[k]? = w.heap[k]?:=fun k h1 h2 => hT.blk k h1 fun h3 => h2 (hOw k h3)
 have hk3:∀ k,k < w.heap.size→¬ X.foot k→k ≠ X.D.b→w3.heap[k]? = w.heap[k]?:=fun k h1 h2 h3 => (hT2.blk k (Nat.lt_of_lt_of_le h1 hT.size) fun h4 => h4.elim h3 fun h5 => h2 (hvr k h5)).trans (hk2 k h1 h2)
 have hnf:∀ k,X.D.own k→¬ X.foot k:=fun k hk hf => h.outD k hf hk
 have hown:∀ k,X.D.own k→k ≠ X.D.b→w3.heap[k]? = w.heap[k]?:=fun k hk hne => hk3 k (h.duo.own_lt hk) (hnf k hk) hne
 have hbB:∀ k,X.D.B.own k→k ≠ X.D.b:=fun k hk e => h.duo.apart k hk (.inl e)
 have hdoc:∀ k,(X.D.va.ownBlock = some k∨∃ x ∈ X.D.sn,x.2.ownBlock = some k)→k ≠ X.D.b:=by
  intro k hk e
  subst e
  rcases hk with hk | ⟨x,hx,hk⟩
  ·obtain ⟨c,hc⟩:=row_type h.duo.ref.row hk
   rw [h.duo.ref.blk] at hc
   simp at hc
  ·obtain ⟨i,hi,rfl⟩:=List.getElem_of_mem hx
   obtain ⟨c,hc⟩:=row_type (h.duo.ref.fil i hi (by rw [← h.duo.ref.len];exact hi)) hk
   rw [h.duo.ref.blk] at hc
   simp at hc
 have hF3:∀ k,Foot X.D.B.rr Rs' k→w3.heap[k]? = w2.heap[k]?:=fun k hk => hT2.blk k (hP.lt hk) fun h1 => by
  rcases hFt k hk with h2 | h2
  ·rcases h1 with rfl | h1
   ·exact h.outD _ (.inl h2) hbs
   ·exact h.outR k h2 (.inl h1)
  ·rcases h1 with rfl | h1
   ·omega
   ·have:=h.foot_lt (hvr k h1);omega
 have hfoot:∀ k,DuoX.foot ⟨{ X.D with vr:=vr' },Rs',ds'⟩ k→X.foot k∨w.heap.size ≤ k:=by
  rintro k (hk | hk)
  ·exact (hFt k hk).imp (fun h1 => .inl h1) id
  ·exact (hFt2 k hk).imp (fun h1 => .inr h1) (fun h1 => Nat.le_trans hT.size h1)
 refine ⟨⟨⟨h.duo.ok.frame fun k hk => hown k (.inl hk) (hbB k hk),⟨hblk,rowKept h.duo.ref.row fun k hk => hown k (.inr (.inr (.inl hk))) (hdoc k (.inl hk)),h.duo.ref.len,h.duo.ref.num,fun i h1 h2 => files_kept (h.duo.ref.fil i h1 h2) fun k hk => hown k (.inr (.inr (.inr ⟨_,List.getElem_mem h1,hk⟩))) (hdoc k (.inr ⟨_,List.getElem_mem h1,hk⟩)),h.duo.ref.tiny,h.duo.ref.few,h.duo.ref.lim⟩,h.duo.ag,h.duo.apart⟩,hP.keep hT2.size hF3,hQ,ht,?_,?_⟩,?_⟩
 ·intro k hk ho
  rcases hfoot k hk with h1 | h1
  ·exact h.outD k h1 ho
  ·have:=h.duo.own_lt (show X.D.own k from ho);omega
 ·intro k hk hd
  rcases hFt2 k hd with h2 | h2
  ·rcases hFt k hk with h1 | h1
   ·exact h.outR k h1 h2
   ·have:=h.doc.lt h2;omega
  ·have:=hP.lt hk;omega
 ·refine ⟨hT2.os.trans hT.os,hT2.tape.trans hT.tape,hT2.output.trans hT.output,Nat.le_trans hT.size hT2.size,fun k h1 h2 => hk3 k h1 (fun h3 => h2 (.inr h3)) (fun e => h2 (.inl (e ▸ hbs))),?_,rfl,rfl,by show X.D.r.made ≤ X.D.r.made + 1;omega⟩
  rintro k (hk | hk)
  ·exact .inl (.inl hk)
  ·exact (hfoot k hk).imp .inr id

open Go.RowKit
structure ProgTurn (w:World) (X:DuoX) (w2:World) (Rs' : List RuleP) (D' : List DView):Prop where
 rules:RulesAt w2 X.D.B.rr Rs'
 turn:Turn (Ow X.D.B.rr X.Rs) w w2 (Ow X.D.B.rr Rs')
 foot:∀ k,Foot X.D.B.rr Rs' k→Foot X.D.B.rr X.Rs k∨w.heap.size ≤ k
 tie:Tied (Rs'.map (·.view)) D'
theorem ProgTurn.kept {w w2:World} {X:DuoX} {Rs' : List RuleP} {D' : List DView} (hp:ProgTurn w X w2 Rs' D') (_h:DuoXAt w X) {k:Nat} (hk:k < w.heap.size) (hn:¬ Foot X.D.B.rr X.Rs k):w2.heap[k]? = w.heap[k]?:=hp.turn.blk k hk fun h1 => hn (.inl h1)
theorem ProgTurn.ref {w w2:World} {X:DuoX} {Rs' : List RuleP} {D' : List DView} (hp:ProgTurn w X w2 Rs' D') (h:DuoXAt w X):RefAt w2 X.D.b X.D.r X.D.va X.D.vr X.D.sn :=
 h.duo.ref.frame fun k hk => hp.kept h (h.duo.ref.docs_lt hk) fun h1 => h.outD k (.inl h1) (.inr hk)
theorem ProgTurn.doc {w w2:World} {X:DuoX} {Rs' : List RuleP} {D' : List DView} (hp:ProgTurn w X w2 Rs' D') (h:DuoXAt w X):DRulesAt w2 X.D.vr X.ds :=
 h.doc.frame hp.turn.size fun k hk => hp.kept h (h.doc.lt hk) fun h1 => h.outR k h1 hk
theorem RulesOut.prog {w w2:World} {X:DuoX} {V:List RView} {D' : List DView} (h:RulesOut w.heap.size w X.D.B.rr X.Rs V w2) (ht:Tied V D'):∃ Rs',ProgTurn w X w2 Rs' D':=by
 obtain ⟨Rs',h1,h2,h3,h4⟩:=h
 exact ⟨Rs',h1,h3,h4,h2 ▸ ht⟩
theorem DuoXAt.apB {w:World} {X:DuoX} (h:DuoXAt w X):∀ k,Foot X.D.B.rr X.Rs k→¬ X.D.B.own k:=fun k hk ho => h.outD k (.inl hk) (.inl ho)
def planX (X:DuoX) (n:Int):Str × Nat:=match findL X.D.r.all n with
 | none => ([],2)
 | some l => if X.ds.isEmpty then ([],11) else (X.ds.flatMap fun d => lineD l d.view,0)
def planXD (X:DuoX) (n:Int):List DView:=match findL X.D.r.all n with
 | none => X.ds.map (·.view)
 | some l => if X.ds.isEmpty then X.ds.map (·.view) else (X.ds.map (·.view)).map (planD l)
theorem rules_len {w:World} {X:DuoX} (h:DuoXAt w X):X.Rs = [] ↔ X.ds = []:=by
 have:=h.tie.len
 simp only [List.length_map] at this
 constructor
 ·intro e;rw [e] at this;exact List.eq_nil_of_length_eq_zero this.symm
 ·intro e;rw [e] at this;exact List.eq_nil_of_length_eq_zero this
theorem progPlan {w:World} {X:DuoX} (h:DuoXAt w X) (n:Int):Calls Tryz.prog 35 #[ptrV X.D.B.sb,.int .i64 n] w fun e w2 => e = .returned (.tuple #[SV (planX X n).1,.int .i64 ((planX X n).2:Nat)])∧∃ Rs',ProgTurn w X w2 Rs' (planXD X n):=by
 refine (storePlan_any X.D.B X.D.r n X.Rs w h.duo.ok h.duo.ag h.prog h.apB).mono ?_
 rintro e w2 (⟨h1,rfl,h2⟩ | ⟨es,h1,h2,h3,⟨h4,rfl,h5⟩ | ⟨h4,rfl,h5⟩⟩)
 ·have e1:planX X n = ([],2):=by unfold planX;rw [h1]
  have e2:planXD X n = X.ds.map (·.view):=by unfold planXD;rw [h1]
  rw [e1,e2]
  exact ⟨rfl,RulesOut.prog h2 h.tie⟩
 ·have hd:X.ds = []:=(rules_len h).1 h4
  have e1:planX X n = ([],11):=by unfold planX;rw [h1,hd];rfl
  have e2:planXD X n = X.ds.map (·.view):=by unfold planXD;rw [h1,hd];rfl
  rw [e1,e2]
  exact ⟨rfl,RulesOut.prog h5 h.tie⟩
 ·have hd:X.ds.isEmpty = false:=by
   cases hx:X.ds with
   | nil => exact absurd ((rules_len h).2 hx) h4
   | cons _ _ => rfl
  have e1:planX X n = (X.ds.flatMap fun d => lineD (toF (filesE es)) d.view,0):=by unfold planX;rw [h1];simp only;rw [hd];rfl
  have e2:planXD X n = (X.ds.map (·.view)).map (planD (toF (filesE es))):=by unfold planXD;rw [h1];simp only;rw [hd];rfl
  rw [e1,e2]
  refine ⟨?_,RulesOut.prog h5 (tied_built h2 h3 h.tie)⟩
  rw [tied_text h2 h3 h.tie,List.flatMap_map]
theorem docPlan {w w2:World} {X:DuoX} {Rs' : List RuleP} (h:DuoXAt w X) (n:Int) (hp:ProgTurn w X w2 Rs' (planXD X n)):Calls Tryz.prog 106 #[.pointer (some ⟨X.D.b,0,none⟩),.int .i64 n] w2 fun e w3 => e = .returned (.tuple #[SV (planX X n).1,.int .i64 ((planX X n).2:Nat)])∧∃ X',DuoXAt w3 X'∧DuoXStep w X w3 X':=by
 have hvo:∀ k,X.D.vr.ownBlock = some k→¬ X.D.own k:=fun k hk => h.outD k (.inr (.inl hk))
 have hr2:=hp.ref h
 have hd2:=hp.doc h
 have hT2:∀ w3,Turn (fun m => X.D.vr.ownBlock = some m) w2 w3 (fun m => X.D.vr.ownBlock = some m)→Turn (fun k => k = X.D.b∨X.D.vr.ownBlock = some k) w2 w3 (fun k => k = X.D.b∨X.D.vr.ownBlock = some k):=fun w3 ht =>
  ⟨ht.os,ht.tape,ht.output,ht.size,fun k h1 h2 => ht.blk k h1 fun h3 => h2 (.inr h3),fun k hk => .inl hk⟩
 have hbv:X.D.vr.ownBlock ≠ some X.D.b:=fun e => hvo _ e (.inr (.inl rfl))
 have fin:∀ w3 ds',DRulesAt w3 X.D.vr ds'→ds'.map (·.view) = planXD X n→Turn (fun m => X.D.vr.ownBlock = some m) w2 w3 (fun m => X.D.vr.ownBlock = some m)→(∀ k,docR X.D.vr ds' k→docR X.D.vr X.ds k∨w2.heap.size ≤ k)→∃ X',DuoXAt w3 X'∧DuoXStep w X w3 X':=fun w3 ds' h1 h2 h3 h4 =>
  ⟨_,duoX_rules h hp.rules hp.turn hp.foot ((h3.blk _ (Array.getElem?_eq_some_iff.1 hr2.blk).1 fun e => hbv e).trans hr2.blk) h1 (hT2 w3 h3) h4 (by rw [h2];exact hp.tie)⟩
 refine (refPlan_any X.D.b X.D.r X.D.va X.D.vr X.D.sn X.ds n w2 hr2 hd2 (fun x hx k hk e => hvo k e (.inr (.inr (.inr ⟨x,hx,hk⟩)))) hbv).mono ?_
 rintro e w3 (⟨h1,rfl,rfl⟩ | ⟨l,h1,⟨h2,rfl,rfl⟩ | ⟨h2,rfl,dk,hP⟩⟩)
 ·have e1:planX X n = ([],2):=by unfold planX;rw [h1]
  have e2:planXD X n = X.ds.map (·.view):=by unfold planXD;rw [h1]
  rw [e1]
  exact ⟨rfl,fin _ X.ds hd2 e2.symm (Turn.refl _ _) fun k hk => .inl hk⟩
 ·have e1:planX X n = ([],11):=by unfold planX;rw [h1,h2];rfl
  have e2:planXD X n = X.ds.map (·.view):=by unfold planXD;rw [h1,h2];rfl
  rw [e1]
  exact ⟨rfl,fin _ X.ds hd2 e2.symm (Turn.refl _ _) fun k hk => .inl hk⟩
 ·have hd:X.ds.isEmpty = false:=by
   cases hx:X.ds with
   | nil => exact absurd hx h2
   | cons _ _ => rfl
  have e1:planX X n = (X.ds.flatMap fun d => lineD l d.view,0):=by unfold planX;rw [h1];simp only;rw [hd];rfl
  have e2:planXD X n = (X.ds.map (·.view)).map (planD l):=by unfold planXD;rw [h1];simp only;rw [hd];rfl
  rw [e1]
  refine ⟨rfl,fin _ dk hP.rules ?_ hP.turn hP.foot⟩
  rw [e2,hP.view,List.take_length,List.drop_length,List.map_nil,List.append_nil,List.map_map]
  rfl

open Go.RowKit
def EditX (w:World) (X:DuoX) (e:Ending) (w' : World):Prop:=e = .returned (.bool true)∧∃ X',DuoXAt w' X'∧DuoXStep w X w' X'
theorem EditX.of {w:World} {X:DuoX} (h:DuoXAt w X) {e:Ending} {w' : World} (hE:EditOut w X.D e w'):EditX w X e w':=by
 obtain ⟨he,D',h1,h2⟩:=hE
 exact ⟨he,_,duoX_lift h h1 h2⟩
set_option maxHeartbeats 4000000 in
set_option maxRecDepth 50000 in
theorem asks_plan (X:DuoX) (Wn N M:Int) (S T:Str) (L:Value) (w:World) (hX:DuoXAt w X) :
  Calls Tryz.prog 70 #[pairV X.D,opV 11 Wn N M S T L] w fun e w' => EditX w X e w':=by
 obtain ⟨w1,hw1,hA1,hb1,hsz1⟩:=args_box w X.D 11 Wn N M S T L
 have hX1:DuoXAt w1 X:=hX.below hb1
 have C:=Hid.mk' (progPlan hX1 N)
 have HA1:=Hid.mk' hA1
 have HB1:=Hid.mk' hb1
 have HX1:=Hid.mk' hX1
 have HX:=Hid.mk' hX
 have HW1:=Hid.mk' hw1
 clear hA1 hb1 hX1 hw1 hX
 obtain ⟨o,ho⟩ : ∃ o,planX X N = o:=⟨_,rfl⟩
 obtain ⟨o1,o2⟩:=o
 have HO:=Hid.mk' ho
 rw [ho] at C
 clear ho
 go_enter Tryz.func70,Tryz.ntmps70
 go_wp2_with fail
 rw [← HW1.out]
 refine Calls.mono (show Calls _ _ _ _ _ from C.out) ?_
 rintro e w2 ⟨rfl,Rs',hp⟩
 have hk0:∀ k,w.heap.size ≤ k→k < w1.heap.size→w2.heap[k]? = w1.heap[k]?:=fun k h1 h2 => hp.kept HX1.out h2 fun h3 => by
  have:=HX.out.prog.lt h3
  omega
 have e0:=hk0 w.heap.size (Nat.le_refl _) (by omega)
 have e1:=hk0 (w.heap.size + 1) (by omega) (by omega)
 have cN:w2.cell? ⟨w.heap.size + 1,2,none⟩ = some (.int .i64 N):=(World.cell?_of_block (a:=⟨w.heap.size + 1,2,none⟩) e1).trans ((blk_cell HA1.out.op 2).trans rfl)
 have cB:w2.cell? ⟨w.heap.size,1,none⟩ = some (ptrV X.D.b):=(World.cell?_of_block (a:=⟨w.heap.size,1,none⟩) e0).trans ((blk_cell HA1.out.pair 1).trans rfl)
 have hz2:w.heap.size + 1 < w2.heap.size:=by have:=hp.turn.size;omega
 have CR:=Hid.mk' (docPlan HX1.out N hp)
 rw [HO.out] at CR
 clear hp hk0 e0 e1 C
 go_wp2_with fail
 refine Calls.mono (show Calls _ _ _ _ _ from CR.out) ?_
 rintro e w3 ⟨rfl,X',h1,h2⟩
 have RR:Hid (∃ X',DuoXAt w3 X'∧DuoXStep w X w3 X'):=⟨X',h1,DuoXStep.before HB1.out h2⟩
 clear h1 h2 CR cN cB
 go_wp2_with (go_at_call 68;refine (num_any _ _).mono ?_;rintro e w4 ⟨rfl,rfl⟩)
 go_ret
 exact ⟨by first | rfl | simp,RR.out⟩

open Go.RowKit
theorem progRule {w:World} {X:DuoX} (h:DuoXAt w X) {nm:Str} {xs:List Str} {nv:Value} (hN:NamesAt w nv xs) (hmx:MaxOk w) (hl:nm.length ≤ maxLen) :
  Calls Tryz.prog 37 #[ptrV X.D.B.sb,SV nm,nv] w fun e w2 => e = .returned (.int .i64 (ruleDE (X.ds.map (·.view)) nm xs))∧∃ Rs',ProgTurn w X w2 Rs' (ruleDV (X.ds.map (·.view)) nm xs):=by
 refine (storeRule_any X.D.B.sb X.D.B.rr X.Rs nm xs nv w ((blk_cell h.duo.ok.at'.store 5).trans rfl) h.prog hN hmx hl).mono ?_
 rintro e w2 ⟨rfl,h1⟩
 rw [tied_err h.tie]
 exact ⟨rfl,RulesOut.prog h1 (tied_rule h.tie nm xs)⟩
theorem docRule_of {w w2 w3:World} {X:DuoX} {Rs' : List RuleP} {nm:Str} {xs:List Str} {e:Ending} (h:DuoXAt w X) (hp:ProgTurn w X w2 Rs' (ruleDV (X.ds.map (·.view)) nm xs)) (hO:DRuleOut w2 X.D.b (.int .i64 X.D.r.limit) (.int .i64 X.D.r.made) X.D.va X.D.vr X.ds nm xs e w3) :
  e = .returned (.int .i64 (ruleDE (X.ds.map (·.view)) nm xs))∧∃ X',DuoXAt w3 X'∧DuoXStep w X w3 X':=by
 obtain ⟨he,vr',ds',h1,h2,h3,h4,h5⟩:=hO
 refine ⟨he,_,duoX_rules (O':=fun k => k = X.D.b) h hp.rules hp.turn hp.foot h1 h2 ?_ h5 (by rw [h3];exact hp.tie)⟩
 exact ⟨h4.os,h4.tape,h4.output,h4.size,fun k hk hn => h4.blk k hk fun h6 => hn (.inl h6),fun k hk => .inl (.inl hk)⟩

open Go.RowKit
def flatX (Ds:List DuoX):List Value:=Ds.flatMap fun D => [ptrV D.D.B.sb,ptrV D.D.b]
theorem flatX_app (Ds:List DuoX) (D:DuoX):flatX (Ds ++ [D]) = flatX Ds ++ [ptrV D.D.B.sb,ptrV D.D.b]:=by simp [flatX]
theorem flatX_get (Ds:List DuoX) (k:Nat) (h:k < Ds.length):(flatX Ds)[k * 2]? = some (ptrV Ds[k].D.B.sb)∧(flatX Ds)[k * 2 + 1]? = some (ptrV Ds[k].D.b):=by
 induction Ds generalizing k with
 | nil => simp at h
 | cons f t ih =>
  cases k with
  | zero => simp [flatX]
  | succ k =>
   have:=ih k (by simpa using h)
   simp only [flatX,List.flatMap_cons,List.getElem_cons_succ] at *
   rw [show (k + 1) * 2 = k * 2 + 2 from by omega,show k * 2 + 2 + 1 = (k * 2 + 1) + 2 from by omega]
   simpa using this
structure LawAtX (base:Nat) (w:World) (g:Nat) (v:Value) (Ds:List DuoX) (m:Nat):Prop where
 blk:w.heap[g]? = some (.cells #[v] 75 (0,0))
 row:w.ownsRow base 143 2 v Ds.length (flatX Ds)
 duos:∀ D ∈ Ds,DuoXAt w D
 apart:Ds.Pairwise fun D E => ∀ k,D.own k→¬ E.own k
 free:∀ D ∈ Ds,∀ k,D.own k→k ≠ g∧v.ownBlock ≠ some k∧base ≤ k
 gb:base ≤ g
 made:∀ D ∈ Ds,D.D.r.made ≤ m
 len:Ds.length ≤ m
 mx:MaxOk w
 mb:0 < base
theorem LawAtX.sep {base:Nat} {w:World} {g:Nat} {v:Value} {Ds:List DuoX} {m:Nat} (h:LawAtX base w g v Ds m):v.ownBlock ≠ some g:=by
 intro e
 obtain ⟨c,hc⟩:=row_type h.row e
 rw [h.blk] at hc;simp at hc
theorem foot_nilX {rr k:Nat} (h:Foot rr [] k):k = rr:=by
 rcases h with (h | ⟨R,hR,_⟩) | ⟨R,hR,_⟩
 ·exact h
 ·cases hR
 ·cases hR
theorem rules_nilX {w:World} {rr:Nat} (h:w.heap[rr]? = some (.map #[] 0)):RulesAt w rr [] :=
 ⟨⟨#[],0,h,rfl,MapKept.stamped_empty 0⟩,by simp,by simp,by simp,by simp,by simp,by simp,by simp⟩
theorem docR_nil {k:Nat} (h:docR (.slice none 0 0) [] k):False:=by
 rcases h with h | ⟨d,hd,_⟩
 ·simp [Value.ownBlock] at h
 ·cases hd
theorem ref_newX {w w' : World} {c:Nat} {b:Nat} {va:Value} {B:Bank} (hD:DuoAt w' ⟨B,b,newR c,va,.slice none 0 0,[(0,.slice none 0 0)]⟩) (hb:w.heap.size ≤ b) (hB:Below w.heap.size w w') (hf:∀ k,va.ownBlock = some k→w.heap.size ≤ k) (hm:w.heap[B.rr]? = some (.map #[] 0)) (hn:¬ B.own B.rr) :
  DuoXAt w' ⟨⟨B,b,newR c,va,.slice none 0 0,[(0,.slice none 0 0)]⟩,[],[]⟩:=by
 have hl:B.rr < w.heap.size:=(Array.getElem?_eq_some_iff.1 hm).1
 refine ⟨hD,rules_nilX ((hB.block _ hl).trans hm),⟨World.ownsRow_nil _ _ _ _,by simp,by simp,by simp,by simp,by simp⟩,tied_nil,?_,fun k _ hd => docR_nil hd⟩
 rintro k (hk | hk) ho
 ·have hk:k = B.rr:=foot_nilX hk
  subst hk
  rcases ho with h | h | h | ⟨x,hx,h⟩
  ·exact hn h
  ·have h:B.rr = b:=h;omega
  ·have:=hf B.rr h;omega
  ·have hx:x ∈ [((0:Nat),Value.slice none 0 0)]:=hx
   simp at hx;subst hx;simp [Value.ownBlock] at h
 ·exact docR_nil hk
theorem LawAtX.more {base:Nat} {w w2 w3 w5:World} {g:Nat} {v v' : Value} {Ds:List DuoX} {m:Nat} {D:DuoX} (h:LawAtX base w g v Ds m) (hb:Below w.heap.size w w2) (hD:DuoXAt w2 D) (hn:∀ k,D.own k→w.heap.size ≤ k) (hm:D.D.r.made ≤ m + 1)
  (hrow:w3.ownsRow base 143 2 v' (Ds.length + 1) (flatX Ds ++ [ptrV D.D.B.sb,ptrV D.D.b])) (hg:w2.grownBy w3 v.ownBlock) (hmv:Moved w2 v v') (hs:Set1 w3 w5 g (.cells #[v'] 75 (0,0))):LawAtX base w5 g v' (Ds ++ [D]) (m + 1)∧Below base w w5:=by
 have hgl:g < w.heap.size:=(Array.getElem?_eq_some_iff.1 h.blk).1
 have hbase:base ≤ w.heap.size:=by have:=h.gb;omega
 have hvl:∀ k,v.ownBlock = some k→base ≤ k∧k < w.heap.size:=fun k hk => h.row.lt k hk
 have hown2:∀ E ∈ Ds ++ [D],∀ k,E.own k→k ≠ g∧v.ownBlock ≠ some k∧base ≤ k∧k < w2.heap.size:=by
  intro E hE k hk
  simp only [List.mem_append,List.mem_singleton] at hE
  rcases hE with hE | rfl
  ·have h1:=h.free E hE k hk
   have h2:=(h.duos E hE).own_lt hk
   have:=hb.size
   exact ⟨h1.1,h1.2.1,h1.2.2,by omega⟩
  ·have h1:=hn k hk
   have h2:=hD.own_lt hk
   exact ⟨by omega,fun e => by have:=hvl k e;omega,by omega,h2⟩
 have hsame:∀ k,k < w2.heap.size→k ≠ g→v.ownBlock ≠ some k→w5.heap[k]? = w2.heap[k]?:=fun k h1 h2 h3 => (hs.other k h2).trans (hg.block k h1 (Ne.symm h3))
 have hv' : v'.ownBlock ≠ some g:=by
  intro e
  rcases hmv g e with h1 | h1
  ·exact h.sep h1
  ·have:=hb.size;omega
 have hBel:Below base w w5:=by
  refine ⟨hs.os.trans (hg.os.trans hb.os),hs.tape.trans (hg.tape.trans hb.tape),hs.output.trans (hg.output.trans hb.output),by rw [hs.size];exact Nat.le_trans hb.size hg.size,?_⟩
  intro k hk
  have h1:k ≠ g:=by have:=h.gb;omega
  have h2:v.ownBlock ≠ some k:=fun e => by have:=(hvl k e).1;omega
  rw [hsame k (by have:=hb.size;omega) h1 h2,hb.block k (by omega)]
 refine ⟨⟨hs.here,?_,?_,?_,?_,h.gb,?_,?_,h.mx.below hBel h.mb,h.mb⟩,hBel⟩
 ·rw [List.length_append,flatX_app]
  exact rowKept hrow (fun k hk => hs.other k (fun e => hv' (e ▸ hk)))
 ·intro E hE
  have h2:DuoXAt w2 E:=by
   have hE':=hE
   simp only [List.mem_append,List.mem_singleton] at hE
   rcases hE with hE | rfl
   ·exact (h.duos E hE).below hb
   ·exact hD
  exact h2.frame (by rw [hs.size];exact hg.size) fun k hk => by have h3:=hown2 E hE k hk;exact hsame k h3.2.2.2 h3.1 h3.2.1
 ·rw [List.pairwise_append]
  refine ⟨h.apart,by simp,?_⟩
  intro E hE F hF k hk hk2
  simp at hF;subst hF
  have h1:=(h.duos E hE).own_lt hk
  have h2:=hn k hk2
  omega
 ·intro E hE k hk
  have h3:=hown2 E hE k hk
  refine ⟨h3.1,fun e => ?_,h3.2.2.1⟩
  rcases hmv k e with h1 | h1
  ·exact h3.2.1 h1
  ·omega
 ·intro E hE
  simp only [List.mem_append,List.mem_singleton] at hE
  rcases hE with hE | rfl
  ·have:=h.made E hE;omega
  ·exact hm
 ·rw [List.length_append];have:=h.len;simp;omega
theorem LawAtX.mono {base:Nat} {w:World} {g:Nat} {v:Value} {Ds:List DuoX} {m m' : Nat} (h:LawAtX base w g v Ds m) (hm:m ≤ m'):LawAtX base w g v Ds m' :=
 ⟨h.blk,h.row,h.duos,h.apart,h.free,h.gb,fun D hD => Nat.le_trans (h.made D hD) hm,Nat.le_trans h.len hm,h.mx,h.mb⟩
theorem LawAtX.below {base:Nat} {w w' : World} {g:Nat} {v:Value} {Ds:List DuoX} {m:Nat} (h:LawAtX base w g v Ds m) (hb:Below w.heap.size w w'):LawAtX base w' g v Ds m :=
 ⟨(hb.block g (Array.getElem?_eq_some_iff.1 h.blk).1).trans h.blk,rowKept h.row (fun k hk => hb.block k (h.row.lt k hk).2),fun D hD => (h.duos D hD).below hb,h.apart,h.free,h.gb,h.made,h.len,h.mx.later hb,h.mb⟩
def MadeOutX (base:Nat) (w:World) (g:Nat) (Ds:List DuoX) (m:Nat) (e:Ending) (w' : World):Prop:=e = .returned (.bool true)∧∃ v' D,LawAtX base w' g v' (Ds ++ [D]) (m + 1)∧Below base w w'
set_option maxHeartbeats 2000000 in
set_option maxRecDepth 50000 in
theorem made_yesX (base:Nat) (g:Nat) (v:Value) (Ds:List DuoX) (m c:Nat) (w:World) (h:LawAtX base w g v Ds m) (h1:1 ≤ c) (h2:c ≤ 200) (hlen:Ds.length < 4000000000000) :
  Calls Tryz.prog 40 #[ptrV g,.int .i64 (c:Int)] w fun e w' => MadeOutX base w g Ds m e w':=by
 have HL:Hid _:=h
 have hgl:g < w.heap.size:=(Array.getElem?_eq_some_iff.1 h.blk).1
 clear h
 go_enter Tryz.func40,Tryz.ntmps40
 go_wp2_with fail
 refine (storeNew_any c w h1 h2).mono ?_
 rintro e w1 ⟨B,rfl,hO,hA,hb1,hf1,hrm,hrn,hrh⟩
 have HO:Hid _:=hO
 have HA:Hid _:=hA
 have HB1:Hid _:=hb1
 have HF1:Hid _:=hf1
 have HRM:=Hid.mk' (And.intro hrm (And.intro hrn hrh))
 clear hO hA hb1 hf1 hrm hrn hrh
 go_wp2_with fail
 refine (refNew_yes c w1 h1 h2).mono ?_
 rintro e w2 ⟨b,va,hbn,rfl,hR,hb2,hf2⟩
 have hD2:=ref_newX (ref_new HO.out HA.out hbn hR hb2 hf2) hbn hb2 hf2 HRM.out.1 HRM.out.2.1
 have hb12:Below w.heap.size w w2:=HB1.out.trans (hb2.mono HB1.out.size)
 have hn:∀ k,DuoX.own ⟨⟨B,b,newR c,va,.slice none 0 0,[(0,.slice none 0 0)]⟩,[],[]⟩ k→w.heap.size ≤ k:=by
  intro k hk
  have hs1:=HB1.out.size
  rcases hk with (h | h | h | ⟨x,hx,h⟩) | (h | h)
  ·exact HF1.out k h
  ·have h:k = b:=h;omega
  ·have:=hf2 k h;omega
  ·have hx:x ∈ [((0:Nat),Value.slice none 0 0)]:=hx
   simp at hx;subst hx;simp [Value.ownBlock] at h
  ·have h:k = B.rr:=foot_nilX h
   rw [h];exact HRM.out.2.2
  ·exact (docR_nil h).elim
 have hL2:=HL.out.below hb12
 have hform:∃ ao nn cap,v = .slice ao nn cap:=by
  rcases hL2.row.2 with ⟨h,_⟩ | ⟨g',cap,cur,h,_⟩
  ·exact ⟨_,_,_,h⟩
  ·exact ⟨_,_,_,h⟩
 obtain ⟨ao,nn,cap,rfl⟩:=hform
 have cg:w2.cell? ⟨g,0,none⟩ = some (.slice ao nn cap):=(blk_cell hL2.blk 0).trans rfl
 have HROW:Hid (w2.ownsRow base 143 2 (.slice ao nn cap) Ds.length (flatX Ds)):=hL2.row
 have HBLK:Hid _:=hL2.blk
 have HD2:Hid (DuoXAt w2 ⟨⟨B,b,newR c,va,.slice none 0 0,[(0,.slice none 0 0)]⟩,[],[]⟩):=hD2
 have HN:Hid _:=hn
 have HB12:Hid _:=hb12
 have hg2:g < w2.heap.size:=Nat.lt_of_lt_of_le hgl hb12.size
 have hbase2:base ≤ w2.heap.size:=by have:=HL.out.gb;omega
 have Hsep:Hid _:=hL2.sep
 clear hD2 hn hb12 hL2 hR hb2 hf2 hbn
 go_wp2_with (first | (go_at_call 68;refine (num_any _ _).mono ?_;rintro e w1 ⟨rfl,rfl⟩) | (at_builtin;refine wp_app_at 73 143 _ 2 16 Tryz.infoPair Tryz.underlying73 rfl (by decide) rfl (.tmp 36) (.tmp 40) rfl (base:=base) HROW.out [ptrV B.sb,ptrV b] rfl (by intro u hu;simp at hu;rcases hu with rfl | rfl <;> rfl) ⟨rfl,rfl,rfl,rfl⟩ rfl rfl (by unfold maxLen;omega) (by omega) hbase2 ?_;intro v' w3 hrow3 hg3 hmv3;have hblk3:=(hg3.block g hg2 (Ne.symm Hsep.out)).trans HBLK.out;have cg3:=(blk_cell hblk3 0).trans rfl;have cf3:=blk_free hblk3 0;obtain ⟨g',cap',rfl⟩:=row_some hrow3;have HROW3:=Hid.mk' hrow3;have HG3:=Hid.mk' hg3;have HMV3:=Hid.mk' hmv3;have HBLK3:=Hid.mk' hblk3;clear hrow3 hg3 hmv3 hblk3))
 go_ret
 have hs5:Set1 w3 (w3.setCell ⟨g,0,none⟩ (.slice (some ⟨g',0,none⟩) (Ds.length + 1) cap')) g (.cells #[.slice (some ⟨g',0,none⟩) (Ds.length + 1) cap'] 75 (0,0)):=setCell_set1 HBLK3.out _
 obtain ⟨hL5,hb5⟩:=HL.out.more HB12.out HD2.out HN.out (by show 1 ≤ m + 1;omega) HROW3.out HG3.out HMV3.out hs5
 exact ⟨rfl,_,_,hL5,hb5⟩
end Go.Proofs.YtdcbgfhkfmohiaaGreatDoor
