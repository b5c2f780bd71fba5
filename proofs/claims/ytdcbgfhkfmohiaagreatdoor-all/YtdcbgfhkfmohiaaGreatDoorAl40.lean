/- Diff: the program's call. -/
import Derived.Test.YtdcbgfhkfmohiaaGreatDoorAl32
import Derived.Test.YtdcbgfhkfmohiaaGreatDoorAl39
namespace Go.Proofs.YtdcbgfhkfmohiaaGreatDoor
open Go.RowKit Go.Shelf
attribute [local go_sem] Oper.semAt_some
theorem diffR_none1 {r:RSt} {n m:Int} (h:findL r.all n = none):diffR r n m = ([],2):=by unfold diffR;rw [h]
theorem diffR_none2 {r:RSt} {n m:Int} (h:findL r.all m = none):diffR r n m = ([],2):=by unfold diffR;rw [h];split <;> simp_all
theorem diffR_go {r:RSt} {n m:Int} {l k:List Fl} (h:findL r.all n = some l) (h' : findL r.all m = some k):diffR r n m = (diffT l k,0):=by unfold diffR;rw [h,h']
def lineM (x:Str × Nat):Str:=UInt8.ofNat x.2 :: x.1 ++ [10]
theorem diffT_lines {A B:Ents} (hA:WFE A) (hB:WFE B) (h5:heightE A ≤ 5) (h5' : heightE B ≤ 5):diffT (toF (filesE A)) (toF (filesE B)) = (chgS 6 [] (some (.dir A)) (some (.dir B))).flatMap lineM:=by
 have h1:=diff_chg hA hB h5 h5'
 have h2:=chg_names 6 [] (some (.dir A)) (some (.dir B)) (by simp) (fits_root hA h5) (fits_root hB h5')
 rw [show joinP ([]:List Str) = [] from rfl] at h2
 unfold diffT
 rw [h1,h2]
 unfold toF
 simp only [List.flatMap_map,List.map_map,Function.comp_def]
 congr 1
theorem diffL_len (l m:List Fl):(diffL l m).length ≤ l.length + m.length:=by
 have hA:∀ (l both:List Fl),(l.foldl (diffA m) both).length ≤ both.length + l.length:=by
  intro l
  induction l with
  | nil => intro both;simp
  | cons f l ih =>
   intro both
   rw [List.foldl_cons,List.length_cons]
   have h1:=ih (diffA m both f)
   have h2:(diffA m both f).length ≤ both.length + 1:=by
    unfold diffA
    split
    ·exact putL_len_le _ _
    ·split
     ·omega
     ·exact putL_len_le _ _
   omega
 have hB:∀ (k both:List Fl),(k.foldl (diffB l) both).length ≤ both.length + k.length:=by
  intro k
  induction k with
  | nil => intro both;simp
  | cons f k ih =>
   intro both
   rw [List.foldl_cons,List.length_cons]
   have h1:=ih (diffB l both f)
   have h2:(diffB l both f).length ≤ both.length + 1:=by
    unfold diffB
    split
    ·exact putL_len_le _ _
    ·omega
   omega
 unfold diffL
 have h1:=hB m (l.foldl (diffA m) [])
 have h2:=hA l []
 simp at h2
 omega
theorem chgS_len (n:Nat):∀ (path:Str) (a b:Option Tree),fitsT n a→fitsT n b→∀ x ∈ chgS n path a b,x.1.length ≤ path.length + 9 * n:=by
 induction n with
 | zero => intro path a b _ _ x hx;simp [chgS] at hx
 | succ n ih =>
  intro path a b hfa hfb x hx
  have root:∀ (c:Option Tree),fitsT (n + 1) c→∀ e ∈ entsO c,e.1.length ≤ 8:=by
   intro c hc e he
   cases c with
   | none => simp [entsO] at he
   | some u =>
    cases u with
    | file d => simp [entsO] at he
    | dir es => exact (hc e he).2.1
  rw [chgS] at hx
  split at hx
  ·simp at hx
  ·rw [List.mem_append] at hx
   rcases hx with hx | hx
   ·split at hx
    ·simp at hx
    ·simp at hx;subst hx;simp
   ·rw [List.mem_flatMap] at hx
    obtain ⟨p,hp,hx⟩:=hx
    obtain ⟨h1,h2,h3⟩:=pair_fits hfa hfb p hp
    have h4:=ih _ _ _ h2 h3 x hx
    obtain ⟨m1,m2,m3⟩:=pairs_mem (Nat.le_refl _) p hp
    have h5:p.1.length ≤ 8:=by
     cases ht:p.2.1 with
     | some t => exact root a hfa _ (m1 t ht)
     | none =>
      cases hu:p.2.2 with
      | none => exact absurd hu (m3 ht)
      | some u =>
       obtain ⟨y,hy,e⟩:=m2 u hu
       rw [e];exact root b hfb _ hy
    have h6:(joinS path p.1).length ≤ path.length + 9:=by
     unfold joinS;split
     ·omega
     ·simp only [List.length_append,List.length_cons];omega
    omega
theorem flatM_len {α:Type} (f:α→Str) (c:Nat):∀ l:List α,(∀ x ∈ l,(f x).length ≤ c)→(l.flatMap f).length ≤ l.length * c
 | [],_ => by simp
 | x :: l,h => by
  rw [List.flatMap_cons,List.length_append,List.length_cons,Nat.add_mul]
  have h1:=h x (by simp)
  have h2:=flatM_len f c l (fun y hy => h y (by simp [hy]))
  omega
theorem chg_short {A B:Ents} (hA:WFE A) (hB:WFE B) (h5:heightE A ≤ 5) (h5' : heightE B ≤ 5) (hn:(filesE A).length ≤ 20) (hn' : (filesE B).length ≤ 20) :
  ∀ pre,pre <+: chgS 6 [] (some (.dir A)) (some (.dir B))→(pre.flatMap lineM).length ≤ 40 * 60∧∀ x ∈ pre,x.1.length ≤ 54:=by
 have h1:=diff_chg hA hB h5 h5'
 have h2:=chg_names 6 [] (some (.dir A)) (some (.dir B)) (by simp) (fits_root hA h5) (fits_root hB h5')
 rw [show joinP ([]:List Str) = [] from rfl] at h2
 have h3:=diffL_len (toF (filesE A)) (toF (filesE B))
 rw [h1] at h3
 have h4:(chgS 6 [] (some (.dir A)) (some (.dir B))).length ≤ 40:=by
  rw [h2]
  simp [toF] at h3 ⊢
  omega
 intro pre hpre
 have hx:∀ x ∈ pre,x.1.length ≤ 54:=fun x hx => by
  have:=chgS_len 6 [] _ _ (fits_root hA h5) (fits_root hB h5') x (hpre.subset hx)
  simpa using this
 refine ⟨?_,hx⟩
 have h6:=flatM_len lineM 60 pre (fun x hxm => by have:=hx x hxm;simp [lineM];omega)
 have h7:=hpre.length_le
 have:pre.length * 60 ≤ 40 * 60:=Nat.mul_le_mul_right _ (by omega)
 omega
theorem range_flat {α:Type} {n m:Nat} {g:Operand} {ps:Array Tmp} {assign body:Code} {Q:Exit→Act→World→Prop} {a:Act} {w:World} {gf:Nat} {lb:Array Value} (hg:a.eval g = .func (.func gf) #[] lb) (eg:∀ args w,(callFunc gf args).run Tryz.prog w = .ok (.enter gf args) w)
  {encs:α→Array Value} {xs:List α} {R:Nat→Prop} (hseq:SeqOf Tryz.prog gf lb encs xs R w) (hps:∀ x,(encs x).size = ps.size) (O:Nat→Prop) (hR:∀ k,R k→k < w.heap.size∧¬ O k)
  (I:List α→(Nat→Prop)→World→Prop) (hloc:∀ pre,Local w.heap.size (I pre)) (h0:I [] O w) (ins:Array Value→α→Array Value)
  (hassign:∀ l x W (K:Act→World→Prop),K { tmps:=ins a.tmps x,defers:=[] } W →
   assign.wpIn (Fence.wide.inRound l) m Tryz.prog (Exit.then K (fun _ _ _ => False)) { tmps:=(ps.zip (encs x)).foldl (fun t (p,v) => t.setIfInBounds p v) a.tmps,defers:=[] } W)
  (hbody:∀ l pre x O1 W2,w.heap.size ≤ l→pre ++ [x] <+: xs→I pre O1 W2→Turn O w W2 O1 →
   body.wpIn (Fence.wide.inRound l) m Tryz.prog (goesOn I (pre ++ [x]) O1 W2) { tmps:=ins a.tmps x,defers:=[] } W2)
  (hdone:∀ D O' W',w.heap.size ≤ D→I xs O' W'→¬ O' D→Turn O w W' O'→W'.heap[D]? = some (.deferred (some []))→Q .normal { a with defers:={ target:=.collected D,args:=#[] } :: a.defers } W') :
  (Code.rangeFunc g ps assign body).wpIn Fence.wide n Tryz.prog Q a w:=by
 refine range_outer (m:=m) hg eg hseq hps O hR I hloc h0 (fun x a' _ => a' = { tmps:=ins a.tmps x,defers:=[] }) ?_ ?_ hdone
 ·intro l pre x O1 W K _ _ hK
  exact hassign l x W K (hK _ _ (Below.refl _ _) rfl)
 ·rintro l r pre x O1 a' W' W2 h1 h2 h3 rfl _ _ _ h8 h9
  exact hbody l pre x O1 W2 h1 h2 h8 h9
end Go.Proofs.YtdcbgfhkfmohiaaGreatDoor

namespace Go.Proofs.YtdcbgfhkfmohiaaGreatDoor
open Go.RowKit Go.Shelf
attribute [local go_sem] Oper.semAt_some
theorem markT_small (a b:Option Tree):markT a b < 256:=by
 unfold markT
 split
 ·omega
 ·omega
 ·omega
 ·split <;> omega
theorem chgS_mark (n:Nat):∀ (path:Str) (a b:Option Tree),∀ x ∈ chgS n path a b,x.2 < 256:=by
 induction n with
 | zero => intro path a b x hx;simp [chgS] at hx
 | succ n ih =>
  intro path a b x hx
  rw [chgS] at hx
  split at hx
  ·simp at hx
  ·rw [List.mem_append] at hx
   rcases hx with hx | hx
   ·split at hx
    ·simp at hx
    ·simp at hx;subst hx;exact markT_small a b
   ·rw [List.mem_flatMap] at hx
    obtain ⟨p,hp,hx⟩:=hx
    exact ih _ _ _ x hx
set_option maxHeartbeats 8000000 in
set_option maxRecDepth 50000 in
theorem storeDiff_any (B:Bank) (r:RSt) (n m:Int) (w:World) (hO:Okay w B) (ha:Agree B r) :
  Calls Tryz.prog 27 #[ptrV B.sb,.int .i64 n,.int .i64 m] w fun e w' => DiffOut w (diffR r n m) e w':=by
 have s2:w.cell? ⟨B.sb,2,none⟩ = some (.map (some B.rs)):=(blk_cell hO.at'.store 2).trans rfl
 obtain ⟨v1,hl1,h1⟩:=snap_any hO ha n
 obtain ⟨v2,hl2,h2⟩:=snap_any hO ha m
 have L1:Hid _:=hl1
 have L2:Hid _:=hl2
 have H1:Hid _:=h1
 have H2:Hid _:=h2
 have HO:Hid _:=hO
 clear hl1 hl2 h1 h2 hO ha
 refine (callsIn_wide (n:=0)).1 ?_
 refine callsIn_of_wp_marks Tryz.func27 rfl trivial ?_ rfl
 refine (wpIn_wide (n:=0)).2 ?_
 simp only [Tryz.ntmps27,List.size_toArray,List.length_cons,List.length_nil,Nat.reduceAdd,Nat.reduceSub,Array.replicate_succ,Array.replicate_zero,List.push_toArray,List.append_toArray,List.nil_append,List.cons_append]
 go_wp2
 refine wp_region_quiet_lit (by kernel_rfl) (by kernel_rfl) ?_
 quiet_step (fail)
 quiet_step (fail)
 quiet_step (fail)
 quiet_step (fail)
 quiet_step (fail)
 refine quiet_lookup rfl 82 (.tmp 16) (.tmp 17) rfl _ _ _ rfl rfl (fun W hW => L1.out W hW) ?_
 quiet_step (fail)
 quiet_step (fail)
 quiet_step (fail)
 quiet_step (fail)
 quiet_step (fail)
 refine quiet_lookup rfl 82 (.tmp 22) (.tmp 23) rfl _ _ _ rfl rfl (fun W hW => L2.out W hW) ?_
 quiet_step (fail)
 quiet_step (fail)
 refine wpQuiet_nil ?_
 intro _ hw'
 obtain ⟨nq,hw''⟩:=hw'
 subst hw''
 have HBq:Hid (Below w.heap.size w (w.drewN nq)):=below_drewN (Below.refl _ _) _
 have HOq:Hid (Okay (w.drewN nq) B):=HO.out.frame fun _ _ => rfl
 have HSz:Hid ((w.drewN nq).heap.size = w.heap.size):=rfl
 clear s2 L1 L2
 generalize w.drewN nq = wq at *
 rcases H1.out with ⟨rfl,hf1⟩ | ⟨es1,k1,hk1,rfl,hf1⟩
 ·have R:Hid (DiffOut w (diffR r n m) (.returned (.tuple #[SV [],.int .i64 2])) wq):=by rw [Hid,diffR_none1 hf1];exact ⟨rfl,HBq.out⟩
  clear H1 H2 HO HBq hf1
  go_wp2
  exact ⟨_,results_tmp2 (t:=6) (u:=7) rfl _ _ _,R.out⟩
 ·rcases H2.out with ⟨rfl,hf2⟩ | ⟨es2,k2,hk2,rfl,hf2⟩
  ·have R:Hid (DiffOut w (diffR r n m) (.returned (.tuple #[SV [],.int .i64 2])) wq):=by rw [Hid,diffR_none2 hf2];exact ⟨rfl,HBq.out⟩
   clear H1 H2 HO HBq hf1 hf2 hk1
   generalize B.ad (.dir es1) = b1 at *
   go_wp2
   exact ⟨_,results_tmp2 (t:=6) (u:=7) rfl _ _ _,R.out⟩
  ·have w1:=HO.out.wf _ hk1
   have w2:=HO.out.wf _ hk2
   have HG:Hid (diffR r n m = ((chgS 6 [] (some (.dir es1)) (some (.dir es2))).flatMap lineM,0)):=by rw [Hid,diffR_go hf1 hf2,diffT_lines w1.1 w2.1 w1.2.2 w2.2.2]
   have HS:Hid _:=chg_short w1.1 w2.1 w1.2.2 w2.2.2 w1.2.1 w2.2.1
   have hd1:es1 ∈ B.ds:=HO.out.at'.roots _ hk1
   have hd2:es2 ∈ B.ds:=HO.out.at'.roots _ hk2
   have HF1:Hid _:=fits_root w1.1 w1.2.2
   have HF2:Hid _:=fits_root w2.1 w2.2.2
   clear H1 H2 hf1 hf2 HO w1 w2 hk1 hk2
   have HC:=changes_any ([],dirV (B.ad (.dir es1))) ([],dirV (B.ad (.dir es2))) []
   obtain ⟨b1,hb1⟩ : ∃ b1,B.ad (.dir es1) = b1:=⟨_,rfl⟩
   obtain ⟨b2,hb2⟩ : ∃ b2,B.ad (.dir es2) = b2:=⟨_,rfl⟩
   rw [hb1,hb2] at HC
   have HB1:Hid _:=hb1
   have HB2:Hid _:=hb2
   simp only [hb1,hb2]
   clear hb1 hb2
   go_wp2_with (go_at_call 46;refine (HC _ rfl rfl).mono ?_;rintro e w' ⟨rfl,rfl⟩)
   have n0:=heap_alloc_new wq (.cells #[.pointer none,.slice none 0 0] 94)
   have h0:Below wq.heap.size wq (wq.alloc (.cells #[.pointer none,.slice none 0 0] 94)):=(Below.refl _ wq).alloc (Nat.le_refl _) _
   have hz0:(wq.alloc (.cells #[.pointer none,.slice none 0 0] 94)).heap.size = wq.heap.size + 1:=by simp
   generalize wq.alloc (.cells #[.pointer none,.slice none 0 0] 94) = wb at *
   have tb:=three_blocks wb (.cells #[SV [],dirV b1] 101) (.cells #[SV [],dirV b2] 101) (.cells #[SV []] 9)
   generalize hW5:((wb.alloc (.cells #[SV [],dirV b1] 101)).alloc (.cells #[SV [],dirV b2] 101)).alloc (.cells #[SV []] 9) = w5 at *
   have hs5:wb.heap.size + 3 ≤ w5.heap.size:=by rw [← hW5];simp
   clear hW5 HC
   have h5:Below wq.heap.size wq w5:=h0.trans (tb.2.2.2.mono (by omega))
   have HD5:Hid (w5.heap[wq.heap.size]? = some (.cells #[.pointer none,.slice none 0 0] 94 (0,0))):=(tb.2.2.2.block _ (by omega)).trans n0
   have HBank:Hid (BankAt w5 B):=(HOq.out.below h5).at'
   have CH:Hid (ChgAt w5 B [] [] (some (.dir es1)) (some (.dir es2)) wb.heap.size (wb.heap.size + 1) (wb.heap.size + 2)) :=
    ⟨HBank.out,hd1,hd2,by rw [← HB1.out] at tb;exact tb.1,by rw [← HB2.out] at tb;exact tb.2.1,tb.2.2.1⟩
   have SQ:=changes_seq B 6 [] [] (some (.dir es1)) (some (.dir es2)) wb.heap.size (wb.heap.size + 1) (wb.heap.size + 2) w5 CH.out (by simp) (by simp) (by simp) (by simp) HF1.out HF2.out
   rw [show joinS [] [] = [] from rfl] at SQ
   generalize hxs:chgS 6 [] (some (.dir es1)) (some (.dir es2)) = xs at *
   have H5:Hid (Below w.heap.size w w5):=HBq.out.trans (h5.mono (by rw [HSz.out];exact Nat.le_refl _))
   have hbw:Hid (w.heap.size ≤ wq.heap.size):=by rw [Hid,HSz.out];exact Nat.le_refl _
   have OWN:Hid (∀ k,B.own k→k < wq.heap.size):=fun k hk => HOq.out.at'.own_lt hk
   have MK:Hid (∀ x ∈ xs,x.2 < 256):=by rw [Hid,← hxs];exact chgS_mark 6 [] _ _
   have HXS:Hid _:=hxs
   rw [hz0] at SQ hs5
   clear hxs
   clear tb n0 h0 h5 HBank CH hd1 hd2 HF1 HF2 HOq
   refine (wpIn_wide (n:=0)).1 ?_
   refine range_flat (m:=0) (α:=Str × Nat) (gf:=71) (lb:=#[ptrV (wq.heap.size + 1),ptrV (wq.heap.size + 1 + 1),ptrV (wq.heap.size + 1 + 2)]) rfl (enters_of Tryz.func71 (by kernel_rfl) rfl)
    SQ (fun _ => rfl) (fun k => k = wq.heap.size) ?hR
    (fun pre O1 V => Bld wq.heap.size (pre.flatMap lineM) O1 V∧w5.heap.size ≤ V.heap.size) (fun pre => (Bld.local wq.heap.size wq.heap.size _ (Nat.le_refl _)).mono (by omega))
    ⟨Bld.new HD5.out,Nat.le_refl _⟩
    (fun t z => ((((t.setIfInBounds 38 (SV z.1)).setIfInBounds 39 (.int .u8 z.2)).setIfInBounds 11 (SV z.1)).setIfInBounds 12 (.int .u8 z.2))) ?assign ?body ?done
   case hR =>
    rintro k (rfl | rfl | rfl | hk)
    ·exact ⟨by omega,by omega⟩
    ·exact ⟨by omega,by omega⟩
    ·exact ⟨by omega,by omega⟩
    ·have:=OWN.out k hk
     exact ⟨by omega,by omega⟩
   case assign =>
    intro l x V K hK
    gi_wp2
    exact hK
   case body =>
    rintro l pre z O1 V2 hl hpre ⟨hB2',hs2⟩ ht2
    have hz:z ∈ xs:=by obtain ⟨rr,hrr⟩:=hpre;rw [← hrr];simp
    have hsh:=HS.out pre ((List.prefix_append pre [z]).trans hpre)
    have hsh2:=(HS.out _ hpre).2 z (by simp)
    have hmk:=MK.out z hz
    have C1:Hid (Calls Tryz.prog 47 #[ptrV wq.heap.size,.int .u8 z.2] V2 fun e w' => e = .returned .nilIface∧∃ O',Bld wq.heap.size (pre.flatMap lineM ++ [UInt8.ofNat z.2]) O' w'∧Turn O1 V2 w' O'):=by
     have:=writeByte_any wq.heap.size (pre.flatMap lineM) (UInt8.ofNat z.2) O1 V2 hB2' (by omega)
     rw [show (((UInt8.ofNat z.2).toNat:Nat):Int) = (z.2:Int) by simp;omega] at this
     exact this
    have HP:Hid (Turn (fun k => k = wq.heap.size) w5 V2 O1∧w5.heap.size ≤ V2.heap.size):=⟨ht2,hs2⟩
    have HL:Hid ((pre.flatMap lineM).length ≤ 40 * 60∧z.1.length ≤ 54):=⟨hsh.1,hsh2⟩
    clear hB2' hs2 ht2 hpre hz hsh hsh2
    simp only [List.setIfInBounds_toArray,List.set_cons_zero,List.set_cons_succ]
    gi_wp2_with fail
    refine ⟨trivial,(by first | rfl | (intro h;cases h)),(CallsIn.inRound l (callsIn_wide.2 C1.out)).mono ?_⟩
    rintro e V3 ⟨rfl,O3,hB3,ht3⟩
    have C2:Hid _:=writeString_any wq.heap.size _ z.1 O3 V3 hB3 (by have:=HL.out;simp only [List.length_append,List.length_singleton];omega)
    have HT3:Hid _:=ht3
    clear hB3 ht3 C1
    gi_wp2_with fail
    refine ⟨trivial,(by first | rfl | (intro h;cases h)),(CallsIn.inRound l (callsIn_wide.2 C2.out)).mono ?_⟩
    rintro e V4 ⟨rfl,O4,hB4,ht4⟩
    have C3:Hid _:=writeByte_any wq.heap.size _ 10 O4 V4 hB4 (by have:=HL.out;simp only [List.length_append,List.length_singleton];omega)
    have HT4:Hid _:=ht4
    clear hB4 ht4 C2
    gi_wp2_with fail
    refine ⟨trivial,(by first | rfl | (intro h;cases h)),(CallsIn.inRound l (callsIn_wide.2 C3.out)).mono ?_⟩
    rintro e V5 ⟨rfl,O5,hB5,ht5⟩
    have R:Hid (∃ O',(Bld wq.heap.size ((pre ++ [z]).flatMap lineM) O' V5∧w5.heap.size ≤ V5.heap.size)∧Turn O1 V2 V5 O'):=by
     have ht:=(HT3.out.trans HT4.out).trans ht5
     refine ⟨O5,⟨?_,Nat.le_trans HP.out.2 ht.size⟩,ht⟩
     have e:(pre ++ [z]).flatMap lineM = pre.flatMap lineM ++ [UInt8.ofNat z.2] ++ z.1 ++ [10]:=by simp [lineM,List.flatMap_append]
     rw [e];exact hB5
    clear hB5 ht5 C3 HT3 HT4 HP
    gi_wp2
    exact R.out
   case done =>
    rintro D O' V' hD ⟨hB',hs'⟩ hnD ht hdef
    have C:=string_any wq.heap.size _ O' V' hB'
    have HT:Hid _:=ht
    have HN:Hid (¬ O' D):=hnD
    have HF:Hid _:=hdef
    clear hB' ht hnD hdef
    go_wp2_with fail
    refine C.mono ?_
    rintro e V6 ⟨rfl,hb6,hk6⟩
    have hdef6:V6.heap[D]? = some (.deferred (some [])):=(hk6 D HN.out).trans HF.out
    have R:Hid (DiffOut w (diffR r n m) (.returned (.tuple #[SV (xs.flatMap lineM),.int .i64 0])) (V6.putObj D (.deferred none))):=by
     rw [Hid,HG.out]
     refine ⟨rfl,?_⟩
     have hbv:Below w.heap.size w5 V':=⟨HT.out.os,HT.out.tape,HT.out.output,HT.out.size,fun k hk => HT.out.blk k (by have:=H5.out.size;omega) (fun e => by have:=hbw.out;omega)⟩
     have hb7:Below w.heap.size w V6:=(H5.out.trans hbv).trans (hb6.mono hbw.out)
     refine ⟨hb7.os,hb7.tape,hb7.output,by have:=hb7.size;simpa using this,fun k hk => (World.putObj_heap_other (by have:=H5.out.size;omega)).trans (hb7.block k hk)⟩
    clear C HT HN HF hb6 hk6 HS SQ HG
    go_wp2
    exact ⟨by simp,.inl ⟨_,_,rfl,run_takeDeferred hdef6,⟨_,results_tmp2 (t:=6) (u:=7) rfl _ _ _,R.out⟩⟩⟩
end Go.Proofs.YtdcbgfhkfmohiaaGreatDoor

namespace Go.Proofs.YtdcbgfhkfmohiaaGreatDoor
open Go.RowKit
set_option maxHeartbeats 4000000 in
set_option maxRecDepth 50000 in
theorem asks_diff (D:Duo) (Wn N M:Int) (S T:Str) (L:Value) (w:World) (hD:DuoAt w D) :
  Calls Tryz.prog 70 #[pairV D,opV 8 Wn N M S T L] w fun e w' => EditOut w D e w':=by
 have HD:Hid _:=hD
 clear hD
 obtain ⟨w1,hw1,hA1,hb1,hsz1⟩:=args_box w D 8 Wn N M S T L
 have hD1:DuoAt w1 D:=duo_below HD.out hb1
 have C:Hid (Calls Tryz.prog 27 #[ptrV D.B.sb,.int .i64 N,.int .i64 M] w1 fun e w' => DiffOut w1 (diffR D.r N M) e w'):=storeDiff_any D.B D.r N M w1 hD1.ok hD1.ag
 have HA1:Hid _:=hA1
 have HB1:Hid _:=hb1
 have HD1:Hid _:=hD1
 have HW1:Hid _:=hw1
 clear hA1 hb1 hD1 hw1
 go_enter Tryz.func70,Tryz.ntmps70
 go_wp2_with fail
 rw [← HW1.out]
 refine C.out.mono ?_
 rintro e w2 ⟨rfl,hb2⟩
 have hA2:=HA1.out.below hb2
 have hD2:DuoAt w2 D:=duo_below HD1.out hb2
 have CR:Hid (Calls Tryz.prog 103 #[.pointer (some ⟨D.b,0,none⟩),.int .i64 N,.int .i64 M] w2 fun e w' => DiffOut w2 (diffR D.r N M) e w'):=refDiff_any D.b D.r D.va D.vr D.sn N M w2 hD2.ref
 have cN:w2.cell? ⟨w.heap.size + 1,2,none⟩ = some (.int .i64 N):=(blk_cell hA2.op 2).trans rfl
 have cM:w2.cell? ⟨w.heap.size + 1,3,none⟩ = some (.int .i64 M):=(blk_cell hA2.op 3).trans rfl
 have cB:w2.cell? ⟨w.heap.size,1,none⟩ = some (ptrV D.b):=(blk_cell hA2.pair 1).trans rfl
 have HB2:Hid (Below w.heap.size w w2):=HB1.out.trans (hb2.mono HB1.out.size)
 clear hb2 hA2 hD2 C HA1 HD1
 generalize diffR D.r N M = o at *
 obtain ⟨o1,o2⟩:=o
 go_wp2_with fail
 refine CR.out.mono ?_
 rintro e w3 ⟨rfl,hb3⟩
 have hb4:Below w.heap.size w w3:=HB2.out.trans (hb3.mono HB2.out.size)
 have RR:Hid (∃ D',DuoAt w3 D'∧DuoStep w D w3 D'):=⟨D,duo_below HD.out hb4,DuoStep.of_below hb4⟩
 clear hb3 hb4 CR cN cM cB HB2
 go_wp2_with (go_at_call 68;refine (num_any _ _).mono ?_;rintro e w4 ⟨rfl,rfl⟩)
 go_ret
 exact ⟨by first | rfl | simp,RR.out⟩
theorem asks_ok8 {K Wn N M:Int} {S T:Str} {L:Value} (hK:K ≤ 8) (hS:S.length + 1 < maxLen):AsksOk K Wn N M S T L:=by
 intro h6 _ D w hD _ _
 rcases (show K = 7∨K = 8 by omega) with rfl | rfl
 ·exact asks_same D Wn N M S T L w hD hS
 ·exact asks_diff D Wn N M S T L w hD
end Go.Proofs.YtdcbgfhkfmohiaaGreatDoor
