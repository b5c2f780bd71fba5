/- Diff: the program's call. -/
import Derived.Test.YtdcbgfhkfmohiaaGreatDoorAl15
namespace Go.Proofs.YtdcbgfhkfmohiaaGreatDoor
open Go.RowKit Go.Shelf
attribute [local go_sem] Oper.semAt_some
theorem markT_small (a b:Option Tree):markT a b < 256:=by
 unfold markT
 split
 ·omega
 ·omega
 ·omega
 ·split <;> omega
theorem chgS_mark (n:Nat):∀ (path:Str) (a b:Option Tree),∀ x ∈ chgS n path a b,x.2 < 256:=by
 induction n with
 | zero => intro path a b x hx;simp [chgS] at hx
 | succ n ih =>
  intro path a b x hx
  rw [chgS] at hx
  split at hx
  ·simp at hx
  ·rw [List.mem_append] at hx
   rcases hx with hx | hx
   ·split at hx
    ·simp at hx
    ·simp at hx;subst hx;exact markT_small a b
   ·rw [List.mem_flatMap] at hx
    obtain ⟨p,hp,hx⟩:=hx
    exact ih _ _ _ x hx
set_option maxHeartbeats 8000000 in
set_option maxRecDepth 50000 in
theorem storeDiff_any (B:Bank) (r:RSt) (n m:Int) (w:World) (hO:Okay w B) (ha:Agree B r) :
  Calls Tryz.prog 27 #[ptrV B.sb,.int .i64 n,.int .i64 m] w fun e w' => DiffOut w (diffR r n m) e w':=by
 have s2:w.cell? ⟨B.sb,2,none⟩ = some (.map (some B.rs)):=(blk_cell hO.at'.store 2).trans rfl
 obtain ⟨v1,hl1,h1⟩:=snap_any hO ha n
 obtain ⟨v2,hl2,h2⟩:=snap_any hO ha m
 have L1:Hid _:=hl1
 have L2:Hid _:=hl2
 have H1:Hid _:=h1
 have H2:Hid _:=h2
 have HO:Hid _:=hO
 clear hl1 hl2 h1 h2 hO ha
 refine (callsIn_wide (n:=0)).1 ?_
 refine callsIn_of_wp_marks Tryz.func27 rfl trivial ?_ rfl
 refine (wpIn_wide (n:=0)).2 ?_
 simp only [Tryz.ntmps27,List.size_toArray,List.length_cons,List.length_nil,Nat.reduceAdd,Nat.reduceSub,Array.replicate_succ,Array.replicate_zero,List.push_toArray,List.append_toArray,List.nil_append,List.cons_append]
 go_wp2
 refine wp_region_quiet_lit (by kernel_rfl) (by kernel_rfl) ?_
 quiet_step (fail)
 quiet_step (fail)
 quiet_step (fail)
 quiet_step (fail)
 quiet_step (fail)
 refine quiet_lookup rfl 82 (.tmp 16) (.tmp 17) rfl _ _ _ rfl rfl (fun W hW => L1.out W hW) ?_
 quiet_step (fail)
 quiet_step (fail)
 quiet_step (fail)
 quiet_step (fail)
 quiet_step (fail)
 refine quiet_lookup rfl 82 (.tmp 22) (.tmp 23) rfl _ _ _ rfl rfl (fun W hW => L2.out W hW) ?_
 quiet_step (fail)
 quiet_step (fail)
 refine wpQuiet_nil ?_
 intro _ hw'
 obtain ⟨nq,hw''⟩:=hw'
 subst hw''
 have HBq:Hid (Below w.heap.size w (w.drewN nq)):=below_drewN (Below.refl _ _) _
 have HOq:Hid (Okay (w.drewN nq) B):=HO.out.frame fun _ _ => rfl
 have HSz:Hid ((w.drewN nq).heap.size = w.heap.size):=rfl
 clear s2 L1 L2
 generalize w.drewN nq = wq at *
 rcases H1.out with ⟨rfl,hf1⟩ | ⟨es1,k1,hk1,rfl,hf1⟩
 ·have R:Hid (DiffOut w (diffR r n m) (.returned (.tuple #[SV [],.int .i64 2])) wq):=by rw [Hid,diffR_none1 hf1];exact ⟨rfl,HBq.out⟩
  clear H1 H2 HO HBq hf1
  go_wp2
  exact ⟨_,results_tmp2 (t:=6) (u:=7) rfl _ _ _,R.out⟩
 ·rcases H2.out with ⟨rfl,hf2⟩ | ⟨es2,k2,hk2,rfl,hf2⟩
  ·have R:Hid (DiffOut w (diffR r n m) (.returned (.tuple #[SV [],.int .i64 2])) wq):=by rw [Hid,diffR_none2 hf2];exact ⟨rfl,HBq.out⟩
   clear H1 H2 HO HBq hf1 hf2 hk1
   generalize B.ad (.dir es1) = b1 at *
   go_wp2
   exact ⟨_,results_tmp2 (t:=6) (u:=7) rfl _ _ _,R.out⟩
  ·have w1:=HO.out.wf _ hk1
   have w2:=HO.out.wf _ hk2
   have HG:Hid (diffR r n m = ((chgS 6 [] (some (.dir es1)) (some (.dir es2))).flatMap lineM,0)):=by rw [Hid,diffR_go hf1 hf2,diffT_lines w1.1 w2.1 w1.2.2 w2.2.2]
   have HS:Hid _:=chg_short w1.1 w2.1 w1.2.2 w2.2.2 w1.2.1 w2.2.1
   have hd1:es1 ∈ B.ds:=HO.out.at'.roots _ hk1
   have hd2:es2 ∈ B.ds:=HO.out.at'.roots _ hk2
   have HF1:Hid _:=fits_root w1.1 w1.2.2
   have HF2:Hid _:=fits_root w2.1 w2.2.2
   clear H1 H2 hf1 hf2 HO w1 w2 hk1 hk2
   have HC:=changes_any ([],dirV (B.ad (.dir es1))) ([],dirV (B.ad (.dir es2))) []
   obtain ⟨b1,hb1⟩ : ∃ b1,B.ad (.dir es1) = b1:=⟨_,rfl⟩
   obtain ⟨b2,hb2⟩ : ∃ b2,B.ad (.dir es2) = b2:=⟨_,rfl⟩
   rw [hb1,hb2] at HC
   have HB1:Hid _:=hb1
   have HB2:Hid _:=hb2
   simp only [hb1,hb2]
   clear hb1 hb2
   go_wp2_with (go_at_call 46;refine (HC _ rfl rfl).mono ?_;rintro e w' ⟨rfl,rfl⟩)
   have n0:=heap_alloc_new wq (.cells #[.pointer none,.slice none 0 0] 94)
   have h0:Below wq.heap.size wq (wq.alloc (.cells #[.pointer none,.slice none 0 0] 94)):=(Below.refl _ wq).alloc (Nat.le_refl _) _
   have hz0:(wq.alloc (.cells #[.pointer none,.slice none 0 0] 94)).heap.size = wq.heap.size + 1:=by simp
   generalize wq.alloc (.cells #[.pointer none,.slice none 0 0] 94) = wb at *
   have tb:=three_blocks wb (.cells #[SV [],dirV b1] 101) (.cells #[SV [],dirV b2] 101) (.cells #[SV []] 9)
   generalize hW5:((wb.alloc (.cells #[SV [],dirV b1] 101)).alloc (.cells #[SV [],dirV b2] 101)).alloc (.cells #[SV []] 9) = w5 at *
   have hs5:wb.heap.size + 3 ≤ w5.heap.size:=by rw [← hW5];simp
   clear hW5 HC
   have h5:Below wq.heap.size wq w5:=h0.trans (tb.2.2.2.mono (by omega))
   have HD5:Hid (w5.heap[wq.heap.size]? = some (.cells #[.pointer none,.slice none 0 0] 94 (0,0))):=(tb.2.2.2.block _ (by omega)).trans n0
   have HBank:Hid (BankAt w5 B):=(HOq.out.below h5).at'
   have CH:Hid (ChgAt w5 B [] [] (some (.dir es1)) (some (.dir es2)) wb.heap.size (wb.heap.size + 1) (wb.heap.size + 2)) :=
    ⟨HBank.out,hd1,hd2,by rw [← HB1.out] at tb;exact tb.1,by rw [← HB2.out] at tb;exact tb.2.1,tb.2.2.1⟩
   have SQ:=changes_seq B 6 [] [] (some (.dir es1)) (some (.dir es2)) wb.heap.size (wb.heap.size + 1) (wb.heap.size + 2) w5 CH.out (by simp) (by simp) (by simp) (by simp) HF1.out HF2.out
   rw [show joinS [] [] = [] from rfl] at SQ
   generalize hxs:chgS 6 [] (some (.dir es1)) (some (.dir es2)) = xs at *
   have H5:Hid (Below w.heap.size w w5):=HBq.out.trans (h5.mono (by rw [HSz.out];exact Nat.le_refl _))
   have hbw:Hid (w.heap.size ≤ wq.heap.size):=by rw [Hid,HSz.out];exact Nat.le_refl _
   have OWN:Hid (∀ k,B.own k→k < wq.heap.size):=fun k hk => HOq.out.at'.own_lt hk
   have MK:Hid (∀ x ∈ xs,x.2 < 256):=by rw [Hid,← hxs];exact chgS_mark 6 [] _ _
   have HXS:Hid _:=hxs
   rw [hz0] at SQ hs5
   clear hxs
   clear tb n0 h0 h5 HBank CH hd1 hd2 HF1 HF2 HOq
   refine (wpIn_wide (n:=0)).1 ?_
   refine range_flat (m:=0) (α:=Str × Nat) (gf:=71) (lb:=#[ptrV (wq.heap.size + 1),ptrV (wq.heap.size + 1 + 1),ptrV (wq.heap.size + 1 + 2)]) rfl (enters_of Tryz.func71 (by kernel_rfl) rfl)
    SQ (fun _ => rfl) (fun k => k = wq.heap.size) ?hR
    (fun pre O1 V => Bld wq.heap.size (pre.flatMap lineM) O1 V∧w5.heap.size ≤ V.heap.size) (fun pre => (Bld.local wq.heap.size wq.heap.size _ (Nat.le_refl _)).mono (by omega))
    ⟨Bld.new HD5.out,Nat.le_refl _⟩
    (fun t z => ((((t.setIfInBounds 38 (SV z.1)).setIfInBounds 39 (.int .u8 z.2)).setIfInBounds 11 (SV z.1)).setIfInBounds 12 (.int .u8 z.2))) ?assign ?body ?done
   case hR =>
    rintro k (rfl | rfl | rfl | hk)
    ·exact ⟨by omega,by omega⟩
    ·exact ⟨by omega,by omega⟩
    ·exact ⟨by omega,by omega⟩
    ·have:=OWN.out k hk
     exact ⟨by omega,by omega⟩
   case assign =>
    intro l x V K hK
    gi_wp2
    exact hK
   case body =>
    rintro l pre z O1 V2 hl hpre ⟨hB2',hs2⟩ ht2
    have hz:z ∈ xs:=by obtain ⟨rr,hrr⟩:=hpre;rw [← hrr];simp
    have hsh:=HS.out pre ((List.prefix_append pre [z]).trans hpre)
    have hsh2:=(HS.out _ hpre).2 z (by simp)
    have hmk:=MK.out z hz
    have C1:Hid (Calls Tryz.prog 47 #[ptrV wq.heap.size,.int .u8 z.2] V2 fun e w' => e = .returned .nilIface∧∃ O',Bld wq.heap.size (pre.flatMap lineM ++ [UInt8.ofNat z.2]) O' w'∧Turn O1 V2 w' O'):=by
     have:=writeByte_any wq.heap.size (pre.flatMap lineM) (UInt8.ofNat z.2) O1 V2 hB2' (by omega)
     rw [show (((UInt8.ofNat z.2).toNat:Nat):Int) = (z.2:Int) by simp;omega] at this
     exact this
    have HP:Hid (Turn (fun k => k = wq.heap.size) w5 V2 O1∧w5.heap.size ≤ V2.heap.size):=⟨ht2,hs2⟩
    have HL:Hid ((pre.flatMap lineM).length ≤ 40 * 60∧z.1.length ≤ 54):=⟨hsh.1,hsh2⟩
    clear hB2' hs2 ht2 hpre hz hsh hsh2
    simp only [List.setIfInBounds_toArray,List.set_cons_zero,List.set_cons_succ]
    gi_wp2_with fail
    refine ⟨trivial,(by first | rfl | (intro h;cases h)),(CallsIn.inRound l (callsIn_wide.2 C1.out)).mono ?_⟩
    rintro e V3 ⟨rfl,O3,hB3,ht3⟩
    have C2:Hid _:=writeString_any wq.heap.size _ z.1 O3 V3 hB3 (by have:=HL.out;simp only [List.length_append,List.length_singleton];omega)
    have HT3:Hid _:=ht3
    clear hB3 ht3 C1
    gi_wp2_with fail
    refine ⟨trivial,(by first | rfl | (intro h;cases h)),(CallsIn.inRound l (callsIn_wide.2 C2.out)).mono ?_⟩
    rintro e V4 ⟨rfl,O4,hB4,ht4⟩
    have C3:Hid _:=writeByte_any wq.heap.size _ 10 O4 V4 hB4 (by have:=HL.out;simp only [List.length_append,List.length_singleton];omega)
    have HT4:Hid _:=ht4
    clear hB4 ht4 C2
    gi_wp2_with fail
    refine ⟨trivial,(by first | rfl | (intro h;cases h)),(CallsIn.inRound l (callsIn_wide.2 C3.out)).mono ?_⟩
    rintro e V5 ⟨rfl,O5,hB5,ht5⟩
    have R:Hid (∃ O',(Bld wq.heap.size ((pre ++ [z]).flatMap lineM) O' V5∧w5.heap.size ≤ V5.heap.size)∧Turn O1 V2 V5 O'):=by
     have ht:=(HT3.out.trans HT4.out).trans ht5
     refine ⟨O5,⟨?_,Nat.le_trans HP.out.2 ht.size⟩,ht⟩
     have e:(pre ++ [z]).flatMap lineM = pre.flatMap lineM ++ [UInt8.ofNat z.2] ++ z.1 ++ [10]:=by simp [lineM,List.flatMap_append]
     rw [e];exact hB5
    clear hB5 ht5 C3 HT3 HT4 HP
    gi_wp2
    exact R.out
   case done =>
    rintro D O' V' hD ⟨hB',hs'⟩ hnD ht hdef
    have C:=string_any wq.heap.size _ O' V' hB'
    have HT:Hid _:=ht
    have HN:Hid (¬ O' D):=hnD
    have HF:Hid _:=hdef
    clear hB' ht hnD hdef
    go_wp2_with fail
    refine C.mono ?_
    rintro e V6 ⟨rfl,hb6,hk6⟩
    have hdef6:V6.heap[D]? = some (.deferred (some [])):=(hk6 D HN.out).trans HF.out
    have R:Hid (DiffOut w (diffR r n m) (.returned (.tuple #[SV (xs.flatMap lineM),.int .i64 0])) (V6.putObj D (.deferred none))):=by
     rw [Hid,HG.out]
     refine ⟨rfl,?_⟩
     have hbv:Below w.heap.size w5 V':=⟨HT.out.os,HT.out.tape,HT.out.output,HT.out.size,fun k hk => HT.out.blk k (by have:=H5.out.size;omega) (fun e => by have:=hbw.out;omega)⟩
     have hb7:Below w.heap.size w V6:=(H5.out.trans hbv).trans (hb6.mono hbw.out)
     refine ⟨hb7.os,hb7.tape,hb7.output,by have:=hb7.size;simpa using this,fun k hk => (World.putObj_heap_other (by have:=H5.out.size;omega)).trans (hb7.block k hk)⟩
    clear C HT HN HF hb6 hk6 HS SQ HG
    go_wp2
    exact ⟨by simp,.inl ⟨_,_,rfl,run_takeDeferred hdef6,⟨_,results_tmp2 (t:=6) (u:=7) rfl _ _ _,R.out⟩⟩⟩
end Go.Proofs.YtdcbgfhkfmohiaaGreatDoor

namespace Go.Proofs.YtdcbgfhkfmohiaaGreatDoor
open Go.RowKit
set_option maxHeartbeats 4000000 in
set_option maxRecDepth 50000 in
theorem asks_diff (D:Duo) (Wn N M:Int) (S T:Str) (L:Value) (w:World) (hD:DuoAt w D) :
  Calls Tryz.prog 70 #[pairV D,opV 8 Wn N M S T L] w fun e w' => EditOut w D e w':=by
 have HD:Hid _:=hD
 clear hD
 obtain ⟨w1,hw1,hA1,hb1,hsz1⟩:=args_box w D 8 Wn N M S T L
 have hD1:DuoAt w1 D:=duo_below HD.out hb1
 have C:Hid (Calls Tryz.prog 27 #[ptrV D.B.sb,.int .i64 N,.int .i64 M] w1 fun e w' => DiffOut w1 (diffR D.r N M) e w'):=storeDiff_any D.B D.r N M w1 hD1.ok hD1.ag
 have HA1:Hid _:=hA1
 have HB1:Hid _:=hb1
 have HD1:Hid _:=hD1
 have HW1:Hid _:=hw1
 clear hA1 hb1 hD1 hw1
 go_enter Tryz.func70,Tryz.ntmps70
 go_wp2_with fail
 rw [← HW1.out]
 refine C.out.mono ?_
 rintro e w2 ⟨rfl,hb2⟩
 have hA2:=HA1.out.below hb2
 have hD2:DuoAt w2 D:=duo_below HD1.out hb2
 have CR:Hid (Calls Tryz.prog 103 #[.pointer (some ⟨D.b,0,none⟩),.int .i64 N,.int .i64 M] w2 fun e w' => DiffOut w2 (diffR D.r N M) e w'):=refDiff_any D.b D.r D.va D.vr D.sn N M w2 hD2.ref
 have cN:w2.cell? ⟨w.heap.size + 1,2,none⟩ = some (.int .i64 N):=(blk_cell hA2.op 2).trans rfl
 have cM:w2.cell? ⟨w.heap.size + 1,3,none⟩ = some (.int .i64 M):=(blk_cell hA2.op 3).trans rfl
 have cB:w2.cell? ⟨w.heap.size,1,none⟩ = some (ptrV D.b):=(blk_cell hA2.pair 1).trans rfl
 have HB2:Hid (Below w.heap.size w w2):=HB1.out.trans (hb2.mono HB1.out.size)
 clear hb2 hA2 hD2 C HA1 HD1
 generalize diffR D.r N M = o at *
 obtain ⟨o1,o2⟩:=o
 go_wp2_with fail
 refine CR.out.mono ?_
 rintro e w3 ⟨rfl,hb3⟩
 have hb4:Below w.heap.size w w3:=HB2.out.trans (hb3.mono HB2.out.size)
 have RR:Hid (∃ D',DuoAt w3 D'∧DuoStep w D w3 D'):=⟨D,duo_below HD.out hb4,DuoStep.of_below hb4⟩
 clear hb3 hb4 CR cN cM cB HB2
 go_wp2_with (go_at_call 68;refine (num_any _ _).mono ?_;rintro e w4 ⟨rfl,rfl⟩)
 go_ret
 exact ⟨by first | rfl | simp,RR.out⟩
theorem asks_ok8 {K Wn N M:Int} {S T:Str} {L:Value} (hK:K ≤ 8) (hS:S.length + 1 < maxLen):AsksOk K Wn N M S T L:=by
 intro h6 _ D w hD _ _
 rcases (show K = 7∨K = 8 by omega) with rfl | rfl
 ·exact asks_same D Wn N M S T L w hD hS
 ·exact asks_diff D Wn N M S T L w hD

open Go.RowKit
def laidL {T:Type} (run:T→Bool) (takes:T→T→Bool):List T→List T→Bool
 | [],items => items.isEmpty
 | p :: ps,items => if run p then (List.range (items.length + 1)).any fun k => laidL run takes ps (items.drop k) else match items with
  | [] => false
  | x :: xs => takes p x && laidL run takes ps xs
section
variable {T:Type} {run:T→Bool} {takes:T→T→Bool}
theorem laid_nil (xs:List T):laidL run takes [] xs = true ↔ xs = []:=by simp [laidL]
theorem laid_run {p:T} {ps xs:List T} (h:run p = true):laidL run takes (p :: ps) xs = true ↔ ∃ ys zs,xs = ys ++ zs∧laidL run takes ps zs = true:=by
 simp only [laidL,h,if_true,List.any_eq_true,List.mem_range]
 constructor
 ·rintro ⟨k,hk,hl⟩
  exact ⟨xs.take k,xs.drop k,(List.take_append_drop k xs).symm,hl⟩
 ·rintro ⟨ys,zs,rfl,hl⟩
  exact ⟨ys.length,by simp;omega,by simpa using hl⟩
theorem laid_one {p:T} {ps xs:List T} (h:run p = false):laidL run takes (p :: ps) xs = true ↔ ∃ y zs,xs = y :: zs∧takes p y = true∧laidL run takes ps zs = true:=by
 cases xs with
 | nil => simp [laidL,h]
 | cons x xs =>
  simp only [laidL,h,Bool.false_eq_true,if_false,Bool.and_eq_true,List.cons.injEq]
  constructor
  ·rintro ⟨h1,h2⟩;exact ⟨x,xs,⟨rfl,rfl⟩,h1,h2⟩
  ·rintro ⟨y,zs,⟨rfl,rfl⟩,h1,h2⟩;exact ⟨h1,h2⟩
theorem laid_snoc_run {p:T} (h:run p = true):∀ (ps xs:List T),laidL run takes (ps ++ [p]) xs = true ↔ ∃ ys zs,xs = ys ++ zs∧laidL run takes ps ys = true
 | [],xs => by
  rw [List.nil_append,laid_run h]
  constructor
  ·rintro ⟨ys,zs,rfl,hl⟩;exact ⟨[],ys ++ zs,rfl,(laid_nil _).2 rfl⟩
  ·rintro ⟨ys,zs,rfl,hl⟩;exact ⟨ys ++ zs,[],by simp,(laid_nil _).2 rfl⟩
 | q :: ps,xs => by
  rw [List.cons_append]
  cases hq:run q
  ·rw [laid_one hq]
   constructor
   ·rintro ⟨y,zs,rfl,h1,h2⟩
    obtain ⟨az,bs,rfl,h3⟩:=(laid_snoc_run h ps zs).1 h2
    exact ⟨y :: az,bs,rfl,(laid_one hq).2 ⟨y,az,rfl,h1,h3⟩⟩
   ·rintro ⟨ys,zs,rfl,h1⟩
    obtain ⟨y,az,rfl,h2,h3⟩:=(laid_one hq).1 h1
    exact ⟨y,az ++ zs,rfl,h2,(laid_snoc_run h ps _).2 ⟨az,zs,rfl,h3⟩⟩
  ·rw [laid_run hq]
   constructor
   ·rintro ⟨ys,zs,rfl,h1⟩
    obtain ⟨az,bs,rfl,h3⟩:=(laid_snoc_run h ps zs).1 h1
    exact ⟨ys ++ az,bs,by simp,(laid_run hq).2 ⟨ys,az,rfl,h3⟩⟩
   ·rintro ⟨ys,zs,rfl,h1⟩
    obtain ⟨az,bs,rfl,h3⟩:=(laid_run hq).1 h1
    exact ⟨az,bs ++ zs,by simp,(laid_snoc_run h ps _).2 ⟨bs,zs,rfl,h3⟩⟩
theorem laid_snoc_one {p:T} (h:run p = false):∀ (ps xs:List T),laidL run takes (ps ++ [p]) xs = true ↔ ∃ ys z,xs = ys ++ [z]∧takes p z = true∧laidL run takes ps ys = true
 | [],xs => by
  rw [List.nil_append,laid_one h]
  constructor
  ·rintro ⟨y,zs,rfl,h1,h2⟩
   obtain rfl:=(laid_nil _).1 h2
   exact ⟨[],y,rfl,h1,(laid_nil _).2 rfl⟩
  ·rintro ⟨ys,z,rfl,h1,h2⟩
   obtain rfl:=(laid_nil _).1 h2
   exact ⟨z,[],rfl,h1,(laid_nil _).2 rfl⟩
 | q :: ps,xs => by
  rw [List.cons_append]
  cases hq:run q
  ·rw [laid_one hq]
   constructor
   ·rintro ⟨y,zs,rfl,h1,h2⟩
    obtain ⟨az,b,rfl,h3,h4⟩:=(laid_snoc_one h ps zs).1 h2
    exact ⟨y :: az,b,rfl,h3,(laid_one hq).2 ⟨y,az,rfl,h1,h4⟩⟩
   ·rintro ⟨ys,z,rfl,h0,h1⟩
    obtain ⟨y,az,rfl,h2,h3⟩:=(laid_one hq).1 h1
    exact ⟨y,az ++ [z],rfl,h2,(laid_snoc_one h ps _).2 ⟨az,z,rfl,h0,h3⟩⟩
  ·rw [laid_run hq]
   constructor
   ·rintro ⟨ys,zs,rfl,h1⟩
    obtain ⟨az,b,rfl,h3,h4⟩:=(laid_snoc_one h ps zs).1 h1
    exact ⟨ys ++ az,b,by simp,h3,(laid_run hq).2 ⟨ys,az,rfl,h4⟩⟩
   ·rintro ⟨ys,z,rfl,h0,h1⟩
    obtain ⟨az,bs,rfl,h3⟩:=(laid_run hq).1 h1
    exact ⟨az,bs ++ [z],by simp,(laid_snoc_one h ps _).2 ⟨bs,z,rfl,h0,h3⟩⟩
def rowL (run:T→Bool) (takes:T→T→Bool) (ps xs:List T) (k:Nat):Bool:=laidL run takes ps (xs.take k)
theorem row_start (xs:List T) {k:Nat} (hk:k ≤ xs.length):rowL run takes [] xs k = decide (k = 0):=by
 rw [Bool.eq_iff_iff]
 unfold rowL
 rw [laid_nil,decide_eq_true_iff]
 constructor
 ·intro h
  have:=congrArg List.length h
  rw [List.length_take,List.length_nil,Nat.min_eq_left hk] at this
  exact this
 ·rintro rfl;simp
theorem row_run {p:T} (h:run p = true) (ps xs:List T) {k:Nat} (hk:k ≤ xs.length):rowL run takes (ps ++ [p]) xs k = (rowL run takes ps xs k || (decide (0 < k) && rowL run takes (ps ++ [p]) xs (k - 1))):=by
 rw [Bool.eq_iff_iff]
 simp only [Bool.or_eq_true,Bool.and_eq_true,decide_eq_true_iff]
 unfold rowL
 rw [laid_snoc_run h,laid_snoc_run h]
 constructor
 ·rintro ⟨ys,zs,e,hl⟩
  by_cases hz:zs = []
  ·subst hz;rw [List.append_nil] at e;rw [e];exact .inl hl
  ·have hlen:=congrArg List.length e
   have hz' : 0 < zs.length:=List.length_pos_iff.2 hz
   rw [List.length_take,Nat.min_eq_left hk,List.length_append] at hlen
   refine .inr ⟨by omega,ys,zs.take (k - 1 - ys.length),?_,hl⟩
   have:xs.take (k - 1) = (xs.take k).take (k - 1):=by rw [List.take_take,Nat.min_eq_left (by omega)]
   rw [this,e,List.take_append,List.take_of_length_le (by omega:ys.length ≤ k - 1)]
 ·rintro (hl | ⟨h0,ys,zs,e,hl⟩)
  ·exact ⟨xs.take k,[],by simp,hl⟩
  ·refine ⟨ys,zs ++ [xs[k - 1]'(by omega)],?_,hl⟩
   rw [← List.append_assoc,← e]
   conv => lhs;rw [show k = k - 1 + 1 by omega]
   exact List.take_succ_eq_append_getElem (by omega)
theorem row_one0 {p:T} (h:run p = false) (ps xs:List T):rowL run takes (ps ++ [p]) xs 0 = false:=by
 rw [Bool.eq_false_iff]
 unfold rowL
 rw [Ne,laid_snoc_one h]
 rintro ⟨ys,z,e,_⟩
 simp at e
theorem row_one {p:T} (h:run p = false) (ps xs:List T) {k:Nat} (hk:k < xs.length):rowL run takes (ps ++ [p]) xs (k + 1) = (takes p xs[k] && rowL run takes ps xs k):=by
 rw [Bool.eq_iff_iff]
 simp only [Bool.and_eq_true]
 unfold rowL
 rw [laid_snoc_one h,List.take_succ_eq_append_getElem hk]
 constructor
 ·rintro ⟨ys,z,e,h1,h2⟩
  obtain ⟨rfl,e2⟩:=List.append_inj' e rfl
  simp at e2
  rw [e2]
  exact ⟨h1,h2⟩
 ·rintro ⟨h1,h2⟩
  exact ⟨_,_,rfl,h1,h2⟩
theorem row_end (ps xs:List T):rowL run takes ps xs xs.length = laidL run takes ps xs:=by unfold rowL;rw [List.take_length]
end

open Go.RowKit
def BoolsAt (w:World) (g N:Nat) (f:Nat→Bool):Prop:=w.heap[g]? = some (.cells ((List.range N).map fun k => Value.bool (f k)).toArray 4 (0,0))
theorem BoolsAt.cell {w:World} {g N:Nat} {f:Nat→Bool} (h:BoolsAt w g N f) {k:Nat} (hk:k < N):w.cell? ⟨g,k,none⟩ = some (.bool (f k)):=by
 unfold BoolsAt at h
 simp [World.cell?,h,hk]
theorem BoolsAt.lt {w:World} {g N:Nat} {f:Nat→Bool} (h:BoolsAt w g N f):g < w.heap.size:=(Array.getElem?_eq_some_iff.1 h).1
theorem BoolsAt.frozen {w:World} {g N:Nat} {f:Nat→Bool} (h:BoolsAt w g N f) (k:Nat):w.frozen? ⟨g,k,none⟩ = false:=Lib.frozen_of_heap h k
theorem BoolsAt.set {w:World} {g N:Nat} {f:Nat→Bool} (h:BoolsAt w g N f) (k:Nat) (b:Bool):BoolsAt (w.setCell ⟨g,k,none⟩ (.bool b)) g N (fun j => if j = k then b else f j):=by
 unfold BoolsAt at h ⊢
 simp only [World.setCell,Array.getElem?_modify,if_true,h,Option.map_some]
 congr 2
 apply Array.ext'
 apply List.ext_getElem?
 intro j
 simp [List.getElem?_set]
 by_cases hj:j < N
 ·by_cases e:k = j
  ·subst e;simp [hj]
  ·have e' : ¬ j = k:=fun h => e h.symm
   simp [hj,e,e']
 ·simp [hj]
  intro e;omega
theorem BoolsAt.other {w:World} {g N:Nat} {f:Nat→Bool} (h:BoolsAt w g N f) {g' : Nat} (hg:g' ≠ g) (k:Nat) (v:Value):BoolsAt (w.setCell ⟨g',k,none⟩ v) g N f:=by
 unfold BoolsAt at h ⊢
 rw [Below.heap_setCell _ _ _ _ (fun e => hg e.symm)];exact h
theorem BoolsAt.congr {w:World} {g N:Nat} {f f' : Nat→Bool} (h:BoolsAt w g N f) (he:∀ k,k < N→f k = f' k):BoolsAt w g N f':=by
 unfold BoolsAt at h ⊢
 rw [h]
 congr 3
 exact List.map_congr_left fun k hk => by rw [he k (List.mem_range.1 hk)]
theorem bools_step {w:World} {g N k:Nat} {F:Nat→Bool} (h:BoolsAt w g N fun j => if j < k then F j else false) {v:Bool} (hv:F k = v):BoolsAt (w.setCell ⟨g,k,none⟩ (.bool v)) g N fun j => if j < k + 1 then F j else false :=
 (h.set k v).congr fun j _ => by
  by_cases e:j = k
  ·subst e;simp [hv]
  ·by_cases h1:j < k
   ·simp [e,h1,show j < k + 1 by omega]
   ·simp [e,h1,show ¬ j < k + 1 by omega]
theorem bools_skip {w:World} {g N k:Nat} {F:Nat→Bool} (h:BoolsAt w g N fun j => if j < k then F j else false) (hv:F k = false):BoolsAt w g N fun j => if j < k + 1 then F j else false :=
 h.congr fun j _ => by
  by_cases e:j = k
  ·subst e;simp [hv]
  ·by_cases h1:j < k
   ·simp [h1,show j < k + 1 by omega]
   ·simp [h1,show ¬ j < k + 1 by omega]
theorem Tryz.infoBool:(Tryz.prog.info? 4).map (fun i => (i.zero,i.size,i.bytes)) = some (some (.bool false),1,1):=by kernel_rfl
theorem make_bools (n:Nat) (hn:n ≤ 1000) (W:World):∃ W',(Instr.makeSlice 30 (.int .i64 ((n:Int) + 1)) (.int .i64 ((n:Int) + 1))).run Tryz.prog W = .ok (.slice (some ⟨W.heap.size,0,none⟩) (n + 1) (n + 1)) W'∧BoolsAt W' W.heap.size (n + 1) (fun _ => false)∧Below W.heap.size W W':=by
 obtain ⟨i,hi,hz0,hz1,hz2⟩:=info_parts Tryz.infoBool
 have h:=run_makeSlice (P:=Tryz.prog) W 30 4 i (.bool false) (by kernel_rfl) hi hz0 .i64 .i64 ((n:Int) + 1) ((n:Int) + 1) (by omega) (Int.le_refl _) (by rw [hz1];omega) (by rw [hz2];omega) (by omega)
 refine ⟨_,h,?_,(Below.refl _ W).alloc (Nat.le_refl _) _⟩
 unfold BoolsAt
 have e:((n:Int) + 1).toNat = n + 1:=by omega
 have e2:madeCells (Value.bool false).cells (n + 1) = ((List.range (n + 1)).map fun _ => Value.bool false).toArray:=by
  apply Array.ext'
  have e1:(Value.bool false).cells = #[.bool false]:=rfl
  simp [madeCells,e1,Nat.mod_one]
 rw [heap_alloc_new,hz1,e,Nat.mul_one,e2]
def starB (p:UInt8):Bool:=p == 42
def takesB (p c:UInt8):Bool:=p == 63 || p == c
def spelledL (part name:Str):Bool:=laidL starB takesB part name
set_option maxHeartbeats 2000000 in
set_option maxRecDepth 100000 in
theorem spelled_any (part name:Str) (w:World) (hp:part.length ≤ 1000) (hn:name.length ≤ 1000) :
  Calls Tryz.prog 185 #[SV part,SV name] w fun e w' => e = .returned (.bool (spelledL part name))∧Below w.heap.size w w':=by
 have hG:=get_list
 have MB:=make_bools name.length hn
 obtain ⟨w1,mk1,hB1,hb1⟩:=MB w
 have lt1:=hB1.lt
 have fz1:=hB1.frozen
 have c1:=hB1.cell (k:=0) (by omega)
 have HB1:Hid (BoolsAt w1 w.heap.size (name.length + 1) fun _ => false):=hB1
 clear hB1
 go_enter Tryz.func185,Tryz.ntmps185
 go_wp2
 have HB1' : Hid (BoolsAt (w1.setCell ⟨w.heap.size,0,none⟩ (.bool true)) w.heap.size (name.length + 1) (rowL starB takesB (part.take 0) name)) :=
  (HB1.out.set 0 true).congr fun k hk => by rw [List.take_zero,row_start name (by omega)];by_cases h:k = 0 <;> simp [h]
 have hb1' : Hid (Below w.heap.size w (w1.setCell ⟨w.heap.size,0,none⟩ (.bool true))):=hb1.setCell (p:=⟨w.heap.size,0,none⟩) (Nat.le_refl _) _
 clear HB1 hb1 c1 fz1 lt1 mk1
 generalize w1.setCell ⟨w.heap.size,0,none⟩ (.bool true) = w2 at *
 go_loopw [5,6] (fun ok i wz => ∃ (x g:Nat),x ≤ part.length∧i = .int .i64 x∧w.heap.size ≤ g∧ok = .slice (some ⟨g,0,none⟩) (name.length + 1) (name.length + 1)∧BoolsAt wz g (name.length + 1) (rowL starB takesB (part.take x) name)∧Below w.heap.size w wz) (fun _ i _ => part.length - (intOf i).toNat)
 case atStart => exact ⟨0,w.heap.size,Nat.zero_le _,rfl,Nat.le_refl _,rfl,HB1'.out,hb1'.out⟩
 case round =>
  obtain ⟨x,g,hx,rfl,hg,rfl,hB,hb⟩:=hrel
  clear HB1' hb1'
  by_cases hlt:x < part.length
  ·obtain ⟨wy,mk,hBn,hbn⟩:=MB wr
   have ltn:=hB.lt
   have HN0:Hid (BoolsAt wy wr.heap.size (name.length + 1) (fun j => if j < 0 then rowL starB takesB (part.take (x + 1)) name j else false)):=hBn.congr fun k _ => by simp
   have HO0:Hid (BoolsAt wy g (name.length + 1) (rowL starB takesB (part.take x) name)):=(hbn.block _ ltn).trans hB
   have HBy:Hid (Below w.heap.size w wy):=hb.trans (hbn.mono hb.size)
   have hgn:Hid (g < wr.heap.size):=ltn
   have hwn:Hid (w.heap.size ≤ wr.heap.size):=hb.size
   clear hBn hB hb hbn ltn
   generalize wr.heap.size = gn at *
   go_wp2
   go_loopw [8] (fun j wz => ∃ k:Nat,k ≤ name.length + 1∧j = .int .i64 k∧BoolsAt wz gn (name.length + 1) (fun j => if j < k then rowL starB takesB (part.take (x + 1)) name j else false)∧BoolsAt wz g (name.length + 1) (rowL starB takesB (part.take x) name)∧Below w.heap.size w wz) (fun j _ => name.length + 1 - (intOf j).toNat)
   case atStart => exact ⟨0,Nat.zero_le _,rfl,HN0.out,HO0.out,HBy.out⟩
   case round =>
    obtain ⟨k,hk,rfl,hN,hO,hBz⟩:=hrel
    clear HN0 HO0 HBy
    by_cases hkl:k ≤ name.length
    ·have cO:=hO.cell (k:=k) (by omega)
     have fN:=hN.frozen k
     have ltN:=hN.lt
     have tk:Hid (part.take (x + 1) = part.take x ++ [part[x]]):=List.take_succ_eq_append_getElem hlt
     have HN:Hid (BoolsAt wr gn (name.length + 1) (fun j => if j < k then rowL starB takesB (part.take (x + 1)) name j else false)):=hN
     have HO:Hid (BoolsAt wr g (name.length + 1) (rowL starB takesB (part.take x) name)):=hO
     have HBz:Hid (Below w.heap.size w wr):=hBz
     have cS:wr.cell? ⟨gn,k,none⟩ = some (.bool false):=(HN.out.cell (by omega)).trans (by rw [if_neg (by omega)])
     have done:Hid (∀ v:Bool,rowL starB takesB (part.take (x + 1)) name k = v→∀ W,(W = wr∨∃ q,W = wr.drewN q)→∃ k' : Nat,k' ≤ name.length + 1∧Value.int .i64 ((k:Int) + 1) = .int .i64 k'∧BoolsAt (W.setCell ⟨gn,k,none⟩ (.bool v)) gn (name.length + 1) (fun j => if j < k' then rowL starB takesB (part.take (x + 1)) name j else false)∧BoolsAt (W.setCell ⟨gn,k,none⟩ (.bool v)) g (name.length + 1) (rowL starB takesB (part.take x) name)∧Below w.heap.size w (W.setCell ⟨gn,k,none⟩ (.bool v))):=fun v hv W hW => by
      have hh:W.heap = wr.heap:=by rcases hW with rfl | ⟨q,rfl⟩ <;> rfl
      have hbW:Below w.heap.size w W:=by rcases hW with rfl | ⟨q,rfl⟩;exact HBz.out;exact below_drewN HBz.out _
      have h1:=HN.out
      have h2:=HO.out
      unfold BoolsAt at h1 h2
      rw [← hh] at h1 h2
      exact ⟨k + 1,by omega,rfl,bools_step h1 hv,BoolsAt.other h2 (by have:=hgn.out;omega) _ _,hbW.setCell (p:=⟨gn,k,none⟩) hwn.out _⟩
     have skip:Hid (rowL starB takesB (part.take (x + 1)) name k = false→∀ q,∃ k' : Nat,k' ≤ name.length + 1∧Value.int .i64 ((k:Int) + 1) = .int .i64 k'∧BoolsAt (wr.drewN q) gn (name.length + 1) (fun j => if j < k' then rowL starB takesB (part.take (x + 1)) name j else false)∧BoolsAt (wr.drewN q) g (name.length + 1) (rowL starB takesB (part.take x) name)∧Below w.heap.size w (wr.drewN q)):=fun hv q =>
      ⟨k + 1,by omega,rfl,bools_skip (w:=wr.drewN q) HN.out hv,HO.out,below_drewN HBz.out _⟩
     have hkl' : (k:Int) ≤ name.length:=by omega
     have hpx:((part[x].toNat:Int) == 42) = starB part[x]:=by unfold starB;rw [Bool.eq_iff_iff];simp [← UInt8.toNat_inj];omega
     clear hN hO hBz
     cases hst:starB part[x]
     ·rw [hst] at hpx
      by_cases hk0:k = 0
      ·subst hk0
       have R:Hid (rowL starB takesB (part.take (x + 1)) name 0 = false):=by rw [Hid,tk.out];exact row_one0 hst _ _
       have S:Hid _:=skip.out R.out
       clear done skip cO HN HO
       go_wp2
       go_quiet (fail)
       go_wp2
       go_roundw
       case rel => exact S.out _
       case measure => simp [intOf]
      ·obtain ⟨j,rfl⟩ : ∃ j,k = j + 1:=⟨k - 1,by omega⟩
       have hjl:j < name.length:=by omega
       have cO':=HO.out.cell (k:=j) (by omega)
       have R:Hid (rowL starB takesB (part.take (x + 1)) name (j + 1) = (takesB part[x] name[j] && rowL starB takesB (part.take x) name j)):=by rw [Hid,tk.out];exact row_one hst _ _ hjl
       have hst2:(part[x].toNat:Int) ≠ 42:=by simpa using hpx
       cases htk:takesB part[x] name[j]
       ·have S:Hid _:=skip.out (by rw [R.out,htk,Bool.false_and])
        have t1:((part[x].toNat:Int) == 63) = false:=by
         unfold takesB at htk;simp [← UInt8.toNat_inj] at htk ⊢;omega
        have t2:((part[x].toNat:Int) == (name[j].toNat:Int)) = false:=by
         unfold takesB at htk;simp [← UInt8.toNat_inj] at htk ⊢;omega
        clear done skip cO HN HO cO' htk R
        go_wp2
        go_quiet (fail)
        go_wp2
        go_roundw
        case rel => exact S.out _
        case measure => simp [intOf];omega
       ·have S:Hid _:=done.out _ (by rw [R.out,htk,Bool.true_and])
        generalize rowL starB takesB (part.take x) name j = b at *
        by_cases t1:((part[x].toNat:Int) == 63) = true
        ·clear done skip cO HN HO htk R
         go_wp2
         go_quiet (fail)
         go_wp2
         go_roundw
         case rel => exact S.out _ (.inr ⟨_,rfl⟩)
         case measure => simp [intOf];omega
        ·have t1' : ((part[x].toNat:Int) == 63) = false:=by simpa using t1
         have t2:((part[x].toNat:Int) == (name[j].toNat:Int)) = true:=by
          unfold takesB at htk;simp [← UInt8.toNat_inj] at htk t1 ⊢;omega
         clear done skip cO HN HO htk R t1
         go_wp2
         go_quiet (fail)
         go_wp2
         go_roundw
         case rel => exact S.out _ (.inr ⟨_,rfl⟩)
         case measure => simp [intOf];omega
     ·rw [hst] at hpx
      by_cases hk0:k = 0
      ·subst hk0
       have R:Hid (rowL starB takesB (part.take (x + 1)) name 0 = rowL starB takesB (part.take x) name 0):=by rw [Hid,tk.out,row_run hst _ _ (Nat.zero_le _)];simp
       have S:Hid _:=done.out _ R.out
       clear done skip HN HO
       generalize rowL starB takesB (part.take x) name 0 = b at *
       cases b
       all_goals
        go_wp2
        go_roundw
        case rel => exact S.out _ (.inl rfl)
        case measure => simp [intOf]
      ·obtain ⟨j,rfl⟩ : ∃ j,k = j + 1:=⟨k - 1,by omega⟩
       have hjl:j < name.length:=by omega
       have cN:=HN.out.cell (k:=j) (by omega)
       rw [if_pos (by omega)] at cN
       have R:Hid (rowL starB takesB (part.take (x + 1)) name (j + 1) = (rowL starB takesB (part.take x) name (j + 1) || rowL starB takesB (part.take (x + 1)) name j)):=by
        rw [Hid,tk.out,row_run hst _ _ hkl];simp
       have S:Hid _:=done.out _ R.out
       clear done skip HN HO
       generalize rowL starB takesB (part.take x) name (j + 1) = b at *
       generalize rowL starB takesB (part.take (x + 1)) name j = c at *
       cases b
       ·cases c
        all_goals
         go_wp2
         go_roundw
         case rel => exact S.out _ (.inl rfl)
         case measure => simp [intOf];omega
       ·go_wp2
        go_roundw
        case rel => exact S.out _ (.inl rfl)
        case measure => simp [intOf];omega
    ·have hkl' : ¬ (k:Int) ≤ name.length:=by omega
     have hke:k = name.length + 1:=by omega
     have F:Hid (BoolsAt wr gn (name.length + 1) (rowL starB takesB (part.take (x + 1)) name)):=hN.congr fun j hj => by rw [if_pos (by omega)]
     have HBz:Hid (Below w.heap.size w wr):=hBz
     clear hN hO hBz hke
     go_wp2
     go_roundw
     case rel => exact ⟨x + 1,gn,by omega,rfl,hwn.out,rfl,F.out,HBz.out⟩
     case measure => simp [intOf];omega
  ·have cL:=hB.cell (k:=name.length) (by omega)
   have R:Hid (rowL starB takesB (part.take x) name name.length = spelledL part name):=by rw [Hid,row_end,List.take_of_length_le (by omega)];rfl
   rw [R.out] at cL
   have HBz:Hid (Below w.heap.size w wr):=hb
   clear hB hb
   go_wp2
   go_ret
   exact ⟨rfl,HBz.out⟩

open Go.RowKit
def runS (p:Str):Bool:=p == [42,42]
def fitsL (pat path:Str):Bool:=laidL runS spelledL (splitL 47 pat) (splitL 47 path)
set_option maxHeartbeats 4000000 in
set_option maxRecDepth 100000 in
theorem fits_any (pat path:Str) (w:World) (hp:pat.length ≤ 900) (hn:path.length ≤ 900) :
  Calls Tryz.prog 168 #[SV pat,SV path] w fun e w' => e = .returned (.bool (fitsL pat path))∧Below w.heap.size w w':=by
 have hc:(UInt8.toNat 47:Int) = 47:=rfl
 have hne1:=splitL_ne 47 pat
 have hne2:=splitL_ne 47 path
 have hl1:=splitL_len 47 pat
 have hl2:=splitL_len 47 path
 have hpc1:=splitL_piece 47 pat
 have hpc2:=splitL_piece 47 path
 go_enter Tryz.func168,Tryz.ntmps168
 go_wp2_with fail
 refine (split_any pat 47 _ (by omega)).mono ?_
 rintro e w1 ⟨v1,rfl,hown1,hbel1⟩
 go_wp2_with fail
 refine (split_any path 47 _ (by omega)).mono ?_
 rintro e w2 ⟨v2,rfl,hown2,hbel2⟩
 rcases strs_cells hown1 with ⟨rfl,h0,h2⟩ | ⟨g1,cap1,rfl,hn1,hg1,hgb1,hcap1,hm1,hcell1⟩
 ·exact absurd h2 hne1
 rcases strs_cells hown2 with ⟨rfl,h0,h2⟩ | ⟨g2,cap2,rfl,hn2,hg2,hgb2,hcap2,hm2,hcell2⟩
 ·exact absurd h2 hne2
 have HC1:Hid (∀ W,Below w2.heap.size w2 W→∀ k (h:k < (splitL 47 pat).length),W.cell? ⟨g1,k,none⟩ = some (SV (splitL 47 pat)[k])):=fun W hb k h => (hb.cell (p:=⟨g1,k,none⟩) (by have:=hbel2.size;simp only;omega)).trans ((hbel2.cell hg1).trans (hcell1 k h))
 have HC2:Hid (∀ W,Below w2.heap.size w2 W→∀ k (h:k < (splitL 47 path).length),W.cell? ⟨g2,k,none⟩ = some (SV (splitL 47 path)[k])):=fun W hb k h => (hb.cell (p:=⟨g2,k,none⟩) hg2).trans (hcell2 k h)
 have HB:Hid (Below w.heap.size w w2):=hbel1.trans (hbel2.mono hbel1.size)
 clear hcell1 hcell2 hown1 hown2 hbel1 hbel2 hgb1 hgb2 hn1 hn2
 have HL:Hid (fitsL pat path = laidL runS spelledL (splitL 47 pat) (splitL 47 path)):=rfl
 have hq1:(splitL 47 pat).length ≤ 901:=by omega
 have hq2:(splitL 47 path).length ≤ 901:=by omega
 have hpc1' : Hid (∀ x ∈ splitL 47 pat,x.length ≤ 900):=fun x hx => by have:=hpc1 x hx;omega
 have hpc2' : Hid (∀ x ∈ splitL 47 path,x.length ≤ 900):=fun x hx => by have:=hpc2 x hx;omega
 clear hpc1 hpc2 hl1 hl2
 generalize splitL 47 pat = ps at *
 generalize splitL 47 path = xs at *
 unfold maxLen at hm1 hm2
 have MB:=make_bools xs.length (by omega)
 obtain ⟨w3,mk3,hB3,hb3⟩:=MB w2
 have lt3:=hB3.lt
 have fz3:=hB3.frozen
 have c3:=hB3.cell (k:=0) (by omega)
 have HB3:Hid (BoolsAt w3 w2.heap.size (xs.length + 1) fun _ => false):=hB3
 clear hB3
 go_wp2
 have HB3' : Hid (BoolsAt (w3.setCell ⟨w2.heap.size,0,none⟩ (.bool true)) w2.heap.size (xs.length + 1) (rowL runS spelledL (ps.take 0) xs)) :=
  (HB3.out.set 0 true).congr fun k hk => by rw [List.take_zero,row_start xs (by omega)];by_cases h:k = 0 <;> simp [h]
 have hb3' : Hid (Below w2.heap.size w2 (w3.setCell ⟨w2.heap.size,0,none⟩ (.bool true))):=hb3.setCell (p:=⟨w2.heap.size,0,none⟩) (Nat.le_refl _) _
 clear HB3 hb3 c3 fz3 lt3 mk3
 generalize w3.setCell ⟨w2.heap.size,0,none⟩ (.bool true) = w4 at *
 go_loopw [7,8] (fun ok i wz => ∃ (x g:Nat),x ≤ ps.length∧i = .int .i64 x∧w2.heap.size ≤ g∧ok = .slice (some ⟨g,0,none⟩) (xs.length + 1) (xs.length + 1)∧BoolsAt wz g (xs.length + 1) (rowL runS spelledL (ps.take x) xs)∧Below w2.heap.size w2 wz) (fun _ i _ => ps.length - (intOf i).toNat)
 case atStart => exact ⟨0,w2.heap.size,Nat.zero_le _,rfl,Nat.le_refl _,rfl,HB3'.out,hb3'.out⟩
 case round =>
  obtain ⟨x,g,hx,rfl,hg,rfl,hB,hb⟩:=hrel
  clear HB3' hb3'
  by_cases hlt:x < ps.length
  ·obtain ⟨wy,mk,hBn,hbn⟩:=MB wr
   have ltn:=hB.lt
   have HN0:Hid (BoolsAt wy wr.heap.size (xs.length + 1) (fun j => if j < 0 then rowL runS spelledL (ps.take (x + 1)) xs j else false)):=hBn.congr fun k _ => by simp
   have HO0:Hid (BoolsAt wy g (xs.length + 1) (rowL runS spelledL (ps.take x) xs)):=(hbn.block _ ltn).trans hB
   have HBy:Hid (Below w2.heap.size w2 wy):=hb.trans (hbn.mono hb.size)
   have hgn:Hid (g < wr.heap.size):=ltn
   have hwn:Hid (w2.heap.size ≤ wr.heap.size):=hb.size
   clear hBn hB hb hbn ltn
   generalize wr.heap.size = gn at *
   go_wp2
   go_loopw [10] (fun j wz => ∃ k:Nat,k ≤ xs.length + 1∧j = .int .i64 k∧BoolsAt wz gn (xs.length + 1) (fun j => if j < k then rowL runS spelledL (ps.take (x + 1)) xs j else false)∧BoolsAt wz g (xs.length + 1) (rowL runS spelledL (ps.take x) xs)∧Below w2.heap.size w2 wz) (fun j _ => xs.length + 1 - (intOf j).toNat)
   case atStart => exact ⟨0,Nat.zero_le _,rfl,HN0.out,HO0.out,HBy.out⟩
   case round =>
    obtain ⟨k,hk,rfl,hN,hO,hBz⟩:=hrel
    clear HN0 HO0 HBy
    by_cases hkl:k ≤ xs.length
    ·have cO:=hO.cell (k:=k) (by omega)
     have fN:=hN.frozen k
     have ltN:=hN.lt
     have cP:=HC1.out wr hBz x hlt
     have tk:Hid (ps.take (x + 1) = ps.take x ++ [ps[x]]):=List.take_succ_eq_append_getElem hlt
     have HN:Hid (BoolsAt wr gn (xs.length + 1) (fun j => if j < k then rowL runS spelledL (ps.take (x + 1)) xs j else false)):=hN
     have HO:Hid (BoolsAt wr g (xs.length + 1) (rowL runS spelledL (ps.take x) xs)):=hO
     have HBz:Hid (Below w2.heap.size w2 wr):=hBz
     have cS:wr.cell? ⟨gn,k,none⟩ = some (.bool false):=(HN.out.cell (by omega)).trans (by rw [if_neg (by omega)])
     have done:Hid (∀ v:Bool,rowL runS spelledL (ps.take (x + 1)) xs k = v→∀ W,Below wr.heap.size wr W→∃ k' : Nat,k' ≤ xs.length + 1∧Value.int .i64 ((k:Int) + 1) = .int .i64 k'∧BoolsAt (W.setCell ⟨gn,k,none⟩ (.bool v)) gn (xs.length + 1) (fun j => if j < k' then rowL runS spelledL (ps.take (x + 1)) xs j else false)∧BoolsAt (W.setCell ⟨gn,k,none⟩ (.bool v)) g (xs.length + 1) (rowL runS spelledL (ps.take x) xs)∧Below w2.heap.size w2 (W.setCell ⟨gn,k,none⟩ (.bool v))):=fun v hv W hW => by
      have h1:BoolsAt W gn (xs.length + 1) (fun j => if j < k then rowL runS spelledL (ps.take (x + 1)) xs j else false):=(hW.block _ HN.out.lt).trans HN.out
      have h2:BoolsAt W g (xs.length + 1) (rowL runS spelledL (ps.take x) xs):=(hW.block _ HO.out.lt).trans HO.out
      exact ⟨k + 1,by omega,rfl,bools_step h1 hv,BoolsAt.other h2 (by have:=hgn.out;omega) _ _,(HBz.out.trans (hW.mono HBz.out.size)).setCell (p:=⟨gn,k,none⟩) hwn.out _⟩
     have skip:Hid (rowL runS spelledL (ps.take (x + 1)) xs k = false→∃ k' : Nat,k' ≤ xs.length + 1∧Value.int .i64 ((k:Int) + 1) = .int .i64 k'∧BoolsAt wr gn (xs.length + 1) (fun j => if j < k' then rowL runS spelledL (ps.take (x + 1)) xs j else false)∧BoolsAt wr g (xs.length + 1) (rowL runS spelledL (ps.take x) xs)∧Below w2.heap.size w2 wr):=fun hv =>
      ⟨k + 1,by omega,rfl,bools_skip HN.out hv,HO.out,HBz.out⟩
     have hkl' : (k:Int) ≤ xs.length:=by omega
     clear hN hO hBz
     cases hst:runS ps[x]
     ·have hpx:(ps[x] == [42,42]) = false:=hst
      by_cases hk0:k = 0
      ·subst hk0
       have R:Hid (rowL runS spelledL (ps.take (x + 1)) xs 0 = false):=by rw [Hid,tk.out];exact row_one0 hst _ _
       have S:Hid _:=skip.out R.out
       clear done skip cO HN HO
       go_wp2
       go_roundw
       case rel => exact S.out
       case measure => simp [intOf]
      ·obtain ⟨j,rfl⟩ : ∃ j,k = j + 1:=⟨k - 1,by omega⟩
       have hjl:j < xs.length:=by omega
       have cO':=HO.out.cell (k:=j) (by omega)
       have cX:=HC2.out wr HBz.out j hjl
       have R:Hid (rowL runS spelledL (ps.take (x + 1)) xs (j + 1) = (spelledL ps[x] xs[j] && rowL runS spelledL (ps.take x) xs j)):=by rw [Hid,tk.out];exact row_one hst _ _ hjl
       cases hrj:rowL runS spelledL (ps.take x) xs j
       ·have S:Hid _:=skip.out (by rw [R.out,hrj,Bool.and_false])
        rw [hrj] at cO'
        clear done skip cO HN HO R
        go_wp2
        go_roundw
        case rel => exact S.out
        case measure => simp [intOf];omega
       ·have S:Hid _:=done.out (spelledL ps[x] xs[j]) (by rw [R.out,hrj,Bool.and_true])
        have C:=fun W => spelled_any ps[x] xs[j] W (by have:=hpc1'.out _ (List.getElem_mem hlt);omega) (by have:=hpc2'.out _ (List.getElem_mem hjl);omega)
        rw [hrj] at cO'
        have hji:(j:Int) < (xs.length:Int):=by omega
        have hwr:IntKind.i64.wrap (j:Int) = (j:Int):=IntWalk.i64_in _ (by omega)
        clear done skip cO HO R
        go_wp2
        go_cut [11] (fun a wc => a = .bool (spelledL ps[x] xs[j])∧Below wr.heap.size wr wc)
        case first =>
         go_region_with (go_at_call 185;refine (C _).mono ?_;rintro e w1 ⟨rfl,hb1⟩)
         all_goals
          go_wp2_with fail
          go_meet
          case rel => exact ⟨rfl,((Below.refl _ _).drew).trans hb1⟩
        case rest =>
         obtain ⟨rfl,hbc⟩:=hcut
         have S2:Hid _:=S.out _ hbc
         have cS2:=(hbc.cell (p:=⟨gn,j + 1,none⟩) ltN).trans cS
         have hN2:BoolsAt _ gn (xs.length + 1) _:=(hbc.block _ ltN).trans HN.out
         have fN2:=hN2.frozen (j + 1)
         have ltN2:=hN2.lt
         clear S hbc cP cX cO' C HN hN2 cS fN ltN
         go_wp2
         go_roundw
         case rel => exact S2.out
         case measure => simp [intOf];omega
     ·have hpx:(ps[x] == [42,42]) = true:=hst
      by_cases hk0:k = 0
      ·subst hk0
       have R:Hid (rowL runS spelledL (ps.take (x + 1)) xs 0 = rowL runS spelledL (ps.take x) xs 0):=by rw [Hid,tk.out,row_run hst _ _ (Nat.zero_le _)];simp
       have S:Hid _:=done.out _ R.out wr (Below.refl _ _)
       clear done skip HN HO
       generalize rowL runS spelledL (ps.take x) xs 0 = b at *
       cases b
       all_goals
        go_wp2
        go_roundw
        case rel => exact S.out
        case measure => simp [intOf]
      ·obtain ⟨j,rfl⟩ : ∃ j,k = j + 1:=⟨k - 1,by omega⟩
       have hjl:j < xs.length:=by omega
       have cN:=HN.out.cell (k:=j) (by omega)
       rw [if_pos (by omega)] at cN
       have R:Hid (rowL runS spelledL (ps.take (x + 1)) xs (j + 1) = (rowL runS spelledL (ps.take x) xs (j + 1) || rowL runS spelledL (ps.take (x + 1)) xs j)):=by
        rw [Hid,tk.out,row_run hst _ _ hkl];simp
       have S:Hid _:=done.out _ R.out wr (Below.refl _ _)
       clear done skip HN HO
       generalize rowL runS spelledL (ps.take x) xs (j + 1) = b at *
       generalize rowL runS spelledL (ps.take (x + 1)) xs j = c at *
       cases b
       ·cases c
        all_goals
         go_wp2
         go_roundw
         case rel => exact S.out
         case measure => simp [intOf];omega
       ·go_wp2
        go_roundw
        case rel => exact S.out
        case measure => simp [intOf];omega
    ·have hkl' : ¬ (k:Int) ≤ xs.length:=by omega
     have hke:k = xs.length + 1:=by omega
     have F:Hid (BoolsAt wr gn (xs.length + 1) (rowL runS spelledL (ps.take (x + 1)) xs)):=hN.congr fun j hj => by rw [if_pos (by omega)]
     have HBz:Hid (Below w2.heap.size w2 wr):=hBz
     clear hN hO hBz hke
     go_wp2
     go_roundw
     case rel => exact ⟨x + 1,gn,by omega,rfl,hwn.out,rfl,F.out,HBz.out⟩
     case measure => simp [intOf];omega
  ·have cL:=hB.cell (k:=xs.length) (by omega)
   have R:Hid (rowL runS spelledL (ps.take x) xs xs.length = fitsL pat path):=by rw [Hid,row_end,List.take_of_length_le (by omega),HL.out]
   rw [R.out] at cL
   have HBz:Hid (Below w2.heap.size w2 wr):=hb
   clear hB hb
   go_wp2
   go_ret
   exact ⟨rfl,HB.out.trans (HBz.out.mono HB.out.size)⟩

open Go.RowKit
def starsAt (s:Str) (k:Nat):Bool:=s[k]? == some 42 && s[k - 1]? == some 42
def hasStars (s:Str):Bool:=(List.range s.length).any fun k => decide (1 ≤ k) && starsAt s k
def partOkL (s:Str):Bool:=s == [42,42] || (isNameL s true && !hasStars s)
def isPatternL (p:Str):Bool:=decide ((splitL 47 p).length ≤ 5) && (splitL 47 p).all partOkL
theorem hasStars_yes {s:Str} {k:Nat} (h1:1 ≤ k) (hk:k < s.length) (h:starsAt s k = true):hasStars s = true:=by
 unfold hasStars;rw [List.any_eq_true];exact ⟨k,by simp [hk],by simp [h1,h]⟩
theorem hasStars_no {s:Str} (h:∀ k,1 ≤ k→k < s.length→starsAt s k = false):hasStars s = false:=by
 unfold hasStars;rw [List.any_eq_false];intro k hk
 by_cases h1:1 ≤ k
 ·simp [h1,h k h1 (by simpa using hk)]
 ·simp [h1]
theorem pattern_bad {p:Str} {k:Nat} (hk:k < (splitL 47 p).length) (h:partOkL (splitL 47 p)[k] = false):isPatternL p = false:=by
 unfold isPatternL
 rw [show (splitL 47 p).all partOkL = false from List.all_eq_false.2 ⟨_,List.getElem_mem hk,by simp [h]⟩,Bool.and_false]
theorem pattern_end {p:Str} (h:∀ j (hj:j < (splitL 47 p).length),partOkL (splitL 47 p)[j] = true):isPatternL p = decide ((splitL 47 p).length ≤ 5):=by
 unfold isPatternL
 rw [show (splitL 47 p).all partOkL = true from List.all_eq_true.2 fun x hx => by obtain ⟨j,hj,rfl⟩:=List.getElem_of_mem hx;exact h j hj,Bool.and_true]
set_option maxHeartbeats 2000000 in
set_option maxRecDepth 50000 in
theorem isPattern_any (p:Str) (w:World) (hp:p.length ≤ 900) :
  Calls Tryz.prog 166 #[SV p] w fun e w' => e = .returned (.bool (isPatternL p))∧Below w.heap.size w w':=by
 have hc:(UInt8.toNat 47:Int) = 47:=rfl
 have hG:=get_list
 have hne1:=splitL_ne 47 p
 have hl1:=splitL_len 47 p
 have hpc1:=splitL_piece 47 p
 go_enter Tryz.func166,Tryz.ntmps166
 go_wp2_with fail
 refine (split_any p 47 _ (by omega)).mono ?_
 rintro e w1 ⟨v1,rfl,hown1,hbel1⟩
 rcases strs_cells hown1 with ⟨rfl,h0,h2⟩ | ⟨g1,cap1,rfl,hn1,hg1,hgb1,hcap1,hm1,hcell1⟩
 ·exact absurd h2 hne1
 have HB:Hid (Below w.heap.size w w1):=hbel1
 have hq1:(splitL 47 p).length ≤ 901:=by omega
 have hpc:Hid (∀ x ∈ splitL 47 p,x.length ≤ 900):=fun x hx => by have:=hpc1 x hx;omega
 have BAD:Hid (∀ k (hk:k < (splitL 47 p).length),partOkL (splitL 47 p)[k] = false→isPatternL p = false):=fun k hk h => pattern_bad hk h
 have END:Hid ((∀ j (hj:j < (splitL 47 p).length),partOkL (splitL 47 p)[j] = true)→isPatternL p = decide ((splitL 47 p).length ≤ 5)):=fun h => pattern_end h
 clear hown1 hbel1 hgb1 hn1 hpc1 hl1
 generalize splitL 47 p = xs at *
 unfold maxLen at hm1
 go_wp2
 go_loopw [4] (fun i wr => ∃ k n:Nat,k ≤ xs.length∧i = .int .i64 k∧wr = w1.drewN n∧∀ j (hj:j < xs.length),j < k→partOkL xs[j] = true) (fun i _ => xs.length - (intOf i).toNat)
 case atStart => exact ⟨0,0,Nat.zero_le _,rfl,rfl,fun j _ h => by omega⟩
 case round =>
  obtain ⟨k,n,hk,rfl,rfl,hall⟩:=hrel
  by_cases hlt:k < xs.length
  ·have ck:=hcell1 k hlt
   have hl:=hpc.out _ (List.getElem_mem hlt)
   have CN:=fun W => isName_any xs[k] true W (by unfold maxLen;omega)
   have NEXT:Hid (partOkL xs[k] = true→∀ j (hj:j < xs.length),j < k + 1→partOkL xs[j] = true):=fun h => str_step (q:=partOkL) hlt hall h
   have BK:Hid _:=BAD.out k hlt
   clear hall hcell1 BAD
   cases hss:(xs[k] == [42,42])
   ·cases hnm:isNameL xs[k] true
    ·have R:Hid (isPatternL p = false):=BK.out (by unfold partOkL;rw [hss,hnm];rfl)
     rw [hnm] at CN
     clear NEXT BK
     go_wp2_with (go_at_call 163;refine (CN _).mono ?_;rintro e w' ⟨rfl,rfl⟩)
     go_ret
     exact ⟨by rw [R.out];rfl,below_drewN HB.out _⟩
    ·rw [hnm] at CN
     go_wp2_with (go_at_call 163;refine (CN _).mono ?_;rintro e w' ⟨rfl,rfl⟩)
     go_loopw [6] (fun i wz => ∃ j n:Nat,1 ≤ j∧i = .int .i64 j∧wz = w1.drewN n∧∀ y,1 ≤ y→y < xs[k].length→y < j→starsAt xs[k] y = false) (fun i _ => xs[k].length - (intOf i).toNat)
     case atStart => exact ⟨1,n,Nat.le_refl _,rfl,rfl,fun y h1 _ h2 => by omega⟩
     case round =>
      obtain ⟨j,n',hj1,rfl,rfl,hno⟩:=hrel
      by_cases hjl:j < xs[k].length
      ·have hji:(j:Int) < (xs[k].length:Int):=by omega
       cases ha:starsAt xs[k] j
       ·have S:Hid (∀ y,1 ≤ y→y < xs[k].length→y < j + 1→starsAt xs[k] y = false):=fun y h1 h2 h3 => by
         by_cases e:y = j
         ·subst e;exact ha
         ·exact hno y h1 h2 (by omega)
        obtain ⟨i,rfl⟩ : ∃ i,j = i + 1:=⟨j - 1,by omega⟩
        have hil:i < xs[k].length:=by omega
        by_cases hb:xs[k][i + 1] = 42
        ·have t1:((xs[k][i + 1].toNat:Int) == 42) = true:=by rw [hb];rfl
         have t2:((xs[k][i].toNat:Int) == 42) = false:=by
          unfold starsAt at ha
          simp [hjl,hil,hb,← UInt8.toNat_inj] at ha ⊢;omega
         clear hno ha hb NEXT BK CN
         go_wp2
         go_roundw
         case rel => exact ⟨i + 1 + 1,_,by omega,by go_num,rfl,S.out⟩
         case measure => simp [intOf];omega
        ·have t1:((xs[k][i + 1].toNat:Int) == 42) = false:=by
          simp [← UInt8.toNat_inj] at hb ⊢;omega
         clear hno ha hb NEXT BK CN
         go_wp2
         go_roundw
         case rel => exact ⟨i + 1 + 1,_,by omega,by go_num,rfl,S.out⟩
         case measure => simp [intOf];omega
       ·have R:Hid (isPatternL p = false):=BK.out (by unfold partOkL;rw [hss,hasStars_yes hj1 hjl ha];simp)
        obtain ⟨i,rfl⟩ : ∃ i,j = i + 1:=⟨j - 1,by omega⟩
        have hil:i < xs[k].length:=by omega
        have t:xs[k][i + 1] = 42∧xs[k][i] = 42:=by
         unfold starsAt at ha
         simpa [hjl,hil] using ha
        have t1:((xs[k][i + 1].toNat:Int) == 42) = true:=by rw [t.1];rfl
        have t2:((xs[k][i].toNat:Int) == 42) = true:=by rw [t.2];rfl
        clear hno ha t NEXT BK CN
        go_wp2
        go_ret
        exact ⟨by rw [R.out];rfl,below_drewN HB.out _⟩
      ·have hji:¬ (j:Int) < (xs[k].length:Int):=by omega
       have R:=NEXT.out (by unfold partOkL;rw [hnm,hasStars_no (fun y h1 h2 => hno y h1 h2 (by omega))];simp)
       clear hno NEXT BK CN
       go_wp2
       go_roundw
       case rel => exact ⟨k + 1,_,by omega,by go_num,rfl,R⟩
       case measure => simp [intOf];omega
   ·have hss' : partOkL xs[k] = true:=by unfold partOkL;rw [hss];rfl
    have R:=NEXT.out hss'
    clear NEXT BK CN
    go_wp2
    go_roundw
    case rel => exact ⟨k + 1,_,by omega,by go_num,rfl,R⟩
    case measure => simp [intOf];omega
  ·have R:Hid _:=END.out fun j hj => hall j hj (by omega)
   clear hall hcell1 BAD END
   go_wp2
   go_ret
   exact ⟨by rw [R.out];first | rfl | (simp;omega),below_drewN HB.out _⟩
end Go.Proofs.YtdcbgfhkfmohiaaGreatDoor
