/- Same, on the document's side: what it says of two trees. -/
import Derived.Test.YtdcbgfhkfmohiaaGreatDoorAl04
import Derived.Test.YtdcbgfhkfmohiaaGreatDoorAl11
import Derived.Test.YtdcbgfhkfmohiaaGreatDoorAl32
import Derived.Test.YtdcbgfhkfmohiaaGreatDoorAl34
import Derived.LaidEqlPtr
namespace Go.Proofs.YtdcbgfhkfmohiaaGreatDoor
open Go.RowKit
def placeQ (p:Str):List Str:=if p = [47] then [] else splitL 47 p
theorem okN_free {q:List Str} (h:OkN q):∀ x ∈ q,Free x:=fun x hx => (name_free (h.2 x hx)).1
theorem join_inj {p q:List Str} (hp:OkN p) (hq:OkN q) (h:joinP p = joinP q):p = q:=by
 rw [← split_join hp.1 (okN_free hp),← split_join hq.1 (okN_free hq),h]
theorem data_at {es:Ents} {q:List Str} {d:Str} (h:WFE es) (hq:OkN q) (hs:sub (.dir es) q = some (.file d)):dataAt (toF (filesE es)) (getI (toF (filesE es)) (joinP q)) = d:=by
 have hv:=(valid_files h).1
 have hf:fileAt (.dir es) q = some d:=by unfold fileAt;rw [hs]
 have hm:=(mem_root h q d).2 hf
 have hn:¬ getI (toF (filesE es)) (joinP q) < 0:=fun hc => (get_names hv hq).1 hc _ hm rfl
 obtain ⟨k,hk,hlt⟩:=getI_lt (by omega:0 ≤ getI (toF (filesE es)) (joinP q))
 have hg:getL (toF (filesE es)) (joinP q) = some k:=by
  unfold getI at hk;split at hk
  ·rename_i j hj;rw [hj];congr 1;omega
  ·omega
 unfold getL at hg
 rw [List.findIdx?_eq_some_iff_getElem] at hg
 obtain ⟨_,h1,_⟩:=hg
 have hl:k < (filesE es).length:=by simpa [toF] using hlt
 have e1:(toF (filesE es))[k] = (joinP (filesE es)[k].1,(filesE es)[k].2):=by simp [toF]
 rw [e1] at h1
 have h2:joinP (filesE es)[k].1 = joinP q:=by simpa using h1
 have h3:=join_inj (hv _ (List.getElem_mem hl)) hq h2
 have h4:=(mem_root h (filesE es)[k].1 (filesE es)[k].2).1 (List.getElem_mem hl)
 rw [h3,hf] at h4
 unfold dataAt
 rw [hk]
 simp only [Int.toNat_natCast]
 rw [List.getElem?_eq_getElem hlt,e1]
 exact (Option.some.inj h4).symm
theorem in_root {es:Ents} (h:WFE es):inL (toF (filesE es)) [47] = toF (filesE es):=by
 have hv:=(valid_files h).1
 have:∀ l:List NF,ValidN l→inL (toF l) [47] = toF l:=by
  intro l
  induction l with
  | nil => intro _;rfl
  | cons f l ih =>
   intro hl
   have h1:=ih (fun g hg => hl g (by simp [hg]))
   have h2:belowL (joinP f.1) [47] = joinP f.1:=by unfold belowL;rw [if_pos rfl]
   have h3:(joinP f.1).isEmpty = false:=by
    cases hj:joinP f.1 with
    | cons a r => rfl
    | nil =>
     have hf:=hl f (by simp)
     have:=split_join hf.1 (okN_free hf)
     rw [hj] at this
     have hm:=hf.2 [] (by rw [← this];decide)
     have:=(isNameL_len hm).1
     simp at this
   unfold inL at h1 ⊢
   simp only [toF,List.map_cons,List.flatMap_cons] at h1 ⊢
   rw [h2,h3,h1]
   rfl
 exact this _ hv
theorem get_root {es:Ents} (h:WFE es):getI (toF (filesE es)) [47] < 0:=by
 have hv:=(valid_files h).1
 rw [getI_miss]
 ·decide
 ·intro j hj
  have hl:j < (filesE es).length:=by simpa [toF] using hj
  have e1:(toF (filesE es))[j] = (joinP (filesE es)[j].1,(filesE es)[j].2):=by simp [toF]
  rw [e1]
  have hf:=hv _ (List.getElem_mem hl)
  have hs:=split_join hf.1 (okN_free hf)
  simp only [beq_eq_false_iff_ne,ne_eq]
  intro hc
  rw [hc] at hs
  have hm:=hf.2 [] (by rw [← hs];decide)
  have:=(isNameL_len hm).1
  simp at this
theorem look_file:∀ {q:List Str} {t:Tree} {d:Str},sub t q = some (.file d)→look (some t) q = .atFile:=by
 intro q
 induction q with
 | nil => intro t d h;simp only [sub,Option.some.injEq] at h;subst h;simp [look]
 | cons x r ih =>
  intro t d h
  cases t with
  | file e => simp [sub] at h
  | dir es =>
   rw [sub] at h;rw [look]
   cases hf:findE es x with
   | none => rw [hf] at h;simp at h
   | some u => rw [hf] at h;exact ih h
theorem look_dir:∀ {q:List Str} {t:Tree} {c:Ents},sub t q = some (.dir c)→look (some t) q = .atDir:=by
 intro q
 induction q with
 | nil => intro t d h;simp only [sub,Option.some.injEq] at h;subst h;simp [look]
 | cons x r ih =>
  intro t d h
  cases t with
  | file e => simp [sub] at h
  | dir es =>
   rw [sub] at h;rw [look]
   cases hf:findE es x with
   | none => rw [hf] at h;simp at h
   | some u => rw [hf] at h;exact ih h
theorem same_pure {a b:Ents} {p:Str} (ha:WFE a) (hb:WFE b) (hp:isPlaceL p = true) :
  ((sub (.dir a) (placeQ p) = none∨sub (.dir b) (placeQ p) = none)→sameF (toF (filesE a)) (toF (filesE b)) p = (false,6)) ∧
  ∀ t t',sub (.dir a) (placeQ p) = some t→sub (.dir b) (placeQ p) = some t'→∀ c:Bool,(c = true ↔ t = t')→sameF (toF (filesE a)) (toF (filesE b)) p = (c,0):=by
 by_cases hr:p = [47]
 ·subst hr
  have e:placeQ [47] = []:=rfl
  rw [e]
  simp only [sub]
  refine ⟨fun h => by simp at h,?_⟩
  rintro t t' h1 h2 c hc
  obtain rfl:=Option.some.inj h1
  obtain rfl:=Option.some.inj h2
  have g1:=get_root ha
  have g2:=get_root hb
  unfold sameF
  have d1:∀ l:List Fl,isDirL l [47] = true:=fun l => rfl
  rw [if_neg (by simp [d1]),if_neg (by omega),if_pos ⟨d1 _,d1 _⟩,in_root ha,in_root hb]
  congr 1
  rw [Bool.eq_iff_iff,hc,beq_iff_eq]
  constructor
  ·intro h;rw [spell_files_inj ha hb h]
  ·intro h;rw [Tree.dir.inj h]
 ·have hpt:isPathL p = true:=by
   unfold isPlaceL at hp
   simp only [Bool.or_eq_true,beq_iff_eq] at hp
   exact hp.resolve_right hr
  obtain ⟨hq,hj,_⟩:=path_ok hpt
  have e:placeQ p = splitL 47 p:=if_neg hr
  rw [e]
  have la:=look_names ha hq
  have lb:=look_names hb hq
  have sa:=look_sub (.dir a) (splitL 47 p)
  have sb:=look_sub (.dir b) (splitL 47 p)
  rw [hj] at la lb
  have nof:∀ {es:Ents} ,WFE es→(∀ t,sub (.dir es) (splitL 47 p) = some t→((∃ d,t = .file d)∧0 ≤ getI (toF (filesE es)) p∧isDirL (toF (filesE es)) p = false)∨((∃ c,t = .dir c)∧getI (toF (filesE es)) p < 0∧isDirL (toF (filesE es)) p = true))∧(sub (.dir es) (splitL 47 p) = none→getI (toF (filesE es)) p < 0∧isDirL (toF (filesE es)) p = false):=by
   intro es he
   have le:=look_names he hq
   rw [hj] at le
   refine ⟨fun t ht => ?_,fun hn => ?_⟩
   ·cases t with
    | file d =>
     left
     have hl:look (some (.dir es)) (splitL 47 p) = .atFile:=look_file ht
     refine ⟨⟨d,rfl⟩,by have:=le.1.1 hl;omega,?_⟩
     cases hd:isDirL (toF (filesE es)) p with
     | false => rfl
     | true => have:=le.2.1.2 hd;rw [hl] at this;cases this
    | dir c =>
     right
     have hl:look (some (.dir es)) (splitL 47 p) = .atDir:=look_dir ht
     refine ⟨⟨c,rfl⟩,?_,le.2.1.1 hl⟩
     refine Classical.byContradiction fun hc => ?_
     have:=le.1.2 hc;rw [hl] at this;cases this
   ·have se:=look_sub (.dir es) (splitL 47 p)
    rw [hn] at se
    have hno:¬ (look (some (.dir es)) (splitL 47 p) = .atFile∨look (some (.dir es)) (splitL 47 p) = .atDir):=fun h => by have:=se.1 h;simp at this
    refine ⟨Classical.byContradiction fun hc => hno (.inl (le.1.2 hc)),?_⟩
    cases hd:isDirL (toF (filesE es)) p with
    | false => rfl
    | true => exact absurd (.inr (le.2.1.2 hd)) hno
  refine ⟨?_,?_⟩
  ·intro h
   unfold sameF
   rw [if_pos]
   rcases h with h | h
   ·exact .inl ((nof ha).2 h)
   ·exact .inr ((nof hb).2 h)
  ·intro t t' h1 h2 c hc
   unfold sameF
   rcases (nof ha).1 t h1 with ⟨⟨d,rfl⟩,g1,i1⟩ | ⟨⟨x,rfl⟩,g1,i1⟩ <;> rcases (nof hb).1 t' h2 with ⟨⟨d',rfl⟩,g2,i2⟩ | ⟨⟨x',rfl⟩,g2,i2⟩
   ·rw [if_neg (by omega),if_pos ⟨g1,g2⟩]
    congr 1
    have e1:=data_at ha hq h1
    have e2:=data_at hb hq h2
    rw [hj] at e1 e2
    rw [e1,e2,Bool.eq_iff_iff,hc,beq_iff_eq]
    simp
   ·rw [if_neg (by simp [i2];omega),if_neg (by omega),if_neg (by simp [i1])]
    cases c with
    | false => rfl
    | true => have:=hc.1 rfl;cases this
   ·rw [if_neg (by simp [i1];omega),if_neg (by omega),if_neg (by simp [i2])]
    cases c with
    | false => rfl
    | true => have:=hc.1 rfl;cases this
   ·rw [if_neg (by simp [i1,i2]),if_neg (by omega),if_pos ⟨i1,i2⟩]
    congr 1
    have e1:=in_files ha hq h1
    have e2:=in_files hb hq h2
    rw [hj] at e1 e2
    rw [e1.1,e2.1,Bool.eq_iff_iff,hc,beq_iff_eq]
    constructor
    ·intro h;rw [spell_files_inj e1.2 e2.2 h]
    ·intro h;rw [Tree.dir.inj h]

open Go.RowKit
def PlaceOut (w:World) (p:Str) (e:Ending) (w' : World):Prop :=
 Below w.heap.size w w'∧((isPlaceL p = false∧e = .returned (.slice none 0 0))∨(isPlaceL p = true∧∃ a n c,e = .returned (.slice (some a) n c)∧NamesAt w' (.slice (some a) n c) (placeQ p)))
set_option maxHeartbeats 1000000 in
theorem namesOrRoot_any (p:Str) (w:World) (hp:p.length + 1 < maxLen) :
  Calls Tryz.prog 50 #[SV p] w fun e w' => PlaceOut w p e w':=by
 have hp0:=hp
 by_cases hr:p = [47]
 ·subst hr
  go_enter Tryz.func50,Tryz.ntmps50
  go_wp2
  go_ret
  exact ⟨(Below.refl _ _).alloc (Nat.le_refl _) _,.inr ⟨rfl,_,_,_,rfl,⟨_,_,rfl,Nat.le_refl _,by unfold maxLen;omega,fun k hk => by simp [placeQ] at hk⟩⟩⟩
 ·have e1:placeQ p = splitL 47 p:=if_neg hr
  have e2:isPlaceL p = isPathL p:=by unfold isPlaceL;simp [hr]
  have hb:(p == [47]) = false:=by simp [hr]
  go_enter Tryz.func50,Tryz.ntmps50
  go_wp2_with fail
  refine (namesOf_any p _ hp0).mono ?_
  rintro e w1 ⟨hb1,⟨hpf,rfl⟩ | ⟨hpt,a,nn,c,rfl,hn1⟩⟩
  ·have R:Hid (PlaceOut w p (.returned (.slice none 0 0)) w1):=⟨hb1,.inl ⟨e2.trans hpf,rfl⟩⟩
   clear hb1 hpf
   go_wp2
   go_ret
   exact R.out
  ·have R:Hid (PlaceOut w p (.returned (.slice (some a) nn c)) w1):=⟨hb1,.inr ⟨e2.trans hpt,a,nn,c,rfl,by rw [e1];exact hn1⟩⟩
   clear hb1 hpt hn1
   go_wp2
   go_ret
   exact R.out
theorem rep_own {w:World} {B:Bank} (hB:BankAt w B) {v:Value} {t:Tree} (h:RepT w (fun b _ => B.reg b) v t):v = valT B.ad t∧B.has t:=by
 cases h with
 | file hf hq =>
  obtain ⟨h1,h2⟩:=reg_file hB hf hq
  exact ⟨(congrArg fileV h2).symm,h1⟩
 | dir hd hq he =>
  obtain ⟨h1,h2⟩:=reg_dir hB hd he hq hq
  exact ⟨(congrArg dirV h2).symm,h1⟩
theorem rep_kept_root {w:World} {B:Bank} (hB:BankAt w B) {es:Ents} (h:es ∈ B.ds):RepT w (fun b _ => B.reg b) (dirV (B.ad (.dir es))) (.dir es):=by
 have h1:=rep_has hB w.heap.size _ (.dir es) (Nat.le_refl _) h
 refine RepT.keep (fun b u vs hd hq => ⟨u,hd,hq (.inr (Array.getElem?_eq_some_iff.1 hd.2).1)⟩) (fun b u d hf hq => ⟨u,hf,hq (.inr ?_)⟩) h1
 exact (Array.getElem?_eq_some_iff.1 hf).1
theorem valT_inj {w:World} {B:Bank} (hB:BankAt w B) {t t' : Tree} (h:B.has t) (h' : B.has t'):valT B.ad t = valT B.ad t' ↔ t = t':=by
 refine ⟨fun e => ?_,fun e => by rw [e]⟩
 cases t <;> cases t' <;> unfold valT at e <;> simp only [Value.iface.injEq,Value.pointer.injEq,Option.some.injEq,Addr.mk.injEq] at e
 ·exact hB.same h h' e.2.1
 ·exact absurd e.1 (by decide)
 ·exact absurd e.1 (by decide)
 ·exact hB.same h h' e.2.1
theorem iface_eq {w:World} {B:Bank} (hB:BankAt w B) {t t' : Tree} (h:B.has t) (h' : B.has t'):∃ c:Bool,(binOp .eql 99 (valT B.ad t) (valT B.ad t')).run Tryz.prog w = .ok (.bool c) w∧(c = true ↔ t = t'):=by
 obtain ⟨r,h1,h2⟩:=node_eq (w:=w) 9998 (hB.node h) (hB.node h')
 refine ⟨r,?_,h2.trans (valT_inj hB h h')⟩
 cases t <;> cases t' <;> (unfold valT at h1 ⊢;simp only [binOp];simp [Op.equal,Op.maxDepth,h1])
theorem sameR_none1 {r:RSt} {n m:Int} {p:Str} (h:findL r.all n = none):sameR r n m p = (false,2):=by unfold sameR;rw [h]
theorem sameR_none2 {r:RSt} {n m:Int} {p:Str} (h:findL r.all m = none):sameR r n m p = (false,2):=by unfold sameR;rw [h];split <;> simp_all
theorem sameR_path {r:RSt} {n m:Int} {p:Str} {l k:List Fl} (h:findL r.all n = some l) (h' : findL r.all m = some k) (hp:isPlaceL p = false):sameR r n m p = (false,3):=by unfold sameR;rw [h,h'];simp [hp]
theorem sameR_go {r:RSt} {n m:Int} {p:Str} {l k:List Fl} (h:findL r.all n = some l) (h' : findL r.all m = some k) (hp:isPlaceL p = true):sameR r n m p = sameF l k p:=by unfold sameR;rw [h,h'];simp [hp]
theorem snap_any {w:World} {B:Bank} {r:RSt} (hO:Okay w B) (ha:Agree B r) (n:Int) :
  ∃ v,(∀ W,(∃ k,W = w.drewN k)→(Instr.lookup 82 (.map (some B.rs)) (.int .i64 n) false).run Tryz.prog W = .ok v W)∧((v = .pointer none∧findL r.all n = none)∨∃ es k,(k,es) ∈ B.ss∧v = ptrV (B.ad (.dir es))∧findL r.all n = some (toF (filesE es))):=by
 have hW:∀ W,(∃ k,W = w.drewN k)→BankAt W B:=by rintro W ⟨k,rfl⟩;exact hO.at'.frame fun _ _ => rfl
 rcases find_agree ha n with ⟨hf,hno⟩ | ⟨k,es,hk,rfl,hf⟩
 ·exact ⟨_,fun W h => snap_none (hW W h) hno,.inl ⟨rfl,hf⟩⟩
 ·exact ⟨_,fun W h => snap_look (hW W h) hk,.inr ⟨es,k,hk,rfl,hf⟩⟩
set_option maxHeartbeats 8000000 in
set_option maxRecDepth 50000 in
theorem storeSame_any (B:Bank) (r:RSt) (n m:Int) (p:Str) (w:World) (hO:Okay w B) (ha:Agree B r) (hp:p.length + 1 < maxLen) :
  Calls Tryz.prog 29 #[ptrV B.sb,.int .i64 n,.int .i64 m,SV p] w fun e w' => SameOut w (sameR r n m p) e w':=by
 have s2:w.cell? ⟨B.sb,2,none⟩ = some (.map (some B.rs)):=(blk_cell hO.at'.store 2).trans rfl
 obtain ⟨v1,hl1,h1⟩:=snap_any hO ha n
 obtain ⟨v2,hl2,h2⟩:=snap_any hO ha m
 have L1:Hid _:=hl1
 have L2:Hid _:=hl2
 have H1:Hid _:=h1
 have H2:Hid _:=h2
 have HO:Hid _:=hO
 have hpm:=hp
 clear hl1 hl2 h1 h2 hO ha
 go_enter Tryz.func29,Tryz.ntmps29
 go_wp2
 refine wp_region_quiet_lit (by kernel_rfl) (by kernel_rfl) ?_
 quiet_step (fail)
 quiet_step (fail)
 quiet_step (fail)
 quiet_step (fail)
 quiet_step (fail)
 refine quiet_lookup rfl 82 (.tmp 20) (.tmp 21) rfl _ _ _ rfl rfl (fun W hW => L1.out W hW) ?_
 quiet_step (fail)
 quiet_step (fail)
 quiet_step (fail)
 quiet_step (fail)
 quiet_step (fail)
 refine quiet_lookup rfl 82 (.tmp 26) (.tmp 27) rfl _ _ _ rfl rfl (fun W hW => L2.out W hW) ?_
 quiet_step (fail)
 quiet_step (fail)
 refine wpQuiet_nil ?_
 intro _ hw'
 obtain ⟨nq,hw''⟩:=hw'
 subst hw''
 have HBq:Hid (Below w.heap.size w (w.drewN nq)):=below_drewN (Below.refl _ _) _
 have HOq:Hid (Okay (w.drewN nq) B):=HO.out.frame fun _ _ => rfl
 have HSz:Hid ((w.drewN nq).heap.size = w.heap.size):=rfl
 clear s2 L1 L2
 generalize w.drewN nq = wq at *
 rcases H1.out with ⟨rfl,hf1⟩ | ⟨es1,k1,hk1,rfl,hf1⟩
 ·have R:Hid (SameOut w (sameR r n m p) (.returned (.tuple #[.bool false,.int .i64 2])) wq):=by rw [Hid,sameR_none1 hf1];exact ⟨rfl,HBq.out⟩
  clear H1 H2 HO HBq hf1
  go_wp2
  go_ret2
  exact R.out
 ·rcases H2.out with ⟨rfl,hf2⟩ | ⟨es2,k2,hk2,rfl,hf2⟩
  ·have R:Hid (SameOut w (sameR r n m p) (.returned (.tuple #[.bool false,.int .i64 2])) wq):=by rw [Hid,sameR_none2 hf2];exact ⟨rfl,HBq.out⟩
   clear H1 H2 HO HBq hf1 hf2 hk1
   generalize B.ad (.dir es1) = b1 at *
   go_wp2
   go_ret2
   exact R.out
  ·have HF1:Hid _:=hf1
   have HF2:Hid _:=hf2
   have hwf1:WFE es1:=(HO.out.wf _ hk1).1
   have hwf2:WFE es2:=(HO.out.wf _ hk2).1
   have HR1:Hid (RepT wq (fun b _ => B.reg b) (dirV (B.ad (.dir es1))) (.dir es1)):=rep_kept_root HOq.out.at' (HOq.out.at'.roots _ hk1)
   have HR2:Hid (RepT wq (fun b _ => B.reg b) (dirV (B.ad (.dir es2))) (.dir es2)):=rep_kept_root HOq.out.at' (HOq.out.at'.roots _ hk2)
   clear H1 H2 hf1 hf2 hk1 hk2 HO
   generalize B.ad (.dir es1) = b1 at *
   generalize B.ad (.dir es2) = b2 at *
   have hsn:=slice_some
   have hs0:=slice_none
   have hin:=iface_some
   have hi0:=iface_none
   go_wp2_with fail
   refine (namesOrRoot_any p _ hpm).mono ?_
   rintro e w1 ⟨hb1,⟨hpf,rfl⟩ | ⟨hpt,a,nn,c,rfl,hn1⟩⟩
   ·have R:Hid (SameOut w (sameR r n m p) (.returned (.tuple #[.bool false,.int .i64 3])) w1):=by rw [Hid,sameR_path HF1.out HF2.out hpf];exact ⟨rfl,HBq.out.trans (hb1.mono (by rw [HSz.out];exact Nat.le_refl _))⟩
    clear hpf hb1
    go_wp2
    go_ret2
    exact R.out
   ·have HG:Hid (sameR r n m p = sameF (toF (filesE es1)) (toF (filesE es2)) p):=sameR_go HF1.out HF2.out hpt
    have HP:Hid _:=same_pure hwf1 hwf2 hpt
    have HB1:Hid (Below w.heap.size w w1):=HBq.out.trans (hb1.mono (by rw [HSz.out];exact Nat.le_refl _))
    have HN1:Hid (NamesAt w1 (.slice (some a) nn c) (placeQ p)):=hn1
    have HO1:Hid (Okay w1 B):=HOq.out.below hb1
    have CL:Hid (Calls Tryz.prog 51 #[dirV b1,.slice (some a) nn c] w1 fun e w' => LookOut w' (fun b _ => B.reg b) (some (.dir es1)) (placeQ p) e∧Below w1.heap.size w1 w') :=
     look_any (fun b _ => B.reg b) (placeQ p) (some (.dir es1)) _ _ w1 (HR1.out.later hb1 (Nat.le_refl _)) hwf1 hn1
    have HR2' : Hid (RepT w1 (fun b _ => B.reg b) (dirV b2) (.dir es2)):=HR2.out.later hb1 (Nat.le_refl _)
    clear hb1 hn1 hpt HF1 HF2 HR1 HR2 HOq HBq HSz
    go_wp2_with fail
    refine CL.out.mono ?_
    rintro e w2 ⟨⟨va,rfl,hr1⟩,hb2⟩
    have HB2:Hid (Below w.heap.size w w2):=HB1.out.trans (hb2.mono HB1.out.size)
    have HO2:Hid (Okay w2 B):=HO1.out.below hb2
    have CL2:Hid (Calls Tryz.prog 51 #[dirV b2,.slice (some a) nn c] w2 fun e w' => LookOut w' (fun b _ => B.reg b) (some (.dir es2)) (placeQ p) e∧Below w2.heap.size w2 w') :=
     look_any (fun b _ => B.reg b) (placeQ p) (some (.dir es2)) _ _ w2 (HR2'.out.later hb2 (Nat.le_refl _)) hwf2 (names_below HN1.out hb2 (Nat.le_refl _))
    have HV1:Hid (RepO w2 (fun b _ => B.reg b) va ((some (Tree.dir es1)).bind fun t => sub t (placeQ p))):=hr1
    clear hb2 hr1 CL HN1 HR2' HO1 HB1
    generalize placeN (look (some (.dir es1)) (placeQ p)) = pl1 at *
    go_wp2_with fail
    refine CL2.out.mono ?_
    rintro e w3 ⟨⟨vb,rfl,hr2⟩,hb3⟩
    have HB3:Hid (Below w.heap.size w w3):=HB2.out.trans (hb3.mono HB2.out.size)
    have hO3:Okay w3 B:=HO2.out.below hb3
    generalize placeN (look (some (.dir es2)) (placeQ p)) = pl2 at *
    simp only [Option.bind_some] at hr2
    have hr1:=HV1.out
    simp only [Option.bind_some] at hr1
    cases hx1:sub (.dir es1) (placeQ p) with
    | none =>
     rw [hx1] at hr1
     cases hr1
     have R:Hid (SameOut w (sameR r n m p) (.returned (.tuple #[.bool false,.int .i64 6])) w3):=by rw [Hid,HG.out,HP.out.1 (.inl hx1)];exact ⟨rfl,HB3.out⟩
     clear hr2 hb3 hO3 HV1 CL2 hx1
     go_wp2
     go_ret2
     exact R.out
    | some t1 =>
     rw [hx1] at hr1
     obtain ⟨ve1,hh1⟩:=rep_own HO2.out.at' hr1
     cases hx2:sub (.dir es2) (placeQ p) with
     | none =>
      rw [hx2] at hr2
      cases hr2
      obtain ⟨kk,bb,rfl⟩:=RepT.form hr1
      have R:Hid (SameOut w (sameR r n m p) (.returned (.tuple #[.bool false,.int .i64 6])) w3):=by rw [Hid,HG.out,HP.out.1 (.inr hx2)];exact ⟨rfl,HB3.out⟩
      clear hr1 hb3 hO3 HV1 CL2 hx1 hx2 ve1 hh1
      go_wp2
      go_ret2
      exact R.out
     | some t2 =>
      rw [hx2] at hr2
      obtain ⟨ve2,hh2⟩:=rep_own hO3.at' hr2
      obtain ⟨cc,heq,hcc⟩:=iface_eq hO3.at' hh1 hh2
      rw [← ve1,← ve2] at heq
      obtain ⟨kk,bb,rfl⟩:=RepT.form hr1
      obtain ⟨kk',bb',rfl⟩:=RepT.form hr2
      have R:Hid (SameOut w (sameR r n m p) (.returned (.tuple #[.bool cc,.int .i64 0])) w3):=by rw [Hid,HG.out,HP.out.2 t1 t2 hx1 hx2 cc hcc];exact ⟨rfl,HB3.out⟩
      clear hr1 hr2 hb3 hO3 HV1 CL2 hx1 hx2 ve1 hh1 ve2 hh2 hcc
      go_wp2
      go_ret2
      exact R.out

open Go.RowKit
theorem duo_below {w w' : World} {D:Duo} (h:DuoAt w D) (hb:Below w.heap.size w w'):DuoAt w' D:=h.frame fun k hk => hb.block k (h.own_lt hk)
theorem ArgsAt.below {W W2:World} {h:Nat} {D:Duo} {K Wn N M:Int} {S T:Str} {L:Value} (hA:ArgsAt W h D K Wn N M S T L) (hb:Below W.heap.size W W2):ArgsAt W2 h D K Wn N M S T L :=
 ⟨(hb.block _ (Array.getElem?_eq_some_iff.1 hA.pair).1).trans hA.pair,(hb.block _ (Array.getElem?_eq_some_iff.1 hA.op).1).trans hA.op⟩
set_option maxHeartbeats 4000000 in
set_option maxRecDepth 50000 in
theorem asks_same (D:Duo) (Wn N M:Int) (S T:Str) (L:Value) (w:World) (hD:DuoAt w D) (hS:S.length + 1 < maxLen) :
  Calls Tryz.prog 70 #[pairV D,opV 7 Wn N M S T L] w fun e w' => EditOut w D e w':=by
 have HD:Hid _:=hD
 have hS0:=hS
 clear hD
 obtain ⟨w1,hw1,hA1,hb1,hsz1⟩:=args_box w D 7 Wn N M S T L
 have hD1:DuoAt w1 D:=duo_below HD.out hb1
 have C:Hid (Calls Tryz.prog 29 #[ptrV D.B.sb,.int .i64 N,.int .i64 M,SV S] w1 fun e w' => SameOut w1 (sameR D.r N M S) e w'):=storeSame_any D.B D.r N M S w1 hD1.ok hD1.ag hS0
 have HA1:Hid _:=hA1
 have HB1:Hid _:=hb1
 have HD1:Hid _:=hD1
 have HW1:Hid _:=hw1
 clear hA1 hb1 hD1 hw1
 go_enter Tryz.func70,Tryz.ntmps70
 go_wp2_with fail
 rw [← HW1.out]
 refine C.out.mono ?_
 rintro e w2 ⟨rfl,hb2⟩
 have hA2:=HA1.out.below hb2
 have hD2:DuoAt w2 D:=duo_below HD1.out hb2
 have CR:Hid (Calls Tryz.prog 102 #[.pointer (some ⟨D.b,0,none⟩),.int .i64 N,.int .i64 M,SV S] w2 fun e w' => SameOut w2 (sameR D.r N M S) e w'):=refSame_any D.b D.r D.va D.vr D.sn N M S w2 hD2.ref (by unfold maxLen at hS0 ⊢;omega)
 have cN:w2.cell? ⟨w.heap.size + 1,2,none⟩ = some (.int .i64 N):=(blk_cell hA2.op 2).trans rfl
 have cM:w2.cell? ⟨w.heap.size + 1,3,none⟩ = some (.int .i64 M):=(blk_cell hA2.op 3).trans rfl
 have cS:w2.cell? ⟨w.heap.size + 1,4,none⟩ = some (SV S):=(blk_cell hA2.op 4).trans rfl
 have cB:w2.cell? ⟨w.heap.size,1,none⟩ = some (ptrV D.b):=(blk_cell hA2.pair 1).trans rfl
 have HB2:Hid (Below w.heap.size w w2):=HB1.out.trans (hb2.mono HB1.out.size)
 clear hb2 hA2 hD2 C HA1 HD1
 generalize sameR D.r N M S = o at *
 obtain ⟨o1,o2⟩:=o
 go_wp2_with fail
 refine CR.out.mono ?_
 rintro e w3 ⟨rfl,hb3⟩
 have hb4:Below w.heap.size w w3:=HB2.out.trans (hb3.mono HB2.out.size)
 have RR:Hid (∃ D',DuoAt w3 D'∧DuoStep w D w3 D'):=⟨D,duo_below HD.out hb4,DuoStep.of_below hb4⟩
 clear hb3 hb4 CR cN cM cS cB HB2
 cases o1
 all_goals
  go_wp2_with (go_at_call 68;refine (num_any _ _).mono ?_;rintro e w4 ⟨rfl,rfl⟩)
  go_ret
  exact ⟨by first | rfl | simp,RR.out⟩

open Go.RowKit
def joinS (p x:Str):Str:=if p = [] then x else p ++ 47 :: x
set_option maxHeartbeats 1000000 in
theorem join_any (p x:Str) (w:World) (hp:p.length ≤ 1000) (hx:x.length ≤ 1000) :
  Calls Tryz.prog 72 #[SV p,SV x] w fun e w' => e = .returned (SV (joinS p x))∧w' = w:=by
 have hap:=app_list
 by_cases h:p = []
 ·subst h
  go_enter Tryz.func72,Tryz.ntmps72
  go_wp2
  go_ret
  exact ⟨rfl,rfl⟩
 ·have hb:(p == []) = false:=by simp [h]
  have R:Hid (joinS p x = p ++ 47 :: x):=by rw [Hid,joinS,if_neg h]
  go_enter Tryz.func72,Tryz.ntmps72
  go_wp2
  go_ret
  refine ⟨?_,rfl⟩
  rw [R.out];rfl
set_option maxRecDepth 100000 in
theorem cmp_any (a b:Str) (w:World):Calls Tryz.prog 169 #[SV a,SV b] w fun e w' => e = .returned (.int .i64 (Lib.compareBytes a b))∧w' = w:=by
 go_enter Tryz.func169,Tryz.ntmps169
 go_wp2
 rw [run_callFunc_extern Tryz.func186 (by kernel_rfl) (by kernel_rfl) (by kernel_rfl) (e:=Extern.BytealgCompare.compare) (by kernel_rfl),Lib.run_compareString]
 simp only [Result.andThen]
 rw [Oper.upon_value]
 go_wp2
 go_ret
 exact ⟨rfl,rfl⟩
theorem compare_any (a b:Str) (w:World):Calls Tryz.prog 142 #[SV a,SV b] w fun e w' => e = .returned (.int .i64 (Lib.compareBytes a b))∧w' = w:=by
 go_enter Tryz.func142,Tryz.ntmps142
 go_wp2_with (go_at_call 169;refine (cmp_any _ _ _).mono ?_;rintro e w' ⟨rfl,rfl⟩)
 go_ret
 exact ⟨rfl,rfl⟩
def markN (a b:Option Nat):Nat:=if a = b then 0 else if b = none then 45 else if a = none then 43 else 126
abbrev ptrO (a:Option Nat):Value:=.pointer (a.map fun b => ⟨b,0,none⟩)
theorem ptr_nil (w:World) (b:Nat):(binOp .eql 131 (.pointer none) (ptrV b)).run Tryz.prog w = .ok (.bool false) w:=by
 have h:∀ d:Nat,(Op.equalIn (d + 1) 131 (.pointer none) (ptrV b)).run Tryz.prog w = .ok false w:=fun d => by
  simp [Op.equalIn,run_underlying Tryz.underlying131,sizeOf,typeInfo]
 simp only [binOp]
 simp [Op.equal,Op.maxDepth,h 9999]
theorem ptr_same (w:World) (b:Nat):(binOp .eql 131 (ptrV b) (ptrV b)).run Tryz.prog w = .ok (.bool true) w:=by
 obtain ⟨j,hj,_⟩:=info_size (P:=Tryz.prog) (t:=135) (n:=2) (by kernel_rfl)
 exact run_eql_ptr_same w _ Tryz.underlying131 hj
theorem ptr_ne {w:World} {b b' : Nat} {c c' : Array Value} (hne:b ≠ b') (hb:w.heap[b]? = some (.cells c 135 (0,0))) (hb' : w.heap[b']? = some (.cells c' 135 (0,0))):(binOp .eql 131 (ptrV b) (ptrV b')).run Tryz.prog w = .ok (.bool false) w:=by
 obtain ⟨j,hj,hs⟩:=info_size (P:=Tryz.prog) (t:=135) (n:=2) (by kernel_rfl)
 exact run_eql_ptr_other w Tryz.underlying131 hj (by omega) (fun h => hne (congrArg Addr.block h)) hb hb'
set_option maxHeartbeats 1000000 in
set_option maxRecDepth 100000 in
theorem markOf_any (a b:Option Nat) (w:World) (ha:∀ k,a = some k→∃ c,w.heap[k]? = some (.cells c 135 (0,0))) (hb:∀ k,b = some k→∃ c,w.heap[k]? = some (.cells c 135 (0,0))) :
  Calls Tryz.prog 74 #[ptrO a,ptrO b] w fun e w' => e = .returned (.int .u8 (markN a b))∧w' = w:=by
 cases a with
 | none =>
  cases b with
  | none =>
   simp only [ptrO,Option.map_none]
   go_enter Tryz.func74,Tryz.ntmps74
   go_wp2
   go_ret
   exact ⟨rfl,rfl⟩
  | some b =>
   have h1:=ptr_nil w b
   simp only [ptrO,Option.map_none,Option.map_some]
   go_enter Tryz.func74,Tryz.ntmps74
   go_wp2
   go_ret
   exact ⟨rfl,rfl⟩
 | some a =>
  cases b with
  | none =>
   simp only [ptrO,Option.map_none,Option.map_some]
   go_enter Tryz.func74,Tryz.ntmps74
   go_wp2
   go_ret
   exact ⟨rfl,rfl⟩
  | some b =>
   simp only [ptrO,Option.map_some]
   by_cases e:a = b
   ·subst e
    have h1:=ptr_same w a
    have R:Hid (markN (some a) (some a) = 0):=by simp [Hid,markN]
    go_enter Tryz.func74,Tryz.ntmps74
    go_wp2
    go_ret
    exact ⟨by rw [R.out];rfl,rfl⟩
   ·obtain ⟨c,hc⟩:=ha a rfl
    obtain ⟨c',hc'⟩:=hb b rfl
    have h1:=ptr_ne e hc hc'
    have R:Hid (markN (some a) (some b) = 126):=by simp [Hid,markN,e]
    clear ha hb hc hc'
    go_enter Tryz.func74,Tryz.ntmps74
    go_wp2
    go_ret
    exact ⟨by rw [R.out];rfl,rfl⟩
set_option maxRecDepth 100000 in
theorem apart_file (b:Nat) (w:World):Calls Tryz.prog 73 #[fileV b] w fun e w' => e = .returned (.tuple #[ptrV b,ptrV w.heap.size])∧w' = w.alloc (.cells (listCells []).toArray 147):=by
 have h1:=Tryz.assertFile b
 go_enter Tryz.func73,Tryz.ntmps73
 go_wp2
 go_ret2
 exact ⟨rfl,rfl⟩
set_option maxRecDepth 100000 in
theorem apart_nil (w:World):Calls Tryz.prog 73 #[.nilIface] w fun e w' => e = .returned (.tuple #[.pointer none,ptrV w.heap.size])∧w' = w.alloc (.cells (listCells []).toArray 147):=by
 have h1:=Tryz.assertNil1
 have h2:=Tryz.assertNil2
 go_enter Tryz.func73,Tryz.ntmps73
 go_wp2
 go_ret2
 exact ⟨rfl,rfl⟩
set_option maxRecDepth 100000 in
theorem apart_dir (b:Nat) (w:World):Calls Tryz.prog 73 #[dirV b] w fun e w' => e = .returned (.tuple #[.pointer none,.pointer (some ⟨b,1,none⟩)])∧Below w.heap.size w w':=by
 have h1:=Tryz.assertDir b
 have h2:=Tryz.assertDirNo b
 go_enter Tryz.func73,Tryz.ntmps73
 go_wp2
 go_quiet (fail)
 go_wp2
 go_ret2
 exact ⟨rfl,below_drewN (Below.refl _ _) _⟩

open Go.RowKit
abbrev Ent:=Str × Value
abbrev noEnt:Ent:=([],.nilIface)
abbrev entV (e:Ent):Value:=.agg #[SV e.1,e.2]
def nextP:List Ent→List Ent→Ent × Ent
 | [],[] => (noEnt,noEnt)
 | [],b :: _ => (noEnt,b)
 | a :: _,[] => (a,noEnt)
 | a :: _,b :: _ => if Lib.compareBytes a.1 b.1 = -1 then (a,noEnt) else if Lib.compareBytes a.1 b.1 = 1 then (noEnt,b) else (a,b)
def NextOut (w:World) (p:Ent × Ent) (e:Ending) (w' : World):Prop:=e = .returned (.tuple #[entV p.1,entV p.2])∧Below w.heap.size w w'
def Forms (vs:List Ent):Prop:=∀ e ∈ vs,∃ t n,e.2 = .iface t (.pointer (some ⟨n,0,none⟩))
theorem Tryz.sizeEntry:(Tryz.prog.info? 101).map (·.size) = some 2:=by kernel_rfl
theorem results_two {fn:Func} {p q:Tmp} (h:fn.results = #[.cell p 101,.cell q 101]) (tmps:Array Value) (w:World) {a b:Nat} {x y x' y' : Value} (hp:tmps.getD p undef = ptrV a) (hq:tmps.getD q undef = ptrV b)
  (ha:w.heap[a]? = some (.cells #[x,y] 101 (0,0))) (hb:w.heap[b]? = some (.cells #[x',y'] 101 (0,0))):(results fn tmps).run Tryz.prog w = .ok (.tuple #[.agg #[x,y],.agg #[x',y']]) w:=by
 have l1:=run_loadVar_row w a 101 101 #[x,y] (0,0) _ ha Tryz.underlying101 rfl Tryz.sizeEntry
 have l2:=run_loadVar_row w b 101 101 #[x',y'] (0,0) _ hb Tryz.underlying101 rfl Tryz.sizeEntry
 rw [Array.getD_eq_getD_getElem?] at hp hq
 simp only [results,h]
 simp [Sem.run_bind,Result.andThen,hp,hq,asAddr,l1,l2]
theorem two_blocks (w:World) (a b:Obj):((w.alloc a).alloc b).heap[w.heap.size]? = some a∧((w.alloc a).alloc b).heap[w.heap.size + 1]? = some b∧Below w.heap.size w ((w.alloc a).alloc b):=by
 refine ⟨?_,?_,((Below.refl _ _).alloc (Nat.le_refl _) _).alloc (by simp) _⟩
 ·rw [Below.heap_alloc _ _ _ (by simp)];exact heap_alloc_new _ _
 ·have:=heap_alloc_new (w.alloc a) b
  simpa using this
set_option maxHeartbeats 4000000 in
set_option maxRecDepth 100000 in
theorem next_right (ba oa bb ob i j:Nat) (vs ws:List Ent) (w:World) (ha:ListAt w ba oa vs) (hb:ListAt w bb ob ws) (hw:Forms ws) (hi:i = vs.length) (hj:j < ws.length) :
  Calls Tryz.prog 108 #[.pointer (some ⟨ba,oa,none⟩),.int .i64 i,.pointer (some ⟨bb,ob,none⟩),.int .i64 j] w fun e w' => NextOut w (noEnt,ws[j]) e w':=by
 have ca:=ha.count
 have few:=hb.few
 have n1:=hb.name hj
 have n2:=hb.node hj
 have hidx:(j:Int) < 20:=by omega
 have lb:bb < w.heap.size:=World.block_lt_of_cell? w _ n1
 have la:ba < w.heap.size:=World.block_lt_of_cell? w _ ca
 obtain ⟨kt,kn,hk⟩:=hw _ (List.getElem_mem hj)
 clear ha hb hw
 subst hi
 generalize hx:ws[j] = x at *
 obtain ⟨x1,x2⟩:=x
 simp only at n1 n2 hk
 subst hk
 go_enter Tryz.func108,Tryz.ntmps108
 go_wp2
 go_region
 go_wp2
 exact bodyPost_ret (results_two (p:=8) (q:=9) (by kernel_rfl) _ _ rfl rfl (two_blocks w _ _).1 (two_blocks w _ _).2.1) rfl ⟨rfl,by first | exact (two_blocks w _ _).2.2 | exact (two_blocks w _ _).2.2.drew⟩
set_option maxHeartbeats 4000000 in
set_option maxRecDepth 100000 in
theorem next_left (ba oa bb ob i j:Nat) (vs ws:List Ent) (w:World) (ha:ListAt w ba oa vs) (hb:ListAt w bb ob ws) (hw:Forms vs) (hi:i < vs.length) (hj:j = ws.length) :
  Calls Tryz.prog 108 #[.pointer (some ⟨ba,oa,none⟩),.int .i64 i,.pointer (some ⟨bb,ob,none⟩),.int .i64 j] w fun e w' => NextOut w (vs[i],noEnt) e w':=by
 have ca:=ha.count
 have cb:=hb.count
 have few:=ha.few
 have n1:=ha.name hi
 have n2:=ha.node hi
 have hidx:(i:Int) < 20:=by omega
 have hne:((i:Int) == (vs.length:Int)) = false:=by simp;omega
 have lb:bb < w.heap.size:=World.block_lt_of_cell? w _ cb
 have la:ba < w.heap.size:=World.block_lt_of_cell? w _ ca
 obtain ⟨kt,kn,hk⟩:=hw _ (List.getElem_mem hi)
 clear ha hb hw
 subst hj
 generalize hx:vs[i] = x at *
 obtain ⟨x1,x2⟩:=x
 simp only at n1 n2 hk
 subst hk
 go_enter Tryz.func108,Tryz.ntmps108
 go_wp2
 exact bodyPost_ret (results_two (p:=8) (q:=9) (by kernel_rfl) _ _ rfl rfl (two_blocks w _ _).1 (two_blocks w _ _).2.1) rfl ⟨rfl,by first | exact (two_blocks w _ _).2.2 | exact (two_blocks w _ _).2.2.drew⟩
set_option maxHeartbeats 4000000 in
set_option maxRecDepth 100000 in
theorem next_both (ba oa bb ob i j:Nat) (vs ws:List Ent) (w:World) (ha:ListAt w ba oa vs) (hb:ListAt w bb ob ws) (hv:Forms vs) (hw:Forms ws) (hi:i < vs.length) (hj:j < ws.length) :
  Calls Tryz.prog 108 #[.pointer (some ⟨ba,oa,none⟩),.int .i64 i,.pointer (some ⟨bb,ob,none⟩),.int .i64 j] w fun e w' => NextOut w (if Lib.compareBytes vs[i].1 ws[j].1 = -1 then (vs[i],noEnt) else if Lib.compareBytes vs[i].1 ws[j].1 = 1 then (noEnt,ws[j]) else (vs[i],ws[j])) e w':=by
 have ca:=ha.count
 have cb:=hb.count
 have few:=ha.few
 have few':=hb.few
 have n1:=ha.name hi
 have n2:=ha.node hi
 have m1:=hb.name hj
 have m2:=hb.node hj
 have hidx:(i:Int) < 20:=by omega
 have hjdx:(j:Int) < 20:=by omega
 have hne:((i:Int) == (vs.length:Int)) = false:=by simp;omega
 have hnf:((j:Int) == (ws.length:Int)) = false:=by simp;omega
 have lb:bb < w.heap.size:=World.block_lt_of_cell? w _ cb
 have la:ba < w.heap.size:=World.block_lt_of_cell? w _ ca
 obtain ⟨kt,kn,hk⟩:=hv _ (List.getElem_mem hi)
 obtain ⟨kt',kn',hk'⟩:=hw _ (List.getElem_mem hj)
 clear ha hb hv hw
 generalize hx:vs[i] = x at *
 generalize hy:ws[j] = y at *
 obtain ⟨x1,x2⟩:=x
 obtain ⟨y1,y2⟩:=y
 simp only at n1 n2 hk m1 m2 hk'
 subst hk
 subst hk'
 by_cases h1:Lib.compareBytes x1 y1 = -1
 ·simp only [h1,if_true]
  go_enter Tryz.func108,Tryz.ntmps108
  go_wp2
  go_region
  go_wp2_with (go_at_call 142;refine (compare_any _ _ _).mono ?_;rintro e w' ⟨rfl,rfl⟩;rw [h1])
  exact bodyPost_ret (results_two (p:=8) (q:=9) (by kernel_rfl) _ _ rfl rfl (two_blocks w _ _).1 (two_blocks w _ _).2.1) rfl ⟨rfl,by first | exact (two_blocks w _ _).2.2 | exact (two_blocks w _ _).2.2.drew | exact (two_blocks w _ _).2.2.drew.drew⟩
 ·by_cases h2:Lib.compareBytes x1 y1 = 1
  ·rw [if_neg h1,if_pos h2]
   go_enter Tryz.func108,Tryz.ntmps108
   go_wp2
   go_region
   go_wp2_with (go_at_call 142;refine (compare_any _ _ _).mono ?_;rintro e w' ⟨rfl,rfl⟩;rw [h2])
   go_region
   go_wp2
   exact bodyPost_ret (results_two (p:=8) (q:=9) (by kernel_rfl) _ _ rfl rfl (two_blocks w _ _).1 (two_blocks w _ _).2.1) rfl ⟨rfl,by first | exact (two_blocks w _ _).2.2 | exact (two_blocks w _ _).2.2.drew | exact (two_blocks w _ _).2.2.drew.drew⟩
  ·rw [if_neg h1,if_neg h2]
   have hc1:(Lib.compareBytes x1 y1 == -1) = false:=by simp [h1]
   have hc2:(Lib.compareBytes x1 y1 == 1) = false:=by simp [h2]
   clear h1 h2
   generalize hcc:Lib.compareBytes x1 y1 = cc at *
   go_enter Tryz.func108,Tryz.ntmps108
   go_wp2
   go_region
   go_wp2_with (go_at_call 142;refine (compare_any _ _ _).mono ?_;rintro e w' ⟨rfl,rfl⟩;rw [hcc])
   go_region
   go_wp2
   exact bodyPost_ret (results_two (p:=8) (q:=9) (by kernel_rfl) _ _ rfl rfl (two_blocks w _ _).1 (two_blocks w _ _).2.1) rfl ⟨rfl,by first | exact (two_blocks w _ _).2.2 | exact (two_blocks w _ _).2.2.drew | exact (two_blocks w _ _).2.2.drew.drew⟩
theorem next_any (ba oa bb ob i j:Nat) (vs ws:List Ent) (w:World) (ha:ListAt w ba oa vs) (hb:ListAt w bb ob ws) (hv:Forms vs) (hw:Forms ws) (hi:i ≤ vs.length) (hj:j ≤ ws.length) (hij:i < vs.length∨j < ws.length) :
  Calls Tryz.prog 108 #[.pointer (some ⟨ba,oa,none⟩),.int .i64 i,.pointer (some ⟨bb,ob,none⟩),.int .i64 j] w fun e w' => NextOut w (nextP (vs.drop i) (ws.drop j)) e w':=by
 by_cases h1:i < vs.length
 ·by_cases h2:j < ws.length
  ·have:=next_both ba oa bb ob i j vs ws w ha hb hv hw h1 h2
   rw [List.drop_eq_getElem_cons h1,List.drop_eq_getElem_cons h2]
   exact this
  ·have:=next_left ba oa bb ob i j vs ws w ha hb hv h1 (by omega)
   rw [List.drop_eq_getElem_cons h1,List.drop_eq_nil_of_le (by omega:ws.length ≤ j)]
   exact this
 ·have h2:j < ws.length:=by omega
  have:=next_right ba oa bb ob i j vs ws w ha hb hw (by omega) h2
  rw [List.drop_eq_nil_of_le (by omega:vs.length ≤ i),List.drop_eq_getElem_cons h2]
  exact this
end Go.Proofs.YtdcbgfhkfmohiaaGreatDoor

namespace Go.Proofs.YtdcbgfhkfmohiaaGreatDoor
open Go.RowKit Go.Shelf
def pairsL:List Ent→List Ent→List (Ent × Ent)
 | [],[] => []
 | [],b :: ws => (noEnt,b) :: pairsL [] ws
 | a :: vs,[] => (a,noEnt) :: pairsL vs []
 | a :: vs,b :: ws => if Lib.compareBytes a.1 b.1 = -1 then (a,noEnt) :: pairsL vs (b :: ws) else if Lib.compareBytes a.1 b.1 = 1 then (noEnt,b) :: pairsL (a :: vs) ws else (a,b) :: pairsL vs ws
termination_by vs ws => vs.length + ws.length
theorem pairs_step {vs ws:List Ent} (hv:Forms vs) (hw:Forms ws) (h:vs ≠ []∨ws ≠ []) :
  (∃ t n,(nextP vs ws).1.2 = .iface t (.pointer (some ⟨n,0,none⟩))∧(nextP vs ws).2 = noEnt∧pairsL vs ws = nextP vs ws :: pairsL (vs.drop 1) ws∧vs ≠ []) ∨
  (∃ t n,(nextP vs ws).2.2 = .iface t (.pointer (some ⟨n,0,none⟩))∧(nextP vs ws).1 = noEnt∧pairsL vs ws = nextP vs ws :: pairsL vs (ws.drop 1)∧ws ≠ []) ∨
  (∃ t n t' n',(nextP vs ws).1.2 = .iface t (.pointer (some ⟨n,0,none⟩))∧(nextP vs ws).2.2 = .iface t' (.pointer (some ⟨n',0,none⟩))∧pairsL vs ws = nextP vs ws :: pairsL (vs.drop 1) (ws.drop 1)∧vs ≠ []∧ws ≠ []):=by
 cases vs with
 | nil =>
  cases ws with
  | nil => simp at h
  | cons b ws =>
   obtain ⟨t,n,e⟩:=hw b (by simp)
   right;left
   exact ⟨t,n,e,rfl,by rw [pairsL];rfl,by simp⟩
 | cons a vs =>
  obtain ⟨t,n,e⟩:=hv a (by simp)
  cases ws with
  | nil =>
   left
   exact ⟨t,n,e,rfl,by rw [pairsL];rfl,by simp⟩
  | cons b ws =>
   obtain ⟨t',n',e'⟩:=hw b (by simp)
   simp only [nextP]
   rw [pairsL]
   by_cases h1:Lib.compareBytes a.1 b.1 = -1
   ·left
    rw [if_pos h1,if_pos h1]
    exact ⟨t,n,e,rfl,rfl,by simp⟩
   ·by_cases h2:Lib.compareBytes a.1 b.1 = 1
    ·right;left
     rw [if_neg h1,if_pos h2,if_neg h1,if_pos h2]
     exact ⟨t',n',e',rfl,rfl,by simp⟩
    ·right;right
     rw [if_neg h1,if_neg h2,if_neg h1,if_neg h2]
     exact ⟨t,n,t',n',e,e',rfl,by simp,by simp⟩
theorem pairs_any (pa pb:Addr) (w:World) :
  Calls Tryz.prog 75 #[.pointer (some pa),.pointer (some pb)] w fun e w' => e = .returned (.func (.func 107) #[] #[ptrV w.heap.size,ptrV (w.heap.size + 1)])∧w' = (w.alloc (.cells #[.pointer (some pa)] 151)).alloc (.cells #[.pointer (some pb)] 151):=by
 go_enter Tryz.func75,Tryz.ntmps75
 go_wp2
 go_ret
 exact ⟨rfl,rfl⟩
theorem iface_someN (k:Nat) (x:Value) (w:World):(binOp .neq 99 (.iface k x) .nilIface).run Tryz.prog w = .ok (.bool true) w:=by
 have h:(Op.equalIn 10000 99 (.iface k x) .nilIface).run Tryz.prog w = .ok false w:=by
  rw [show (10000:Nat) = 9999 + 1 from rfl,Op.equalIn];simp only [Sem.run_bind,run_underlying Tryz.underlying99,Result.andThen_ok];rfl
 simp only [binOp]
 simp [Op.equal,Op.maxDepth,h]
theorem iface_noneN (w:World):(binOp .neq 99 .nilIface .nilIface).run Tryz.prog w = .ok (.bool false) w:=by
 have h:(Op.equalIn 10000 99 .nilIface .nilIface).run Tryz.prog w = .ok true w:=by
  rw [show (10000:Nat) = 9999 + 1 from rfl,Op.equalIn];simp only [Sem.run_bind,run_underlying Tryz.underlying99,Result.andThen_ok];rfl
 simp only [binOp]
 simp [Op.equal,Op.maxDepth,h]
abbrev encP (p:Ent × Ent):Array Value:=#[entV p.1,entV p.2]
theorem ListAt.kept {W W' : World} {b o:Nat} {vs:List Ent} (h:ListAt W b o vs) (he:W'.heap[b]? = W.heap[b]?):ListAt W' b o vs :=
 ⟨h.few,fun i u hu => by
  have:=h.cell i u hu
  unfold World.cell? at this ⊢
  simp only [he];exact this⟩
set_option maxHeartbeats 8000000 in
set_option maxRecDepth 100000 in
theorem pairs_seq (x1 x2 ba oa bb ob:Nat) (vs ws:List Ent) (w:World) (h1:w.heap[x1]? = some (.cells #[.pointer (some ⟨ba,oa,none⟩)] 151 (0,0))) (h2:w.heap[x2]? = some (.cells #[.pointer (some ⟨bb,ob,none⟩)] 151 (0,0)))
  (ha:ListAt w ba oa vs) (hb:ListAt w bb ob ws) (hv:Forms vs) (hw:Forms ws) :
  SeqOf Tryz.prog 107 #[ptrV x1,ptrV x2] encP (pairsL vs ws) (fun k => k = x1∨k = x2∨k = ba∨k = bb) w:=by
 intro n m l J O W hsz hR hloc hY h0
 have few:=ha.few
 have few':=hb.few
 have RR:Hid (∀ W' O',Turn O W W' O'→W'.heap[x1]? = w.heap[x1]?∧W'.heap[x2]? = w.heap[x2]?∧ListAt W' ba oa vs∧ListAt W' bb ob ws):=by
  intro W' O' ht
  have hk:∀ k,(k = x1∨k = x2∨k = ba∨k = bb)→W'.heap[k]? = w.heap[k]?:=fun k hk => (ht.blk k (Nat.lt_of_lt_of_le (hR k hk).1 hsz) (hR k hk).2.2).trans (hR k hk).2.1
  exact ⟨hk _ (.inl rfl),hk _ (.inr (.inl rfl)),ha.kept (hk _ (.inr (.inr (.inl rfl)))),hb.kept (hk _ (.inr (.inr (.inr rfl))))⟩
 have HY:Hid _:=hY
 have HL:Hid _:=hloc
 have HV:Hid _:=hv
 have HW:Hid _:=hw
 have HX:Hid (w.heap[x1]? = some (.cells #[.pointer (some ⟨ba,oa,none⟩)] 151 (0,0))∧w.heap[x2]? = some (.cells #[.pointer (some ⟨bb,ob,none⟩)] 151 (0,0))):=⟨h1,h2⟩
 clear hY hloc hR h1 h2 ha hb hv hw
 refine callsIn_of_wp Tryz.func107 rfl trivial ?_ rfl
 simp only [Tryz.ntmps107,List.size_toArray,List.length_cons,List.length_nil,Nat.reduceAdd,Nat.reduceSub,Array.replicate_succ,Array.replicate_zero,List.push_toArray,List.append_toArray,List.nil_append,List.cons_append]
 gi_wp2
 gi_loopw [4,5] (fun i j wr => ∃ (ki kj:Nat) (pre:List (Ent × Ent)) (O1:Nat→Prop),i = .int .i64 ki∧j = .int .i64 kj∧ki ≤ vs.length∧kj ≤ ws.length∧pre ++ pairsL (vs.drop ki) (ws.drop kj) = pairsL vs ws∧J pre O1 wr∧Turn O W wr O1)
  (fun i j _ => (vs.length - (intOf i).toNat) + (ws.length - (intOf j).toNat))
 case atStart => exact ⟨0,0,[],O,rfl,rfl,Nat.zero_le _,Nat.zero_le _,by simp,h0,Turn.refl _ _⟩
 case round =>
  obtain ⟨ki,kj,pre,O1,rfl,rfl,hki,hkj,hpre,hj,ht⟩:=hrel
  obtain ⟨hx1,hx2,hla,hlb⟩:=RR.out wr O1 ht
  have c1:wr.cell? ⟨x1,0,none⟩ = some (.pointer (some ⟨ba,oa,none⟩)):=(blk_cell (hx1.trans HX.out.1) 0).trans rfl
  have c2:wr.cell? ⟨x2,0,none⟩ = some (.pointer (some ⟨bb,ob,none⟩)):=(blk_cell (hx2.trans HX.out.2) 0).trans rfl
  have na:=hla.count
  have nb:=hlb.count
  have HT:Hid _:=ht
  have HJ:Hid _:=hj
  have HP:Hid _:=hpre
  have HLA:Hid _:=hla
  have HLB:Hid _:=hlb
  clear ht hj hpre hla hlb hx1 hx2
  by_cases hend:ki = vs.length∧kj = ws.length
  ·obtain ⟨rfl,rfl⟩:=hend
   gi_wp2
   go_end0
   have e:pre = pairsL vs ws:=by rw [← HP.out];simp [pairsL]
   exact ⟨⟨_,rfl⟩,O1,e ▸ HJ.out,HT.out⟩
  ·have C:Hid (Calls Tryz.prog 108 #[.pointer (some ⟨ba,oa,none⟩),.int .i64 ki,.pointer (some ⟨bb,ob,none⟩),.int .i64 kj] wr fun e w' => NextOut wr (nextP (vs.drop ki) (ws.drop kj)) e w') :=
    next_any ba oa bb ob ki kj vs ws wr HLA.out HLB.out HV.out HW.out hki hkj (by omega)
   have hg:(decide (ki < vs.length) = true)∨(decide (ki < vs.length) = false∧decide (kj < ws.length) = true):=by
    by_cases h:ki < vs.length
    ·left;simpa using h
    ·right;simp;omega
   have hst:=pairs_step (vs:=vs.drop ki) (ws:=ws.drop kj) (fun e he => HV.out e (List.mem_of_mem_drop he)) (fun e he => HW.out e (List.mem_of_mem_drop he)) (by
    by_cases h:ki < vs.length
    ·left;intro h2;have:=congrArg List.length h2;simp at this;omega
    ·right;intro h2;have:=congrArg List.length h2;simp at this;omega)
   have HG:Hid _:=hg
   generalize nextP (vs.drop ki) (ws.drop kj) = p at *
   obtain ⟨⟨a1,v1⟩,⟨a2,v2⟩⟩:=p
   have fin:∀ (ki' kj' : Nat),ki' ≤ vs.length→kj' ≤ ws.length→pairsL (vs.drop ki) (ws.drop kj) = ((a1,v1),(a2,v2)) :: pairsL (vs.drop ki') (ws.drop kj')→∀ w1,Below wr.heap.size wr w1 →
     YieldAt Fence.wide m Tryz.prog l (encP ((a1,v1),(a2,v2))) ((w1.alloc (.cells #[SV a1,v1] 101)).alloc (.cells #[SV a2,v2] 101)) fun e W4 => e = .returned (.bool true) ∧
      W4.cell? ⟨w1.heap.size,1,none⟩ = some v1∧W4.cell? ⟨w1.heap.size + 1,1,none⟩ = some v2∧∃ pre' O',pre' ++ pairsL (vs.drop ki') (ws.drop kj') = pairsL vs ws∧J pre' O' W4∧Turn O W W4 O':=by
    intro ki' kj' h1 h2 hp w1 hb1
    have hsz1:=hb1.size
    have hb3:Below wr.heap.size wr ((w1.alloc (.cells #[SV a1,v1] 101)).alloc (.cells #[SV a2,v2] 101)):=(hb1.alloc hsz1 _).alloc (by simp;omega) _
    have tb:=two_blocks w1 (.cells #[SV a1,v1] 101) (.cells #[SV a2,v2] 101)
    generalize hW3:(w1.alloc (.cells #[SV a1,v1] 101)).alloc (.cells #[SV a2,v2] 101) = W3 at *
    have hlt:=((HL.out pre).lt O1 wr HJ.out).2
    have hpx:pre ++ [((a1,v1),(a2,v2))] <+: pairsL vs ws:=⟨pairsL (vs.drop ki') (ws.drop kj'),by rw [← HP.out,hp];simp⟩
    refine YieldAt.mono (HY.out pre ((a1,v1),(a2,v2)) O1 W3 ((HL.out pre).below HJ.out hb3) hpx) ?_
    rintro e W4 ⟨he,O',hJ',ht'⟩
    have k1:W4.heap[w1.heap.size]? = some (.cells #[SV a1,v1] 101 (0,0)):=(ht'.blk _ (Array.getElem?_eq_some_iff.1 tb.1).1 (fun h => by have:=hlt _ h;omega)).trans tb.1
    have k2:W4.heap[w1.heap.size + 1]? = some (.cells #[SV a2,v2] 101 (0,0)):=(ht'.blk _ (Array.getElem?_eq_some_iff.1 tb.2.1).1 (fun h => by have:=hlt _ h;omega)).trans tb.2.1
    exact ⟨he,(blk_cell k1 1).trans rfl,(blk_cell k2 1).trans rfl,_,O',by rw [← HP.out,hp];simp,hJ',HT.out.trans ((Turn.of_below hb3).trans ht')⟩
   rcases hst with ⟨t,q,h1,h2,h3,h4⟩ | ⟨t,q,h1,h2,h3,h4⟩ | ⟨t,q,t',q',h1,h2,h3,h4,h5⟩
   ·simp only [Prod.mk.injEq] at h1 h2
    obtain ⟨rfl,rfl⟩:=h2
    subst h1
    have hlt1:ki < vs.length:=by
     refine Classical.byContradiction fun h => h4 ?_
     rw [List.drop_eq_nil_of_le (by omega)]
    rw [List.drop_drop] at h3
    have F1:Hid _:=fin (ki + 1) kj (by omega) hkj h3
    clear fin h3 h4
    rcases HG.out with hg | ⟨hg,hg'⟩
    all_goals
     gi_wp2_with fail
     refine ⟨trivial,fun h => (by cases h),(callsIn_wide.2 C.out).mono ?_⟩
     rintro e w1 ⟨rfl,hb1⟩
     obtain ⟨fn,tmps,assign,body,hy,hR⟩:=F1.out w1 hb1
     gi_wp2
     refine ⟨fun h => (by cases h),(round_any hR).mono ?_⟩
     clear hy hR
     rintro e W4 ⟨rfl,cL,cR,pre',O',hp',hJ',ht'⟩
     have HR4:Hid _:=And.intro hp' (And.intro hJ' ht')
     clear hp' hJ' ht'
     have hin:=iface_someN
     have hi0:=iface_noneN
     gi_wp2
     go_roundw
     case rel => exact ⟨ki + 1,kj,pre',O',by go_num,by go_num,by omega,by omega,HR4.out.1,HR4.out.2.1,HR4.out.2.2⟩
     case measure => simp [intOf];omega
   ·simp only [Prod.mk.injEq] at h1 h2
    obtain ⟨rfl,rfl⟩:=h2
    subst h1
    have hlt1:kj < ws.length:=by
     refine Classical.byContradiction fun h => h4 ?_
     rw [List.drop_eq_nil_of_le (by omega)]
    rw [List.drop_drop] at h3
    have F1:Hid _:=fin ki (kj + 1) hki (by omega) h3
    clear fin h3 h4
    rcases HG.out with hg | ⟨hg,hg'⟩
    all_goals
     gi_wp2_with fail
     refine ⟨trivial,fun h => (by cases h),(callsIn_wide.2 C.out).mono ?_⟩
     rintro e w1 ⟨rfl,hb1⟩
     obtain ⟨fn,tmps,assign,body,hy,hR⟩:=F1.out w1 hb1
     gi_wp2
     refine ⟨fun h => (by cases h),(round_any hR).mono ?_⟩
     clear hy hR
     rintro e W4 ⟨rfl,cL,cR,pre',O',hp',hJ',ht'⟩
     have HR4:Hid _:=And.intro hp' (And.intro hJ' ht')
     clear hp' hJ' ht'
     have hin:=iface_someN
     have hi0:=iface_noneN
     gi_wp2
     go_roundw
     case rel => exact ⟨ki,kj + 1,pre',O',by go_num,by go_num,by omega,by omega,HR4.out.1,HR4.out.2.1,HR4.out.2.2⟩
     case measure => simp [intOf];omega
   ·simp only at h1 h2
    subst h1
    subst h2
    have hlt1:ki < vs.length:=by
     refine Classical.byContradiction fun h => h4 ?_
     rw [List.drop_eq_nil_of_le (by omega)]
    have hlt2:kj < ws.length:=by
     refine Classical.byContradiction fun h => h5 ?_
     rw [List.drop_eq_nil_of_le (by omega)]
    rw [List.drop_drop,List.drop_drop] at h3
    have F1:Hid _:=fin (ki + 1) (kj + 1) (by omega) (by omega) h3
    clear fin h3 h4 h5
    rcases HG.out with hg | ⟨hg,hg'⟩
    all_goals
     gi_wp2_with fail
     refine ⟨trivial,fun h => (by cases h),(callsIn_wide.2 C.out).mono ?_⟩
     rintro e w1 ⟨rfl,hb1⟩
     obtain ⟨fn,tmps,assign,body,hy,hR⟩:=F1.out w1 hb1
     gi_wp2
     refine ⟨fun h => (by cases h),(round_any hR).mono ?_⟩
     clear hy hR
     rintro e W4 ⟨rfl,cL,cR,pre',O',hp',hJ',ht'⟩
     have HR4:Hid _:=And.intro hp' (And.intro hJ' ht')
     clear hp' hJ' ht'
     have hin:=iface_someN
     have hi0:=iface_noneN
     gi_wp2
     go_roundw
     case rel => exact ⟨ki + 1,kj + 1,pre',O',by go_num,by go_num,by omega,by omega,HR4.out.1,HR4.out.2.1,HR4.out.2.2⟩
     case measure => simp [intOf];omega
end Go.Proofs.YtdcbgfhkfmohiaaGreatDoor

namespace Go.Proofs.YtdcbgfhkfmohiaaGreatDoor
open Go.RowKit
def entO (ad:Tree→Nat) (x:Str):Option Tree→Ent
 | none => noEnt
 | some t => (x,valT ad t)
def Bank.hasO (B:Bank):Option Tree→Prop
 | none => True
 | some t => B.has t
def entsO:Option Tree→Ents
 | some (.dir es) => es
 | _ => []
def fileO:Option Tree→Option Str
 | some (.file d) => some d
 | _ => none
def pairsT:Ents→Ents→List (Str × Option Tree × Option Tree)
 | [],[] => []
 | [],(y,u) :: fs => (y,none,some u) :: pairsT [] fs
 | (x,t) :: es,[] => (x,some t,none) :: pairsT es []
 | (x,t) :: es,(y,u) :: fs => if Lib.compareBytes x y = -1 then (x,some t,none) :: pairsT es ((y,u) :: fs) else if Lib.compareBytes x y = 1 then (y,none,some u) :: pairsT ((x,t) :: es) fs else (x,some t,some u) :: pairsT es fs
termination_by es fs => es.length + fs.length
theorem cmp_eq:∀ {a b:Str},Lib.compareBytes a b ≠ -1→Lib.compareBytes a b ≠ 1→a = b
 | [],[],_,_ => rfl
 | [],_ :: _,h,_ => by simp [Lib.compareBytes] at h
 | _ :: _,[],_,h => by simp [Lib.compareBytes] at h
 | a :: xs,b :: ys,h,h' => by
  unfold Lib.compareBytes at h h'
  by_cases h1:a < b
  ·rw [if_pos h1] at h;exact absurd rfl h
  ·by_cases h2:b < a
   ·rw [if_neg h1,if_pos h2] at h';exact absurd rfl h'
   ·rw [if_neg h1,if_neg h2] at h h'
    have e1:a = b:=by
     have h3:¬ a.toNat < b.toNat:=h1
     have h4:¬ b.toNat < a.toNat:=h2
     exact UInt8.toNat_inj.1 (by omega)
    rw [e1,cmp_eq h h']
theorem pairs_vals (ad:Tree→Nat) (n:Nat):∀ es fs:Ents,es.length + fs.length ≤ n→pairsL (valsE ad es) (valsE ad fs) = (pairsT es fs).map fun p => (entO ad p.1 p.2.1,entO ad p.1 p.2.2):=by
 induction n with
 | zero =>
  intro es fs h
  obtain rfl:es = []:=List.length_eq_zero_iff.1 (by omega)
  obtain rfl:fs = []:=List.length_eq_zero_iff.1 (by omega)
  simp [valsE,pairsL,pairsT]
 | succ n ih =>
  intro es fs h
  cases es with
  | nil =>
   cases fs with
   | nil => simp [valsE,pairsL,pairsT]
   | cons f fs =>
    have:=ih [] fs (by simp at h ⊢;omega)
    simp only [valsE,List.map_nil,List.map_cons] at this ⊢
    rw [pairsL,pairsT,this];rfl
  | cons e es =>
   cases fs with
   | nil =>
    have:=ih es [] (by simp at h ⊢;omega)
    simp only [valsE,List.map_nil,List.map_cons] at this ⊢
    rw [pairsL,pairsT,this];rfl
   | cons f fs =>
    have i1:=ih es (f :: fs) (by simp at h ⊢;omega)
    have i2:=ih (e :: es) fs (by simp at h ⊢;omega)
    have i3:=ih es fs (by simp at h ⊢;omega)
    simp only [valsE,List.map_cons] at i1 i2 i3 ⊢
    rw [pairsL,pairsT]
    by_cases h1:Lib.compareBytes e.1 f.1 = -1
    ·simp only [h1,if_true];rw [i1];rfl
    ·by_cases h2:Lib.compareBytes e.1 f.1 = 1
     ·rw [if_neg h1,if_pos h2,if_neg h1,if_pos h2,i2];rfl
     ·rw [if_neg h1,if_neg h2,if_neg h1,if_neg h2,i3]
      simp only [List.map_cons,entO]
      rw [cmp_eq h1 h2]
theorem pairs_mem {n:Nat}:∀ {es fs:Ents},es.length + fs.length ≤ n→∀ p ∈ pairsT es fs,(∀ t,p.2.1 = some t→(p.1,t) ∈ es)∧(∀ t,p.2.2 = some t→∃ y,(y,t) ∈ fs∧(p.1 = y))∧(p.2.1 = none→p.2.2 ≠ none):=by
 induction n with
 | zero =>
  intro es fs h p hp
  obtain rfl:es = []:=List.length_eq_zero_iff.1 (by omega)
  obtain rfl:fs = []:=List.length_eq_zero_iff.1 (by omega)
  simp [pairsT] at hp
 | succ n ih =>
  intro es fs h p hp
  cases es with
  | nil =>
   cases fs with
   | nil => simp [pairsT] at hp
   | cons f fs =>
    rw [pairsT] at hp
    simp only [List.mem_cons] at hp
    rcases hp with rfl | hp
    ·simp
    ·obtain ⟨h1,h2,h3⟩:=ih (es:=[]) (fs:=fs) (by simp at h ⊢;omega) p hp
     exact ⟨h1,fun t ht => by obtain ⟨y,hy,e⟩:=h2 t ht;exact ⟨y,by simp [hy],e⟩,h3⟩
  | cons e es =>
   cases fs with
   | nil =>
    rw [pairsT] at hp
    simp only [List.mem_cons] at hp
    rcases hp with rfl | hp
    ·simp
    ·obtain ⟨h1,h2,h3⟩:=ih (es:=es) (fs:=[]) (by simp at h ⊢;omega) p hp
     exact ⟨fun t ht => by simp [h1 t ht],h2,h3⟩
   | cons f fs =>
    rw [pairsT] at hp
    by_cases c1:Lib.compareBytes e.1 f.1 = -1
    ·rw [if_pos c1] at hp
     simp only [List.mem_cons] at hp
     rcases hp with rfl | hp
     ·simp
     ·obtain ⟨h1,h2,h3⟩:=ih (es:=es) (fs:=f :: fs) (by simp at h ⊢;omega) p hp
      exact ⟨fun t ht => by simp [h1 t ht],h2,h3⟩
    ·by_cases c2:Lib.compareBytes e.1 f.1 = 1
     ·rw [if_neg c1,if_pos c2] at hp
      simp only [List.mem_cons] at hp
      rcases hp with rfl | hp
      ·simp
      ·obtain ⟨h1,h2,h3⟩:=ih (es:=e :: es) (fs:=fs) (by simp at h ⊢;omega) p hp
       exact ⟨h1,fun t ht => by obtain ⟨y,hy,e⟩:=h2 t ht;exact ⟨y,by simp [hy],e⟩,h3⟩
     ·rw [if_neg c1,if_neg c2] at hp
      simp only [List.mem_cons] at hp
      rcases hp with rfl | hp
      ·refine ⟨by simp,?_,by simp⟩
       intro t ht
       simp only [Option.some.injEq] at ht
       subst ht
       exact ⟨f.1,by simp,cmp_eq c1 c2⟩
      ·obtain ⟨h1,h2,h3⟩:=ih (es:=es) (fs:=fs) (by simp at h ⊢;omega) p hp
       exact ⟨fun t ht => by simp [h1 t ht],fun t ht => by obtain ⟨y,hy,e⟩:=h2 t ht;exact ⟨y,by simp [hy],e⟩,h3⟩
def fitsT:Nat→Option Tree→Prop
 | _,none => True
 | 0,some _ => False
 | _ + 1,some (.file _) => True
 | n + 1,some (.dir es) => ∀ e ∈ es,e.1 ≠ []∧e.1.length ≤ 8∧fitsT n (some e.2)
def markT (a b:Option Tree):Nat:=match fileO a,fileO b with
 | none,none => 0
 | some _,none => 45
 | none,some _ => 43
 | some d,some e => if d = e then 0 else 126
open Classical in
noncomputable def chgS:Nat→Str→Option Tree→Option Tree→List (Str × Nat)
 | 0,_,_,_ => []
 | n + 1,path,a,b => if a = b then [] else (if markT a b = 0 then [] else [(path,markT a b)]) ++ (pairsT (entsO a) (entsO b)).flatMap fun p => chgS n (joinS path p.1) p.2.1 p.2.2
theorem changes_any (e1 e2:Ent) (s:Str) (w:World) (h1:e1.2.oneCell' = true) (h2:e2.2.oneCell' = true) :
  Calls Tryz.prog 46 #[entV e1,entV e2,SV s] w fun e w' => e = .returned (.func (.func 71) #[] #[ptrV w.heap.size,ptrV (w.heap.size + 1),ptrV (w.heap.size + 2)]) ∧
   w' = ((w.alloc (.cells #[SV e1.1,e1.2] 101)).alloc (.cells #[SV e2.1,e2.2] 101)).alloc (.cells #[SV s] 9):=by
 obtain ⟨a1,v1⟩:=e1
 obtain ⟨a2,v2⟩:=e2
 go_enter Tryz.func46,Tryz.ntmps46
 go_wp2
 go_ret
 exact ⟨rfl,rfl⟩
end Go.Proofs.YtdcbgfhkfmohiaaGreatDoor

namespace Go.Proofs.YtdcbgfhkfmohiaaGreatDoor
open Go.RowKit
theorem list_empty (w:World):ListAt (w.alloc (.cells (listCells []).toArray 147)) w.heap.size 0 [] :=
 ⟨by simp,fun i u hu => by
  have:=blk_cell (heap_alloc_new w (.cells (listCells []).toArray 147)) i
  rw [Nat.zero_add]
  rw [this]
  simpa using hu⟩
def ApartOut (W:World) (B:Bank) (a:Option Tree) (e:Ending) (w' : World):Prop :=
 ∃ lb lo,e = .returned (.tuple #[ptrO ((fileO a).map fun d => B.ad (.file d)),.pointer (some ⟨lb,lo,none⟩)])∧Below W.heap.size W w'∧ListAt w' lb lo (valsE B.ad (entsO a))∧(B.own lb∨W.heap.size ≤ lb)∧lb < w'.heap.size
theorem apart_any (B:Bank) (a:Option Tree) (x:Str) (W:World) (hB:BankAt W B) (ha:B.hasO a):Calls Tryz.prog 73 #[(entO B.ad x a).2] W fun e w' => ApartOut W B a e w':=by
 cases a with
 | none =>
  refine (apart_nil W).mono ?_
  rintro e w' ⟨rfl,rfl⟩
  exact ⟨_,0,rfl,(Below.refl _ _).alloc (Nat.le_refl _) _,list_empty W,.inr (Nat.le_refl _),by simp⟩
 | some t =>
  cases t with
  | file d =>
   refine (apart_file (B.ad (.file d)) W).mono ?_
   rintro e w' ⟨rfl,rfl⟩
   exact ⟨_,0,rfl,(Below.refl _ _).alloc (Nat.le_refl _) _,list_empty W,.inr (Nat.le_refl _),by simp⟩
  | dir es =>
   have hd:=hB.dirs es ha
   refine (apart_dir (B.ad (.dir es)) W).mono ?_
   rintro e w' ⟨rfl,hb⟩
   exact ⟨_,1,rfl,hb,(hd.below hb (Nat.le_refl _)).list,.inl (.inr (.inr (.inr (.inr ⟨.dir es,ha,rfl⟩)))),Nat.lt_of_lt_of_le (Array.getElem?_eq_some_iff.1 hd.2).1 hb.size⟩
theorem mark_same {W:World} {B:Bank} (hB:BankAt W B) {a b:Option Tree} (ha:B.hasO a) (hb:B.hasO b):markN ((fileO a).map fun d => B.ad (.file d)) ((fileO b).map fun d => B.ad (.file d)) = markT a b:=by
 unfold markT markN
 cases hfa:fileO a with
 | none => cases fileO b <;> simp
 | some d =>
  cases hfb:fileO b with
  | none => simp
  | some e =>
   have h1:B.has (.file d):=by cases a with | none => simp [fileO] at hfa | some t => cases t <;> simp [fileO] at hfa;subst hfa;exact ha
   have h2:B.has (.file e):=by cases b with | none => simp [fileO] at hfb | some t => cases t <;> simp [fileO] at hfb;subst hfb;exact hb
   simp only [Option.map_some,Option.some.injEq]
   by_cases he:d = e
   ·subst he;simp
   ·rw [if_neg he,if_neg (fun h => he (by have:=hB.same h1 h2 h;simpa using this)),if_neg (by simp),if_neg (by simp)]
theorem file_block {W:World} {B:Bank} (hB:BankAt W B) {a:Option Tree} (ha:B.hasO a):∀ k,(fileO a).map (fun d => B.ad (.file d)) = some k→∃ c,W.heap[k]? = some (.cells c 135 (0,0)):=by
 intro k hk
 cases a with
 | none => simp [fileO] at hk
 | some t =>
  cases t with
  | dir es => simp [fileO] at hk
  | file d =>
   simp only [fileO,Option.map_some,Option.some.injEq] at hk
   subst hk
   exact ⟨_,hB.files d ha⟩

open Go.RowKit
theorem guard_ok {w:World} (o1 o2:Operand) {n1 n2:Str} {v1 v2:Value} (h:¬ (v1 = .nilIface∧v2 = .nilIface)):(eqGuard .eql 101 o1 o2 (.agg #[SV n1,v1]) (.agg #[SV n2,v2])).run Tryz.prog w = .ok () w:=by
 have p1:(part 9 #[SV n1,v1] 0).run Tryz.prog w = .ok (SV n1) w:=run_part_one Tryz.underlying9 rfl rfl
 have p2:(part 9 #[SV n2,v2] 0).run Tryz.prog w = .ok (SV n2) w:=run_part_one Tryz.underlying9 rfl rfl
 have p3:(part 99 #[SV n1,v1] 1).run Tryz.prog w = .ok v1 w:=run_part_one Tryz.underlying99 rfl rfl
 have p4:(part 99 #[SV n2,v2] 1).run Tryz.prog w = .ok v2 w:=run_part_one Tryz.underlying99 rfl rfl
 have g1:(Op.eqGuardIn 9999 9 (SV n1) (SV n2)).run Tryz.prog w = .ok false w:=by
  rw [show (9999:Nat) = 9998 + 1 from rfl,Op.eqGuardIn]
  simp only [Sem.run_bind,run_underlying Tryz.underlying9,Result.andThen_ok,Sem.run_pure]
 have g2:(Op.eqGuardIn 9999 99 v1 v2).run Tryz.prog w = .ok false w:=by
  rw [show (9999:Nat) = 9998 + 1 from rfl,Op.eqGuardIn]
  simp only [Sem.run_bind,run_underlying Tryz.underlying99,Result.andThen_ok]
  clear p3 p4 p1 p2 g1
  cases v1 <;> first | rfl | (cases v2 <;> first | rfl | exact absurd ⟨rfl,rfl⟩ h)
 have hg:(Op.eqGuardIn 10000 101 (.agg #[SV n1,v1]) (.agg #[SV n2,v2])).run Tryz.prog w = .ok false w:=by
  rw [show (10000:Nat) = 9999 + 1 from rfl,Op.eqGuardIn]
  simp only [Sem.run_bind,run_underlying Tryz.underlying101,Result.andThen_ok]
  simp [p1,p2,p3,p4,g1,g2]
 unfold eqGuard
 simp [run_program,Op.maxDepth,hg]

open Go.RowKit
theorem range_boxed {n m:Nat} {g:Operand} {ps:Array Tmp} {assign body:Code} {Q:Exit→Act→World→Prop} {a:Act} {w:World} {gf:Nat} {lb:Array Value} (hg:a.eval g = .func (.func gf) #[] lb) (eg:∀ args w,(callFunc gf args).run Tryz.prog w = .ok (.enter gf args) w)
  {xs:List (Ent × Ent)} {R:Nat→Prop} (hseq:SeqOf Tryz.prog gf lb encP xs R w) (hps:∀ x,(encP x).size = ps.size) (O:Nat→Prop) (hR:∀ k,R k→k < w.heap.size∧¬ O k)
  (I:List (Ent × Ent)→(Nat→Prop)→World→Prop) (hloc:∀ pre,Local w.heap.size (I pre)) (h0:I [] O w) (ins:Array Value→Ent × Ent→Nat→Nat→Array Value)
  (hassign:∀ l x W (K:Act→World→Prop),x ∈ xs→K { tmps:=ins a.tmps x W.heap.size (W.heap.size + 1),defers:=[] } ((W.alloc (.cells #[SV x.1.1,x.1.2] 101)).alloc (.cells #[SV x.2.1,x.2.2] 101)) →
   assign.wpIn (Fence.wide.inRound l) m Tryz.prog (Exit.then K (fun _ _ _ => False)) { tmps:=(ps.zip (encP x)).foldl (fun t (p,v) => t.setIfInBounds p v) a.tmps,defers:=[] } W)
  (hbody:∀ l r pre x O1 b1 b2 W2,w.heap.size ≤ l→pre ++ [x] <+: xs→W2.heap[b1]? = some (.cells #[SV x.1.1,x.1.2] 101 (0,0))→W2.heap[b2]? = some (.cells #[SV x.2.1,x.2.2] 101 (0,0))→W2.heap[l]? = some (.loop r)→I pre O1 W2→Turn O w W2 O1 →
   body.wpIn (Fence.wide.inRound l) m Tryz.prog (goesOn I (pre ++ [x]) O1 W2) { tmps:=ins a.tmps x b1 b2,defers:=[] } W2)
  (hdone:∀ D O' W',w.heap.size ≤ D→I xs O' W'→¬ O' D→Turn O w W' O'→W'.heap[D]? = some (.deferred (some []))→Q .normal { a with defers:={ target:=.collected D,args:=#[] } :: a.defers } W') :
  (Code.rangeFunc g ps assign body).wpIn Fence.wide n Tryz.prog Q a w:=by
 refine range_outer (m:=m) hg eg hseq hps O hR I hloc h0 (fun x a' W' => ∃ b1 b2,W'.heap[b1]? = some (.cells #[SV x.1.1,x.1.2] 101 (0,0))∧W'.heap[b2]? = some (.cells #[SV x.2.1,x.2.2] 101 (0,0))∧a' = { tmps:=ins a.tmps x b1 b2,defers:=[] }) ?_ ?_ hdone
 ·intro l pre x O1 W K hx _ hK
  obtain ⟨r,hr⟩:=hx
  have tb:=two_blocks W (.cells #[SV x.1.1,x.1.2] 101) (.cells #[SV x.2.1,x.2.2] 101)
  exact hassign l x W K (by rw [← hr];simp) (hK _ _ tb.2.2 ⟨_,_,tb.1,tb.2.1,rfl⟩)
 ·rintro l r pre x O1 a' W' W2 h1 h2 h3 ⟨b1,b2,k1,k2,rfl⟩ ⟨r0,h5⟩ h6 h7 h8 h9
  refine hbody l r pre x O1 b1 b2 W2 h1 h2 ?_ ?_ h7 h8 h9
  ·exact (h6.blk _ (fun e => by rw [e,h5] at k1;cases k1)).trans k1
  ·exact (h6.blk _ (fun e => by rw [e,h5] at k2;cases k2)).trans k2
theorem range_plain {α:Type} {n m:Nat} {g:Operand} {ps:Array Tmp} {assign body:Code} {Q:Exit→Act→World→Prop} {a:Act} {w:World} {l₀:Nat} {r₀:Loop} (hl₀:w.heap[l₀]? = some (.loop r₀)) {gf:Nat} {lb:Array Value} (hg:a.eval g = .func (.func gf) #[] lb) (eg:∀ args w,(callFunc gf args).run Tryz.prog w = .ok (.enter gf args) w)
  {encs:α→Array Value} {xs:List α} {R:Nat→Prop} (hseq:SeqOf Tryz.prog gf lb encs xs R w) (hps:∀ x,(encs x).size = ps.size) (O:Nat→Prop) (hR:∀ k,R k→k < w.heap.size∧¬ O k)
  (I:List α→(Nat→Prop)→World→Prop) (hloc:∀ pre,Local w.heap.size (I pre)) (h0:I [] O w) (ins:Array Value→α→Array Value)
  (hassign:∀ l x W (K:Act→World→Prop),K { tmps:=ins a.tmps x,defers:=[] } W →
   assign.wpIn (Fence.wide.inRound l) m Tryz.prog (Exit.then K (fun _ _ _ => False)) { tmps:=(ps.zip (encs x)).foldl (fun t (p,v) => t.setIfInBounds p v) a.tmps,defers:=[] } W)
  (hbody:∀ l pre x O1 W2,w.heap.size ≤ l→pre ++ [x] <+: xs→I pre O1 W2→Turn O w W2 O1 →
   body.wpIn (Fence.wide.inRound l) m Tryz.prog (goesOn I (pre ++ [x]) O1 W2) { tmps:=ins a.tmps x,defers:=[] } W2)
  (hdone:∀ O' W',I xs O' W'→Turn O w W' O'→Q .normal a W') :
  (Code.rangeFunc g ps assign body).wpIn (Fence.wide.inRound l₀) n Tryz.prog Q a w:=by
 refine range_inner (m:=m) hl₀ hg eg hseq hps O hR I hloc h0 (fun x a' _ => a' = { tmps:=ins a.tmps x,defers:=[] }) ?_ ?_ hdone
 ·intro l pre x O1 W K _ _ hK
  exact hassign l x W K (hK _ _ (Below.refl _ _) rfl)
 ·rintro l r pre x O1 a' W' W2 h1 h2 h3 rfl _ _ _ h8 h9
  exact hbody l pre x O1 W2 h1 h2 h8 h9
end Go.Proofs.YtdcbgfhkfmohiaaGreatDoor

namespace Go.Proofs.YtdcbgfhkfmohiaaGreatDoor
open Go.RowKit Go.Shelf
attribute [local go_sem] Oper.semAt_some
theorem forms_vals (ad:Tree→Nat) (es:Ents):Forms (valsE ad es):=by
 intro e he
 simp only [valsE,List.mem_map] at he
 obtain ⟨f,_,rfl⟩:=he
 cases hf:f.2 with
 | file d => exact ⟨_,_,rfl⟩
 | dir c => exact ⟨_,_,rfl⟩
theorem entO_form (ad:Tree→Nat) (x:Str) (t:Option Tree):entO ad x t = ([],.nilIface)∨∃ k q,entO ad x t = (x,.iface k (.pointer (some ⟨q,0,none⟩))):=by
 cases t with
 | none => exact .inl rfl
 | some u =>
  right
  cases u with
  | file d => exact ⟨_,_,rfl⟩
  | dir c => exact ⟨_,_,rfl⟩
theorem prefix_get {α:Type} {pre:List α} {x:α} {xs:List α} (h:pre ++ [x] <+: xs):xs[pre.length]? = some x:=by
 obtain ⟨r,rfl⟩:=h
 simp
abbrev encM (x:Str × Nat):Array Value:=#[SV x.1,.int .u8 x.2]
structure ChgAt (w:World) (B:Bank) (x inside:Str) (a b:Option Tree) (x1 x2 x3:Nat):Prop where
 bank:BankAt w B
 ha:B.hasO a
 hb:B.hasO b
 c1:w.heap[x1]? = some (.cells #[SV (entO B.ad x a).1,(entO B.ad x a).2] 101 (0,0))
 c2:w.heap[x2]? = some (.cells #[SV (entO B.ad x b).1,(entO B.ad x b).2] 101 (0,0))
 c3:w.heap[x3]? = some (.cells #[SV inside] 9 (0,0))
def chgR (B:Bank) (x1 x2 x3:Nat) (k:Nat):Prop:=k = x1∨k = x2∨k = x3∨B.own k
theorem ChgAt.kept {w W:World} {B:Bank} {x inside:Str} {a b:Option Tree} {x1 x2 x3:Nat} (h:ChgAt w B x inside a b x1 x2 x3) (hk:∀ k,chgR B x1 x2 x3 k→W.heap[k]? = w.heap[k]?):ChgAt W B x inside a b x1 x2 x3 :=
 ⟨h.bank.frame fun k hk' => hk k (.inr (.inr (.inr hk'))),h.ha,h.hb,(hk _ (.inl rfl)).trans h.c1,(hk _ (.inr (.inl rfl))).trans h.c2,(hk _ (.inr (.inr (.inl rfl)))).trans h.c3⟩
abbrev yBox (l:Nat):Obj:=.cells #[.func (.yield l) #[] #[]] 150
theorem ent_verdict {W:World} {B:Bank} (hB:BankAt W B) {a b:Option Tree} (ha:B.hasO a) (hb:B.hasO b) {x:Str} :
  ((entO B.ad x a).1 = (entO B.ad x b).1∧∃ r:Bool,(Op.equalIn 9999 99 (entO B.ad x a).2 (entO B.ad x b).2).run Tryz.prog W = .ok r W∧(r = true ↔ a = b))∨((entO B.ad x a).1 ≠ (entO B.ad x b).1∧a ≠ b):=by
 cases a with
 | none =>
  cases b with
  | none =>
   obtain ⟨r,h1,h2⟩:=node_eq (w:=W) 9997 (v:=Value.nilIface) (v':=Value.nilIface) (.inl rfl) (.inl rfl)
   exact .inl ⟨rfl,r,h1,by rw [h2];simp⟩
  | some u =>
   by_cases hx:x = []
   ·subst hx
    obtain ⟨r,h1,h2⟩:=node_eq (w:=W) 9997 (v:=Value.nilIface) (.inl rfl) (hB.node hb)
    exact .inl ⟨rfl,r,h1,by rw [h2];cases u <;> simp [valT]⟩
   ·exact .inr ⟨fun h => hx h.symm,by simp⟩
 | some t =>
  cases b with
  | none =>
   by_cases hx:x = []
   ·subst hx
    obtain ⟨r,h1,h2⟩:=node_eq (w:=W) 9997 (v':=Value.nilIface) (hB.node ha) (.inl rfl)
    exact .inl ⟨rfl,r,h1,by rw [h2];cases t <;> simp [valT]⟩
   ·exact .inr ⟨fun h => hx h,by simp⟩
  | some u =>
   obtain ⟨r,h1,h2⟩:=node_eq (w:=W) 9997 (hB.node ha) (hB.node hb)
   exact .inl ⟨rfl,r,h1,by rw [h2,valT_inj hB ha hb];simp⟩
theorem max_names {B:Bank} {a b:Option Tree} (hab:a ≠ b) (x:Str) (W:World):(Builtin.max_ #[9,9] 9 #[SV (entO B.ad x a).1,SV (entO B.ad x b).1]).run Tryz.prog W = .ok (SV x) W:=by
 cases a with
 | none =>
  cases b with
  | none => exact absurd rfl hab
  | some u => cases x <;> simp [entO,Builtin.max_,Builtin.max2,Op.stringOp,asBool,Op.bytesLess]
 | some t =>
  cases b with
  | none => cases x <;> simp [entO,Builtin.max_,Builtin.max2,Op.stringOp,asBool,Op.bytesLess]
  | some u => simp [entO,Builtin.max_,Builtin.max2,Op.stringOp,asBool]
set_option maxHeartbeats 4000000 in
set_option maxRecDepth 100000 in
theorem changes_equal (B:Bank) (x inside:Str) (t:Tree) (x1 x2 x3:Nat) (w:World) (h:ChgAt w B x inside (some t) (some t) x1 x2 x3) :
  SeqOf Tryz.prog 71 #[ptrV x1,ptrV x2,ptrV x3] encM [] (chgR B x1 x2 x3) w:=by
 intro n m l J O W hsz hR hloc hY h0
 have h1:=h.kept fun k hk => (hR k hk).2.1
 have HJ:Hid (J [] O (W.alloc (yBox l))):=(hloc []).below h0 ((Below.refl _ _).alloc (Nat.le_refl _) _)
 have HT:Hid (Turn O W (W.alloc (yBox l)) O):=Turn.of_below ((Below.refl _ _).alloc (Nat.le_refl _) _)
 have hB2:BankAt (W.alloc (yBox l)) B:=h1.bank.below ((Below.refl _ _).alloc (Nat.le_refl _) _)
 have hgd:=fun o1 o2 => guard_ok (w:=W.alloc (yBox l)) o1 o2 (n1:=x) (n2:=x) (v1:=valT B.ad t) (v2:=valT B.ad t) (by cases t <;> simp [valT])
 obtain ⟨r,hq,hr⟩:=node_eq (w:=W.alloc (yBox l)) 9997 (hB2.node h1.ha) (hB2.node h1.ha)
 obtain rfl:r = true:=hr.2 rfl
 have d1:W.cell? ⟨x1,0,none⟩ = some (SV x):=(blk_cell h1.c1 0).trans rfl
 have d2:W.cell? ⟨x1,1,none⟩ = some (valT B.ad t):=(blk_cell h1.c1 1).trans rfl
 have d3:W.cell? ⟨x2,0,none⟩ = some (SV x):=(blk_cell h1.c2 0).trans rfl
 have d4:W.cell? ⟨x2,1,none⟩ = some (valT B.ad t):=(blk_cell h1.c2 1).trans rfl
 have l1:x1 < W.heap.size:=(Array.getElem?_eq_some_iff.1 h1.c1).1
 have l2:x2 < W.heap.size:=(Array.getElem?_eq_some_iff.1 h1.c2).1
 clear hY hloc hR h h1 hB2 hr
 generalize valT B.ad t = v1 at *
 refine callsIn_of_wp_marks Tryz.func71 rfl trivial ?_ rfl
 simp only [Tryz.ntmps71,List.size_toArray,List.length_cons,List.length_nil,Nat.reduceAdd,Nat.reduceSub,Array.replicate_succ,Array.replicate_zero,List.push_toArray,List.append_toArray,List.nil_append,List.cons_append]
 gi_wp2
 exact ⟨_,results_none rfl _ _ _,⟨_,rfl⟩,O,HJ.out,HT.out⟩
theorem three_blocks (w:World) (a b c:Obj):(((w.alloc a).alloc b).alloc c).heap[w.heap.size]? = some a∧(((w.alloc a).alloc b).alloc c).heap[w.heap.size + 1]? = some b∧(((w.alloc a).alloc b).alloc c).heap[w.heap.size + 2]? = some c∧Below w.heap.size w (((w.alloc a).alloc b).alloc c):=by
 obtain ⟨h1,h2,h3⟩:=two_blocks w a b
 refine ⟨?_,?_,?_,h3.alloc (by simp;omega) _⟩
 ·rw [Below.heap_alloc _ _ _ (by simp;omega)];exact h1
 ·rw [Below.heap_alloc _ _ _ (by simp)];exact h2
 ·have:=heap_alloc_new ((w.alloc a).alloc b) c
  simpa using this
theorem child_ok {n:Nat} {a b:Option Tree} {B:Bank} {W:World} (hfa:fitsT (n + 1) a) (hfb:fitsT (n + 1) b) (ha:B.hasO a) (hb:B.hasO b) (hB:BankAt W B) {q:Str × Option Tree × Option Tree} (m1:∀ t,q.2.1 = some t→(q.1,t) ∈ entsO a) (m2:∀ t,q.2.2 = some t→∃ y,(y,t) ∈ entsO b∧q.1 = y) (m3:q.2.1 = none→q.2.2 ≠ none) :
  q.1 ≠ []∧q.1.length ≤ 8∧fitsT n q.2.1∧fitsT n q.2.2∧B.hasO q.2.1∧B.hasO q.2.2:=by
 have root:∀ (c:Option Tree),fitsT (n + 1) c→B.hasO c→∀ e ∈ entsO c,e.1 ≠ []∧e.1.length ≤ 8∧fitsT n (some e.2)∧B.has e.2:=by
  intro c hc hh e he
  cases c with
  | none => simp [entsO] at he
  | some u =>
   cases u with
   | file d => simp [entsO] at he
   | dir es => exact ⟨(hc e he).1,(hc e he).2.1,(hc e he).2.2,hB.closed es hh e he⟩
 have f0:fitsT n none:=by cases n <;> trivial
 cases h1:q.2.1 with
 | some t =>
  have r1:=root a hfa ha _ (m1 t h1)
  cases h2:q.2.2 with
  | none => exact ⟨r1.1,r1.2.1,r1.2.2.1,f0,r1.2.2.2,trivial⟩
  | some u =>
   obtain ⟨y,hy,e⟩:=m2 u h2
   have r2:=root b hfb hb _ hy
   exact ⟨r1.1,r1.2.1,r1.2.2.1,r2.2.2.1,r1.2.2.2,r2.2.2.2⟩
 | none =>
  cases h2:q.2.2 with
  | none => exact absurd h2 (m3 h1)
  | some u =>
   obtain ⟨y,hy,e⟩:=m2 u h2
   have r2:=root b hfb hb _ hy
   exact ⟨by rw [e];exact r2.1,by rw [e];exact r2.2.1,f0,r2.2.2.1,trivial,r2.2.2.2⟩
structure Mid (W w4:World) (B:Bank) (a b:Option Tree) (la loa lb lob:Nat) (path:Str) (l:Nat) (O4:Nat→Prop):Prop where
 bank:BankAt w4 B
 lA:ListAt w4 la loa (valsE B.ad (entsO a))
 lB:ListAt w4 lb lob (valsE B.ad (entsO b))
 ybox:w4.heap[W.heap.size]? = some (yBox l)
 pbox:w4.heap[W.heap.size + 1]? = some (.cells #[SV path] 9 (0,0))
 free:∀ k,(k = la∨k = lb∨k = W.heap.size∨k = W.heap.size + 1∨B.own k)→k < w4.heap.size∧¬ O4 k
theorem Mid.turn {W w4 w5:World} {B:Bank} {a b:Option Tree} {la loa lb lob:Nat} {path:Str} {l:Nat} {O4 O5:Nat→Prop} (h:Mid W w4 B a b la loa lb lob path l O4) (ht:Turn O4 w4 w5 O5):Mid W w5 B a b la loa lb lob path l O5:=by
 have hk:∀ k,(k = la∨k = lb∨k = W.heap.size∨k = W.heap.size + 1∨B.own k)→w5.heap[k]? = w4.heap[k]?:=fun k hk => ht.blk k (h.free k hk).1 (h.free k hk).2
 exact ⟨h.bank.frame fun k hk' => hk k (.inr (.inr (.inr (.inr hk')))),h.lA.kept (hk _ (.inl rfl)),h.lB.kept (hk _ (.inr (.inl rfl))),(hk _ (.inr (.inr (.inl rfl)))).trans h.ybox,(hk _ (.inr (.inr (.inr (.inl rfl))))).trans h.pbox,
  fun k hk' => ⟨Nat.lt_of_lt_of_le (h.free k hk').1 ht.size,ht.free (h.free k hk').1 (h.free k hk').2⟩⟩
set_option maxHeartbeats 4000000 in
set_option maxRecDepth 100000 in
theorem changes_go (B:Bank) (x inside:Str) (a b:Option Tree) (x1 x2 x3:Nat) (w:World) (h:ChgAt w B x inside a b x1 x2 x3) (hab:a ≠ b) (hl1:x.length ≤ 8) (n:Nat) (hl2:inside.length + 9 * (n + 1) ≤ 900) (hfa:fitsT (n + 1) a) (hfb:fitsT (n + 1) b)
  (IH:∀ (y inside:Str) (a b:Option Tree) (x1 x2 x3:Nat) (w:World),ChgAt w B y inside a b x1 x2 x3→(a ≠ none∨b ≠ none)→(a = none∨b = none→y ≠ [])→y.length ≤ 8→inside.length + 9 * n ≤ 900→fitsT n a→fitsT n b→SeqOf Tryz.prog 71 #[ptrV x1,ptrV x2,ptrV x3] encM (chgS n (joinS inside y) a b) (chgR B x1 x2 x3) w) :
  SeqOf Tryz.prog 71 #[ptrV x1,ptrV x2,ptrV x3] encM (chgS (n + 1) (joinS inside x) a b) (chgR B x1 x2 x3) w:=by
 intro nn m l J O W hsz hR hloc hY h0
 have h1:=h.kept fun k hk => (hR k hk).2.1
 have HJ:Hid (J [] O (W.alloc (yBox l))):=(hloc []).below h0 ((Below.refl _ _).alloc (Nat.le_refl _) _)
 have hB2:BankAt (W.alloc (yBox l)) B:=h1.bank.below ((Below.refl _ _).alloc (Nat.le_refl _) _)
 have hgd:=fun o1 o2 => guard_ok (w:=W.alloc (yBox l)) o1 o2 (n1:=(entO B.ad x a).1) (n2:=(entO B.ad x b).1) (v1:=(entO B.ad x a).2) (v2:=(entO B.ad x b).2) (by
  rintro ⟨e1,e2⟩
  cases a with
  | some t => cases t <;> simp [entO,valT] at e1
  | none => cases b with
   | some t => cases t <;> simp [entO,valT] at e2
   | none => exact hab rfl)
 have hver:=ent_verdict hB2 h1.ha h1.hb (x:=x)
 have d1:W.cell? ⟨x1,0,none⟩ = some (SV (entO B.ad x a).1):=(blk_cell h1.c1 0).trans rfl
 have d2:W.cell? ⟨x1,1,none⟩ = some (entO B.ad x a).2:=(blk_cell h1.c1 1).trans rfl
 have d3:W.cell? ⟨x2,0,none⟩ = some (SV (entO B.ad x b).1):=(blk_cell h1.c2 0).trans rfl
 have d4:W.cell? ⟨x2,1,none⟩ = some (entO B.ad x b).2:=(blk_cell h1.c2 1).trans rfl
 have d5:W.cell? ⟨x3,0,none⟩ = some (SV inside):=(blk_cell h1.c3 0).trans rfl
 have l1:x1 < W.heap.size:=(Array.getElem?_eq_some_iff.1 h1.c1).1
 have l2:x2 < W.heap.size:=(Array.getElem?_eq_some_iff.1 h1.c2).1
 have l3:x3 < W.heap.size:=(Array.getElem?_eq_some_iff.1 h1.c3).1
 have HC:Hid _:=h1
 have HY:Hid _:=hY
 have HL:Hid _:=hloc
 have HR:Hid _:=hR
 clear hY hloc hR h h1 hB2
 have HA:Hid _:=hab
 refine callsIn_of_wp_marks Tryz.func71 rfl trivial ?_ rfl
 simp only [Tryz.ntmps71,List.size_toArray,List.length_cons,List.length_nil,Nat.reduceAdd,Nat.reduceSub,Array.replicate_succ,Array.replicate_zero,List.push_toArray,List.append_toArray,List.nil_append,List.cons_append]
 have hmx:=max_names (B:=B) hab x (W.alloc (yBox l))
 have hv1:(entO B.ad x a).2.oneCell' = true:=by cases a with | none => rfl | some t => cases t <;> rfl
 have hj:=join_any inside x (W.alloc (yBox l)) (by omega) (by omega)
 have JC:Hid _:=hj
 clear hj
 have hlong:(joinS inside x).length + 9 * n ≤ 900:=by
  unfold joinS;split
  ·omega
  ·simp only [List.length_append,List.length_cons];omega
 have HBk:Hid (∀ W',Below W.heap.size W W'→ChgAt W' B x inside a b x1 x2 x3):=fun W' hb => HC.out.kept fun k hk => hb.block k (by
  have:=(HR.out k hk).1;omega)
 rcases hver with ⟨hn,r,hq,hr⟩ | ⟨hn,_⟩
 ·obtain rfl:r = false:=by cases r with | false => rfl | true => exact absurd (hr.1 rfl) hab
  clear hr
  have AP1:Hid (∀ W',BankAt W' B→Calls Tryz.prog 73 #[(entO B.ad x a).2] W' fun e w' => ApartOut W' B a e w'):=fun W' h => apart_any B a x W' h HC.out.ha
  have AP2:Hid (∀ W',BankAt W' B→Calls Tryz.prog 73 #[(entO B.ad x b).2] W' fun e w' => ApartOut W' B b e w'):=fun W' h => apart_any B b x W' h HC.out.hb
  have D4:Hid (∀ W',Below W.heap.size W W'→W'.cell? ⟨x2,1,none⟩ = some (entO B.ad x b).2):=fun W' hb => (hb.cell (p:=⟨x2,1,none⟩) l2).trans d4
  generalize entO B.ad x a = ea at *
  generalize entO B.ad x b = eb at *
  obtain ⟨n1,v1⟩:=ea
  obtain ⟨n2,v2⟩:=eb
  simp only at *
  subst hn
  gi_wp2_with fail
  refine ⟨trivial,fun h => (by cases h),(callsIn_wide.2 JC.out).mono ?_⟩
  rintro e w' ⟨rfl,rfl⟩
  generalize hpath:joinS inside x = path at *
  gi_wp2_with fail
  have hb1:Below W.heap.size W ((W.alloc (yBox l)).alloc (.cells #[SV path] 9)):=((Below.refl _ _).alloc (Nat.le_refl _) _).alloc (by simp) _
  have tb:=two_blocks W (yBox l) (.cells #[SV path] 9)
  generalize hW1:(W.alloc (yBox l)).alloc (.cells #[SV path] 9) = W1 at *
  refine ⟨trivial,fun h => (by cases h),(callsIn_wide.2 (AP1.out W1 (HBk.out W1 hb1).bank)).mono ?_⟩
  rintro e w2 ⟨la,loa,rfl,hb2,hL2,hown2,hlt2⟩
  have d4':=D4.out w2 (hb1.trans (hb2.mono hb1.size))
  have HW2:Hid (Below W.heap.size W w2):=hb1.trans (hb2.mono hb1.size)
  have HL2:Hid _:=hL2
  gi_wp2_with fail
  refine ⟨trivial,fun h => (by cases h),(callsIn_wide.2 (AP2.out w2 (HBk.out w2 HW2.out).bank)).mono ?_⟩
  rintro e w3 ⟨lb,lob,rfl,hb3,hL3,hown3,hlt3⟩
  have HW3:Hid (Below W.heap.size W w3):=HW2.out.trans (hb3.mono HW2.out.size)
  have HB3:Hid (BankAt w3 B):=(HBk.out w3 HW3.out).bank
  have MK:Hid (Calls Tryz.prog 74 #[ptrO ((fileO a).map fun d => B.ad (.file d)),ptrO ((fileO b).map fun d => B.ad (.file d))] w3 fun e w' => e = .returned (.int .u8 (markT a b))∧w' = w3):=by
   have:=markOf_any _ _ w3 (file_block HB3.out HC.out.ha) (file_block HB3.out HC.out.hb)
   rw [mark_same HB3.out HC.out.ha HC.out.hb] at this
   exact this
  have cy:w3.cell? ⟨W.heap.size,0,none⟩ = some (.func (.yield l) #[] #[]):=(blk_cell (((hb3.block _ (Nat.lt_of_lt_of_le (Array.getElem?_eq_some_iff.1 tb.1).1 hb2.size)).trans (hb2.block _ (Array.getElem?_eq_some_iff.1 tb.1).1)).trans tb.1) 0).trans rfl
  have cp:w3.cell? ⟨W.heap.size + 1,0,none⟩ = some (SV path):=(blk_cell (((hb3.block _ (Nat.lt_of_lt_of_le (Array.getElem?_eq_some_iff.1 tb.2.1).1 hb2.size)).trans (hb2.block _ (Array.getElem?_eq_some_iff.1 tb.2.1).1)).trans tb.2.1) 0).trans rfl
  have HL2' : Hid (ListAt w3 la loa (valsE B.ad (entsO a))):=ListAt.kept hL2 (hb3.block _ hlt2)
  have HL3:Hid _:=hL3
  have HO2:Hid _:=hown2
  have HO3:Hid _:=hown3
  have HT2:Hid _:=hlt2
  have HT3:Hid _:=hlt3
  have HB2:Hid _:=hb2
  have HB3' : Hid _:=hb3
  have HTB:Hid _:=tb
  have HW1:Hid _:=hb1
  clear hL2 hL3 hown2 hown3 hlt2 hlt3 hb2 hb3 tb hb1 HL2 AP1 AP2 D4
  generalize (fileO a).map (fun d => B.ad (.file d)) = fa at *
  generalize (fileO b).map (fun d => B.ad (.file d)) = fb at *
  gi_wp2_with fail
  refine ⟨trivial,fun h => (by cases h),(callsIn_wide.2 MK.out).mono ?_⟩
  rintro e w3' ⟨rfl,hw'⟩
  obtain ⟨w3,rfl⟩ : ∃ w,w = w3':=⟨_,rfl⟩
  subst hw'
  have HJ3:Hid (J [] O w3):=(HL.out []).below h0 HW3.out
  have MID:Hid (Mid W w3 B a b la loa lb lob path l O):=by
   refine ⟨HB3.out,HL2'.out,HL3.out,?_,?_,?_⟩
   ·exact ((HB3'.out.block _ (Nat.lt_of_lt_of_le (Array.getElem?_eq_some_iff.1 HTB.out.1).1 HB2.out.size)).trans (HB2.out.block _ (Array.getElem?_eq_some_iff.1 HTB.out.1).1)).trans HTB.out.1
   ·exact ((HB3'.out.block _ (Nat.lt_of_lt_of_le (Array.getElem?_eq_some_iff.1 HTB.out.2.1).1 HB2.out.size)).trans (HB2.out.block _ (Array.getElem?_eq_some_iff.1 HTB.out.2.1).1)).trans HTB.out.2.1
   ·have hlO:=((HL.out []).lt O W h0).2
    have s1:=(Array.getElem?_eq_some_iff.1 HTB.out.2.1).1
    have s2:=HB2.out.size
    have s3:=HB3'.out.size
    have s0:=HW1.out.size
    have hown:∀ k,B.own k→k < w3.heap.size∧¬ O k:=fun k hk => by
     have:=HR.out k (.inr (.inr (.inr hk)))
     exact ⟨by omega,this.2.2⟩
    have t2:=HT2.out
    have t3:=HT3.out
    rintro k (rfl | rfl | rfl | rfl | hk)
    ·refine ⟨by omega,?_⟩
     rcases HO2.out with h | h
     ·exact (hown _ h).2
     ·exact fun h2 => by have:=hlO _ h2;omega
    ·refine ⟨by omega,?_⟩
     rcases HO3.out with h | h
     ·exact (hown _ h).2
     ·exact fun h2 => by have:=hlO _ h2;omega
    ·exact ⟨by omega,fun h2 => by have:=hlO _ h2;omega⟩
    ·exact ⟨by omega,fun h2 => by have:=hlO _ h2;omega⟩
    ·exact hown k hk
  have HT3' : Hid (Turn O W w3 O):=Turn.of_below HW3.out
  clear HL2' HL3 HO2 HO3 HT2 HT3 HB2 HB3' HTB HW1 HW2 HW3 HB3 MK JC HJ d5 l3
  by_cases hm:markT a b = 0
  ·have hm' : ((markT a b:Nat):Int) = 0:=by omega
   rw [hm']
   gi_wp2_with fail
   refine ⟨fun _ h => (by cases h),?_⟩
   gi_wp2_with fail
   refine ⟨trivial,fun h => (by cases h),(callsIn_wide.2 (pairs_any ⟨la,loa,none⟩ ⟨lb,lob,none⟩ w3)).mono ?_⟩
   rintro e w' ⟨rfl,rfl⟩
   gi_wp2
   have XS:Hid (chgS (n + 1) path a b = ([]:List (Str × Nat)) ++ (pairsT (entsO a) (entsO b)).flatMap fun p => chgS n (joinS path p.1) p.2.1 p.2.2):=by rw [Hid,chgS,if_neg HA.out,if_pos hm]
   have tb5:=two_blocks w3 (.cells #[.pointer (some ⟨la,loa,none⟩)] 151) (.cells #[.pointer (some ⟨lb,lob,none⟩)] 151)
   generalize hW5:(w3.alloc (.cells #[.pointer (some ⟨la,loa,none⟩)] 151)).alloc (.cells #[.pointer (some ⟨lb,lob,none⟩)] 151) = w5 at *
   have M5:Hid (Mid W w5 B a b la loa lb lob path l O):=MID.out.turn (Turn.of_below tb5.2.2)
   have T5:Hid (Turn O W w5 O):=HT3'.out.trans (Turn.of_below tb5.2.2)
   have HLT:Hid (∀ k,O k→k < w3.heap.size):=((HL.out ([]:List (Str × Nat))).lt O w3 HJ3.out).2
   have hsW:W.heap.size ≤ w5.heap.size:=T5.out.size
   have hs5:w3.heap.size + 2 ≤ w5.heap.size:=by rw [← hW5];simp
   clear hW5
   generalize hts:pairsT (entsO a) (entsO b) = ts at *
   have hxs:Hid (pairsL (valsE B.ad (entsO a)) (valsE B.ad (entsO b)) = ts.map fun p => (entO B.ad p.1 p.2.1,entO B.ad p.1 p.2.2)):=by rw [Hid,← hts];exact pairs_vals B.ad _ _ _ (Nat.le_refl _)
   have hmem:Hid (∀ p ∈ ts,(∀ t,p.2.1 = some t→(p.1,t) ∈ entsO a)∧(∀ t,p.2.2 = some t→∃ y,(y,t) ∈ entsO b∧p.1 = y)∧(p.2.1 = none→p.2.2 ≠ none)):=by rw [Hid,← hts];exact pairs_mem (Nat.le_refl _)
   generalize hps:pairsL (valsE B.ad (entsO a)) (valsE B.ad (entsO b)) = ps at *
   have sq:=pairs_seq w3.heap.size (w3.heap.size + 1) la loa lb lob _ _ w5 tb5.1 tb5.2.1 M5.out.lA M5.out.lB (forms_vals _ _) (forms_vals _ _)
   rw [hps] at sq
   refine range_boxed (m:=0) (gf:=107) (lb:=#[ptrV w3.heap.size,ptrV (w3.heap.size + 1)]) rfl (enters_of Tryz.func107 (by kernel_rfl) rfl)
    sq (fun _ => rfl) O ?hR
    (fun pre O1 V => J (([]:List (Str × Nat)) ++ (ts.take pre.length).flatMap fun p => chgS n (joinS path p.1) p.2.1 p.2.2) O1 V∧w5.heap.size ≤ V.heap.size) (fun pre => (HL.out _).mono hsW)
    ⟨?start,Nat.le_refl _⟩
    (fun t y b1 b2 => ((((t.setIfInBounds 52 (entV y.1)).setIfInBounds 53 (entV y.2)).setIfInBounds 11 (ptrV b1)).setIfInBounds 12 (ptrV b2))) ?assign ?body ?done
   case hR =>
    rintro k (rfl | rfl | rfl | rfl)
    ·exact ⟨by omega,fun h => by have:=HLT.out _ h;omega⟩
    ·exact ⟨by omega,fun h => by have:=HLT.out _ h;omega⟩
    ·exact M5.out.free _ (.inl rfl)
    ·exact M5.out.free _ (.inr (.inl rfl))
   case start =>
    have:=(HL.out ([]:List (Str × Nat))).below HJ3.out tb5.2.2
    simpa using this
   case assign =>
    intro l1 y V K hy hK
    rw [hxs.out,List.mem_map] at hy
    obtain ⟨q,_,rfl⟩:=hy
    rcases entO_form B.ad q.1 q.2.1 with e1 | ⟨k1,q1,e1⟩ <;> rcases entO_form B.ad q.1 q.2.2 with e2 | ⟨k2,q2,e2⟩
    all_goals
     simp only [e1,e2] at hK ⊢
     gi_wp2
     exact hK
   case body =>
    rintro l1 r pre y O1 b1 b2 V2 hl1' hpre k1 k2 hlr ⟨hJ2,hsz2⟩ ht2
    have hget:=prefix_get hpre
    rw [hxs.out,List.getElem?_map,Option.map_eq_some_iff] at hget
    obtain ⟨q,hq,rfl⟩:=hget
    have hqm:q ∈ ts:=List.mem_of_getElem? hq
    obtain ⟨m1,m2,m3⟩:=hmem.out q hqm
    have M2:Hid (Mid W V2 B a b la loa lb lob path l O1):=M5.out.turn ht2
    have c5:V2.cell? ⟨W.heap.size + 1,0,none⟩ = some (SV path):=(blk_cell M2.out.pbox 0).trans rfl
    have g1:V2.cell? ⟨b1,0,none⟩ = some (SV (entO B.ad q.1 q.2.1).1):=(blk_cell k1 0).trans rfl
    have g2:V2.cell? ⟨b1,1,none⟩ = some (entO B.ad q.1 q.2.1).2:=(blk_cell k1 1).trans rfl
    have g3:V2.cell? ⟨b2,0,none⟩ = some (SV (entO B.ad q.1 q.2.2).1):=(blk_cell k2 0).trans rfl
    have g4:V2.cell? ⟨b2,1,none⟩ = some (entO B.ad q.1 q.2.2).2:=(blk_cell k2 1).trans rfl
    have hone:∀ t,(entO B.ad q.1 t).2.oneCell' = true:=fun t => by rcases entO_form B.ad q.1 t with e | ⟨_,_,e⟩ <;> rw [e] <;> rfl
    have CC:Hid _:=changes_any (entO B.ad q.1 q.2.1) (entO B.ad q.1 q.2.2) path V2 (hone _) (hone _)
    have hchild:Hid (q.1 ≠ []∧q.1.length ≤ 8∧fitsT n q.2.1∧fitsT n q.2.2∧B.hasO q.2.1∧B.hasO q.2.2):=child_ok hfa hfb HC.out.ha HC.out.hb HC.out.bank m1 m2 m3
    have H2:Hid _:=And.intro hJ2 (And.intro hsz2 (And.intro ht2 (And.intro hpre (And.intro hq (And.intro hlr m3)))))
    clear hJ2 hsz2 ht2 hpre hlr m1 m2 m3 k1 k2 hone hqm
    simp only [List.setIfInBounds_toArray,List.set_cons_zero,List.set_cons_succ]
    gi_wp2_with fail
    refine ⟨trivial,(by first | rfl | (intro h;cases h)),(CallsIn.inRound l1 (callsIn_wide.2 CC.out)).mono ?_⟩
    rintro e w' ⟨rfl,rfl⟩
    gi_wp2
    have tb6:=three_blocks V2 (.cells #[SV (entO B.ad q.1 q.2.1).1,(entO B.ad q.1 q.2.1).2] 101) (.cells #[SV (entO B.ad q.1 q.2.2).1,(entO B.ad q.1 q.2.2).2] 101) (.cells #[SV path] 9)
    generalize hV3:((V2.alloc (.cells #[SV (entO B.ad q.1 q.2.1).1,(entO B.ad q.1 q.2.1).2] 101)).alloc (.cells #[SV (entO B.ad q.1 q.2.2).1,(entO B.ad q.1 q.2.2).2] 101)).alloc (.cells #[SV path] 9) = V3 at *
    have hs3:V2.heap.size + 3 ≤ V3.heap.size:=by rw [← hV3];simp
    clear hV3
    have M3:Hid (Mid W V3 B a b la loa lb lob path l O1):=M2.out.turn (Turn.of_below tb6.2.2.2)
    have hlt1:Hid (∀ k,O1 k→k < V2.heap.size):=((HL.out _).lt O1 V2 H2.out.1).2
    have sq2:=IH q.1 path q.2.1 q.2.2 V2.heap.size (V2.heap.size + 1) (V2.heap.size + 2) V3 ⟨M3.out.bank,hchild.out.2.2.2.2.1,hchild.out.2.2.2.2.2,tb6.1,tb6.2.1,tb6.2.2.1⟩ (by
     cases h1:q.2.1 with
     | some t => left;simp
     | none => right;exact H2.out.2.2.2.2.2.2 h1) (fun _ => hchild.out.1) hchild.out.2.1 hlong hchild.out.2.2.1 hchild.out.2.2.2.1
    have hl3:V3.heap[l1]? = some (.loop r):=(tb6.2.2.2.block _ (Array.getElem?_eq_some_iff.1 H2.out.2.2.2.2.2.1).1).trans H2.out.2.2.2.2.2.1
    have hs32:W.heap.size ≤ V3.heap.size:=by have:=H2.out.2.1;omega
    refine range_plain (m:=0) (α:=Str × Nat) hl3 (gf:=71) (lb:=#[ptrV V2.heap.size,ptrV (V2.heap.size + 1),ptrV (V2.heap.size + 2)]) rfl (enters_of Tryz.func71 (by kernel_rfl) rfl)
     sq2 (fun _ => rfl) O1 ?hR2
     (fun pre' O2 V => J ((([]:List (Str × Nat)) ++ (ts.take pre.length).flatMap fun p => chgS n (joinS path p.1) p.2.1 p.2.2) ++ pre') O2 V∧V3.heap.size ≤ V.heap.size) (fun pre' => (HL.out _).mono hs32)
     ⟨?start2,Nat.le_refl _⟩
     (fun t z => ((((t.setIfInBounds 58 (SV z.1)).setIfInBounds 59 (.int .u8 z.2)).setIfInBounds 13 (SV z.1)).setIfInBounds 14 (.int .u8 z.2))) ?assign2 ?body2 ?done2
    case hR2 =>
     rintro k (rfl | rfl | rfl | hk)
     ·exact ⟨by omega,fun h => by have:=hlt1.out _ h;omega⟩
     ·exact ⟨by omega,fun h => by have:=hlt1.out _ h;omega⟩
     ·exact ⟨by omega,fun h => by have:=hlt1.out _ h;omega⟩
     ·exact M3.out.free _ (.inr (.inr (.inr (.inr hk))))
    case start2 =>
     have:=(HL.out _).below H2.out.1 tb6.2.2.2
     simpa using this
    case assign2 =>
     intro l2 z V K hK
     gi_wp2
     exact hK
    case body2 =>
     rintro l2 pre' z O2 V4 hl2' hp' ⟨hJ4',hs4⟩ ht4'
     have cy4:V4.cell? ⟨W.heap.size,0,none⟩ = some (.func (.yield l) #[] #[]):=(blk_cell ((M3.out.turn ht4').ybox) 0).trans rfl
     have hpx:(([]:List (Str × Nat)) ++ (ts.take pre.length).flatMap fun p => chgS n (joinS path p.1) p.2.1 p.2.2) ++ pre' ++ [z] <+: chgS (n + 1) path a b:=by
      rw [XS.out]
      obtain ⟨rr,hrr⟩:=hp'
      have hlt:pre.length < ts.length:=(List.getElem?_eq_some_iff.1 H2.out.2.2.2.2.1).1
      have hqe:ts[pre.length] = q:=(List.getElem?_eq_some_iff.1 H2.out.2.2.2.2.1).2
      refine ⟨rr ++ (ts.drop (pre.length + 1)).flatMap fun p => chgS n (joinS path p.1) p.2.1 p.2.2,?_⟩
      conv => rhs;rw [← List.take_append_drop pre.length ts,List.drop_eq_getElem_cons hlt,hqe]
      rw [List.flatMap_append,List.flatMap_cons,← hrr]
      simp only [List.append_assoc]
     obtain ⟨fn2,tmps2,assign2,body2,hy2,hR2⟩:=HY.out _ z O2 V4 hJ4' hpx
     simp only [List.setIfInBounds_toArray,List.set_cons_zero,List.set_cons_succ]
     clear hpx
     gi_wp2
     refine ⟨(by first | rfl | (intro h;cases h)),(round_any hR2).mono ?_⟩
     clear hy2 hR2
     rintro e V5 ⟨rfl,O5,hJ5,ht5⟩
     have R5:Hid _:=And.intro hJ5 ht5
     clear hJ5 ht5
     gi_wp2
     exact ⟨O5,⟨by simpa using R5.out.1,Nat.le_trans hs4 R5.out.2.size⟩,R5.out.2⟩
    case done2 =>
     rintro O' V' ⟨hJ',hs'⟩ ht'
     have hlt:pre.length < ts.length:=(List.getElem?_eq_some_iff.1 H2.out.2.2.2.2.1).1
     have hqe:ts[pre.length] = q:=(List.getElem?_eq_some_iff.1 H2.out.2.2.2.2.1).2
     have RD:Hid (∃ O',(J (([]:List (Str × Nat)) ++ (ts.take (pre ++ [(entO B.ad q.1 q.2.1,entO B.ad q.1 q.2.2)]).length).flatMap fun p => chgS n (joinS path p.1) p.2.1 p.2.2) O' V'∧w5.heap.size ≤ V'.heap.size)∧Turn O1 V2 V' O'):=by
      refine ⟨O',⟨?_,by have:=H2.out.2.1;omega⟩,(Turn.of_below tb6.2.2.2).trans ht'⟩
      rw [List.length_append,List.length_singleton,List.take_succ_eq_append_getElem hlt,hqe,List.flatMap_append]
      simpa [List.append_assoc] using hJ'
     clear hJ' hs' ht'
     gi_wp2
     exact RD.out
   case done =>
    rintro D O' V' hD ⟨hJ',_⟩ hnD ht hdef
    have hJ2:=(HL.out _).put hJ' hnD (Nat.le_trans hsW hD) (.deferred none)
    have ht2:=T5.out.trans ht
    have hlen:ps.length = ts.length:=by rw [hxs.out];simp
    rw [hlen,List.take_length,← XS.out,← hpath] at hJ2
    gi_wp2
    refine ⟨by simp,.inl ⟨_,_,rfl,run_takeDeferred hdef,?_⟩⟩
    refine ⟨_,results_none rfl _ _ _,⟨_,rfl⟩,O',hJ2,?_⟩
    exact ⟨ht2.os,ht2.tape,ht2.output,by have:=ht2.size;simpa using this,fun k hk hno => (World.putObj_heap_other (by omega)).trans (ht2.blk k hk hno),ht2.own⟩
  ·have hmb:(((markT a b:Nat):Int) != 0) = true:=by simp;omega
   obtain ⟨fn,tmps,assign,body,hy,hR⟩:=HY.out [] (path,markT a b) O w3 HJ3.out (by rw [chgS,if_neg HA.out,if_neg hm];exact ⟨_,rfl⟩)
   have XS:Hid (chgS (n + 1) path a b = [(path,markT a b)] ++ (pairsT (entsO a) (entsO b)).flatMap fun p => chgS n (joinS path p.1) p.2.1 p.2.2):=by rw [Hid,chgS,if_neg HA.out,if_neg hm]
   generalize markT a b = mk at *
   gi_wp2
   refine ⟨fun h => (by cases h),(round_any hR).mono ?_⟩
   clear hy hR
   rintro e w4 ⟨rfl,O4,hJ4,ht4⟩
   have MID4:Hid (Mid W w4 B a b la loa lb lob path l O4):=MID.out.turn ht4
   have HJ4:Hid _:=hJ4
   have HT4:Hid _:=HT3'.out.trans ht4
   clear hJ4 ht4 MID HJ3 HT3'
   gi_wp2_with fail
   refine ⟨trivial,fun h => (by cases h),(callsIn_wide.2 (pairs_any ⟨la,loa,none⟩ ⟨lb,lob,none⟩ w4)).mono ?_⟩
   rintro e w' ⟨rfl,rfl⟩
   gi_wp2
   have tb5:=two_blocks w4 (.cells #[.pointer (some ⟨la,loa,none⟩)] 151) (.cells #[.pointer (some ⟨lb,lob,none⟩)] 151)
   generalize hW5:(w4.alloc (.cells #[.pointer (some ⟨la,loa,none⟩)] 151)).alloc (.cells #[.pointer (some ⟨lb,lob,none⟩)] 151) = w5 at *
   have M5:Hid (Mid W w5 B a b la loa lb lob path l O4):=MID4.out.turn (Turn.of_below tb5.2.2)
   have T5:Hid (Turn O W w5 O4):=HT4.out.trans (Turn.of_below tb5.2.2)
   have HLT:Hid (∀ k,O4 k→k < w4.heap.size):=((HL.out [(path,mk)]).lt O4 w4 HJ4.out).2
   have hsW:W.heap.size ≤ w5.heap.size:=T5.out.size
   have hs5:w4.heap.size + 2 ≤ w5.heap.size:=by rw [← hW5];simp
   clear hW5
   generalize hts:pairsT (entsO a) (entsO b) = ts at *
   have hxs:Hid (pairsL (valsE B.ad (entsO a)) (valsE B.ad (entsO b)) = ts.map fun p => (entO B.ad p.1 p.2.1,entO B.ad p.1 p.2.2)):=by rw [Hid,← hts];exact pairs_vals B.ad _ _ _ (Nat.le_refl _)
   have hmem:Hid (∀ p ∈ ts,(∀ t,p.2.1 = some t→(p.1,t) ∈ entsO a)∧(∀ t,p.2.2 = some t→∃ y,(y,t) ∈ entsO b∧p.1 = y)∧(p.2.1 = none→p.2.2 ≠ none)):=by rw [Hid,← hts];exact pairs_mem (Nat.le_refl _)
   generalize hps:pairsL (valsE B.ad (entsO a)) (valsE B.ad (entsO b)) = ps at *
   have sq:=pairs_seq w4.heap.size (w4.heap.size + 1) la loa lb lob _ _ w5 tb5.1 tb5.2.1 M5.out.lA M5.out.lB (forms_vals _ _) (forms_vals _ _)
   rw [hps] at sq
   refine range_boxed (m:=0) (gf:=107) (lb:=#[ptrV w4.heap.size,ptrV (w4.heap.size + 1)]) rfl (enters_of Tryz.func107 (by kernel_rfl) rfl)
    sq (fun _ => rfl) O4 ?hR
    (fun pre O1 V => J ([(path,mk)] ++ (ts.take pre.length).flatMap fun p => chgS n (joinS path p.1) p.2.1 p.2.2) O1 V∧w5.heap.size ≤ V.heap.size) (fun pre => (HL.out _).mono hsW)
    ⟨?start,Nat.le_refl _⟩
    (fun t y b1 b2 => ((((t.setIfInBounds 52 (entV y.1)).setIfInBounds 53 (entV y.2)).setIfInBounds 11 (ptrV b1)).setIfInBounds 12 (ptrV b2))) ?assign ?body ?done
   case hR =>
    rintro k (rfl | rfl | rfl | rfl)
    ·exact ⟨by omega,fun h => by have:=HLT.out _ h;omega⟩
    ·exact ⟨by omega,fun h => by have:=HLT.out _ h;omega⟩
    ·exact M5.out.free _ (.inl rfl)
    ·exact M5.out.free _ (.inr (.inl rfl))
   case start =>
    have:=(HL.out [(path,mk)]).below HJ4.out tb5.2.2
    simpa using this
   case assign =>
    intro l1 y V K hy hK
    rw [hxs.out,List.mem_map] at hy
    obtain ⟨q,_,rfl⟩:=hy
    rcases entO_form B.ad q.1 q.2.1 with e1 | ⟨k1,q1,e1⟩ <;> rcases entO_form B.ad q.1 q.2.2 with e2 | ⟨k2,q2,e2⟩
    all_goals
     simp only [e1,e2] at hK ⊢
     gi_wp2
     exact hK
   case body =>
    rintro l1 r pre y O1 b1 b2 V2 hl1' hpre k1 k2 hlr ⟨hJ2,hsz2⟩ ht2
    have hget:=prefix_get hpre
    rw [hxs.out,List.getElem?_map,Option.map_eq_some_iff] at hget
    obtain ⟨q,hq,rfl⟩:=hget
    have hqm:q ∈ ts:=List.mem_of_getElem? hq
    obtain ⟨m1,m2,m3⟩:=hmem.out q hqm
    have M2:Hid (Mid W V2 B a b la loa lb lob path l O1):=M5.out.turn ht2
    have c5:V2.cell? ⟨W.heap.size + 1,0,none⟩ = some (SV path):=(blk_cell M2.out.pbox 0).trans rfl
    have g1:V2.cell? ⟨b1,0,none⟩ = some (SV (entO B.ad q.1 q.2.1).1):=(blk_cell k1 0).trans rfl
    have g2:V2.cell? ⟨b1,1,none⟩ = some (entO B.ad q.1 q.2.1).2:=(blk_cell k1 1).trans rfl
    have g3:V2.cell? ⟨b2,0,none⟩ = some (SV (entO B.ad q.1 q.2.2).1):=(blk_cell k2 0).trans rfl
    have g4:V2.cell? ⟨b2,1,none⟩ = some (entO B.ad q.1 q.2.2).2:=(blk_cell k2 1).trans rfl
    have hone:∀ t,(entO B.ad q.1 t).2.oneCell' = true:=fun t => by rcases entO_form B.ad q.1 t with e | ⟨_,_,e⟩ <;> rw [e] <;> rfl
    have CC:Hid _:=changes_any (entO B.ad q.1 q.2.1) (entO B.ad q.1 q.2.2) path V2 (hone _) (hone _)
    have hchild:Hid (q.1 ≠ []∧q.1.length ≤ 8∧fitsT n q.2.1∧fitsT n q.2.2∧B.hasO q.2.1∧B.hasO q.2.2):=child_ok hfa hfb HC.out.ha HC.out.hb HC.out.bank m1 m2 m3
    have H2:Hid _:=And.intro hJ2 (And.intro hsz2 (And.intro ht2 (And.intro hpre (And.intro hq (And.intro hlr m3)))))
    clear hJ2 hsz2 ht2 hpre hlr m1 m2 m3 k1 k2 hone hqm
    simp only [List.setIfInBounds_toArray,List.set_cons_zero,List.set_cons_succ]
    gi_wp2_with fail
    refine ⟨trivial,(by first | rfl | (intro h;cases h)),(CallsIn.inRound l1 (callsIn_wide.2 CC.out)).mono ?_⟩
    rintro e w' ⟨rfl,rfl⟩
    gi_wp2
    have tb6:=three_blocks V2 (.cells #[SV (entO B.ad q.1 q.2.1).1,(entO B.ad q.1 q.2.1).2] 101) (.cells #[SV (entO B.ad q.1 q.2.2).1,(entO B.ad q.1 q.2.2).2] 101) (.cells #[SV path] 9)
    generalize hV3:((V2.alloc (.cells #[SV (entO B.ad q.1 q.2.1).1,(entO B.ad q.1 q.2.1).2] 101)).alloc (.cells #[SV (entO B.ad q.1 q.2.2).1,(entO B.ad q.1 q.2.2).2] 101)).alloc (.cells #[SV path] 9) = V3 at *
    have hs3:V2.heap.size + 3 ≤ V3.heap.size:=by rw [← hV3];simp
    clear hV3
    have M3:Hid (Mid W V3 B a b la loa lb lob path l O1):=M2.out.turn (Turn.of_below tb6.2.2.2)
    have hlt1:Hid (∀ k,O1 k→k < V2.heap.size):=((HL.out _).lt O1 V2 H2.out.1).2
    have sq2:=IH q.1 path q.2.1 q.2.2 V2.heap.size (V2.heap.size + 1) (V2.heap.size + 2) V3 ⟨M3.out.bank,hchild.out.2.2.2.2.1,hchild.out.2.2.2.2.2,tb6.1,tb6.2.1,tb6.2.2.1⟩ (by
     cases h1:q.2.1 with
     | some t => left;simp
     | none => right;exact H2.out.2.2.2.2.2.2 h1) (fun _ => hchild.out.1) hchild.out.2.1 hlong hchild.out.2.2.1 hchild.out.2.2.2.1
    have hl3:V3.heap[l1]? = some (.loop r):=(tb6.2.2.2.block _ (Array.getElem?_eq_some_iff.1 H2.out.2.2.2.2.2.1).1).trans H2.out.2.2.2.2.2.1
    have hs32:W.heap.size ≤ V3.heap.size:=by have:=H2.out.2.1;omega
    refine range_plain (m:=0) (α:=Str × Nat) hl3 (gf:=71) (lb:=#[ptrV V2.heap.size,ptrV (V2.heap.size + 1),ptrV (V2.heap.size + 2)]) rfl (enters_of Tryz.func71 (by kernel_rfl) rfl)
     sq2 (fun _ => rfl) O1 ?hR2
     (fun pre' O2 V => J (([(path,mk)] ++ (ts.take pre.length).flatMap fun p => chgS n (joinS path p.1) p.2.1 p.2.2) ++ pre') O2 V∧V3.heap.size ≤ V.heap.size) (fun pre' => (HL.out _).mono hs32)
     ⟨?start2,Nat.le_refl _⟩
     (fun t z => ((((t.setIfInBounds 58 (SV z.1)).setIfInBounds 59 (.int .u8 z.2)).setIfInBounds 13 (SV z.1)).setIfInBounds 14 (.int .u8 z.2))) ?assign2 ?body2 ?done2
    case hR2 =>
     rintro k (rfl | rfl | rfl | hk)
     ·exact ⟨by omega,fun h => by have:=hlt1.out _ h;omega⟩
     ·exact ⟨by omega,fun h => by have:=hlt1.out _ h;omega⟩
     ·exact ⟨by omega,fun h => by have:=hlt1.out _ h;omega⟩
     ·exact M3.out.free _ (.inr (.inr (.inr (.inr hk))))
    case start2 =>
     have:=(HL.out _).below H2.out.1 tb6.2.2.2
     simpa using this
    case assign2 =>
     intro l2 z V K hK
     gi_wp2
     exact hK
    case body2 =>
     rintro l2 pre' z O2 V4 hl2' hp' ⟨hJ4',hs4⟩ ht4'
     have cy4:V4.cell? ⟨W.heap.size,0,none⟩ = some (.func (.yield l) #[] #[]):=(blk_cell ((M3.out.turn ht4').ybox) 0).trans rfl
     have hpx:([(path,mk)] ++ (ts.take pre.length).flatMap fun p => chgS n (joinS path p.1) p.2.1 p.2.2) ++ pre' ++ [z] <+: chgS (n + 1) path a b:=by
      rw [XS.out]
      obtain ⟨rr,hrr⟩:=hp'
      have hlt:pre.length < ts.length:=(List.getElem?_eq_some_iff.1 H2.out.2.2.2.2.1).1
      have hqe:ts[pre.length] = q:=(List.getElem?_eq_some_iff.1 H2.out.2.2.2.2.1).2
      refine ⟨rr ++ (ts.drop (pre.length + 1)).flatMap fun p => chgS n (joinS path p.1) p.2.1 p.2.2,?_⟩
      conv => rhs;rw [← List.take_append_drop pre.length ts,List.drop_eq_getElem_cons hlt,hqe]
      rw [List.flatMap_append,List.flatMap_cons,← hrr]
      simp only [List.append_assoc]
     obtain ⟨fn2,tmps2,assign2,body2,hy2,hR2⟩:=HY.out _ z O2 V4 hJ4' hpx
     simp only [List.setIfInBounds_toArray,List.set_cons_zero,List.set_cons_succ]
     clear hpx
     gi_wp2
     refine ⟨(by first | rfl | (intro h;cases h)),(round_any hR2).mono ?_⟩
     clear hy2 hR2
     rintro e V5 ⟨rfl,O5,hJ5,ht5⟩
     have R5:Hid _:=And.intro hJ5 ht5
     clear hJ5 ht5
     gi_wp2
     exact ⟨O5,⟨by simpa using R5.out.1,Nat.le_trans hs4 R5.out.2.size⟩,R5.out.2⟩
    case done2 =>
     rintro O' V' ⟨hJ',hs'⟩ ht'
     have hlt:pre.length < ts.length:=(List.getElem?_eq_some_iff.1 H2.out.2.2.2.2.1).1
     have hqe:ts[pre.length] = q:=(List.getElem?_eq_some_iff.1 H2.out.2.2.2.2.1).2
     have RD:Hid (∃ O',(J ([(path,mk)] ++ (ts.take (pre ++ [(entO B.ad q.1 q.2.1,entO B.ad q.1 q.2.2)]).length).flatMap fun p => chgS n (joinS path p.1) p.2.1 p.2.2) O' V'∧w5.heap.size ≤ V'.heap.size)∧Turn O1 V2 V' O'):=by
      refine ⟨O',⟨?_,by have:=H2.out.2.1;omega⟩,(Turn.of_below tb6.2.2.2).trans ht'⟩
      rw [List.length_append,List.length_singleton,List.take_succ_eq_append_getElem hlt,hqe,List.flatMap_append]
      simpa [List.append_assoc] using hJ'
     clear hJ' hs' ht'
     gi_wp2
     exact RD.out
   case done =>
    rintro D O' V' hD ⟨hJ',_⟩ hnD ht hdef
    have hJ2:=(HL.out _).put hJ' hnD (Nat.le_trans hsW hD) (.deferred none)
    have ht2:=T5.out.trans ht
    have hlen:ps.length = ts.length:=by rw [hxs.out];simp
    rw [hlen,List.take_length,← XS.out,← hpath] at hJ2
    gi_wp2
    refine ⟨by simp,.inl ⟨_,_,rfl,run_takeDeferred hdef,?_⟩⟩
    refine ⟨_,results_none rfl _ _ _,⟨_,rfl⟩,O',hJ2,?_⟩
    exact ⟨ht2.os,ht2.tape,ht2.output,by have:=ht2.size;simpa using this,fun k hk hno => (World.putObj_heap_other (by omega)).trans (ht2.blk k hk hno),ht2.own⟩
 ·have AP1:Hid (∀ W',BankAt W' B→Calls Tryz.prog 73 #[(entO B.ad x a).2] W' fun e w' => ApartOut W' B a e w'):=fun W' h => apart_any B a x W' h HC.out.ha
  have AP2:Hid (∀ W',BankAt W' B→Calls Tryz.prog 73 #[(entO B.ad x b).2] W' fun e w' => ApartOut W' B b e w'):=fun W' h => apart_any B b x W' h HC.out.hb
  have D4:Hid (∀ W',Below W.heap.size W W'→W'.cell? ⟨x2,1,none⟩ = some (entO B.ad x b).2):=fun W' hb => (hb.cell (p:=⟨x2,1,none⟩) l2).trans d4
  generalize entO B.ad x a = ea at *
  generalize entO B.ad x b = eb at *
  obtain ⟨n1,v1⟩:=ea
  obtain ⟨n2,v2⟩:=eb
  simp only at *
  have hnb:(n1 == n2) = false:=by simp [hn]
  clear hn
  gi_wp2_with fail
  refine ⟨trivial,fun h => (by cases h),(callsIn_wide.2 JC.out).mono ?_⟩
  rintro e w' ⟨rfl,rfl⟩
  generalize hpath:joinS inside x = path at *
  gi_wp2_with fail
  have hb1:Below W.heap.size W ((W.alloc (yBox l)).alloc (.cells #[SV path] 9)):=((Below.refl _ _).alloc (Nat.le_refl _) _).alloc (by simp) _
  have tb:=two_blocks W (yBox l) (.cells #[SV path] 9)
  generalize hW1:(W.alloc (yBox l)).alloc (.cells #[SV path] 9) = W1 at *
  refine ⟨trivial,fun h => (by cases h),(callsIn_wide.2 (AP1.out W1 (HBk.out W1 hb1).bank)).mono ?_⟩
  rintro e w2 ⟨la,loa,rfl,hb2,hL2,hown2,hlt2⟩
  have d4':=D4.out w2 (hb1.trans (hb2.mono hb1.size))
  have HW2:Hid (Below W.heap.size W w2):=hb1.trans (hb2.mono hb1.size)
  have HL2:Hid _:=hL2
  gi_wp2_with fail
  refine ⟨trivial,fun h => (by cases h),(callsIn_wide.2 (AP2.out w2 (HBk.out w2 HW2.out).bank)).mono ?_⟩
  rintro e w3 ⟨lb,lob,rfl,hb3,hL3,hown3,hlt3⟩
  have HW3:Hid (Below W.heap.size W w3):=HW2.out.trans (hb3.mono HW2.out.size)
  have HB3:Hid (BankAt w3 B):=(HBk.out w3 HW3.out).bank
  have MK:Hid (Calls Tryz.prog 74 #[ptrO ((fileO a).map fun d => B.ad (.file d)),ptrO ((fileO b).map fun d => B.ad (.file d))] w3 fun e w' => e = .returned (.int .u8 (markT a b))∧w' = w3):=by
   have:=markOf_any _ _ w3 (file_block HB3.out HC.out.ha) (file_block HB3.out HC.out.hb)
   rw [mark_same HB3.out HC.out.ha HC.out.hb] at this
   exact this
  have cy:w3.cell? ⟨W.heap.size,0,none⟩ = some (.func (.yield l) #[] #[]):=(blk_cell (((hb3.block _ (Nat.lt_of_lt_of_le (Array.getElem?_eq_some_iff.1 tb.1).1 hb2.size)).trans (hb2.block _ (Array.getElem?_eq_some_iff.1 tb.1).1)).trans tb.1) 0).trans rfl
  have cp:w3.cell? ⟨W.heap.size + 1,0,none⟩ = some (SV path):=(blk_cell (((hb3.block _ (Nat.lt_of_lt_of_le (Array.getElem?_eq_some_iff.1 tb.2.1).1 hb2.size)).trans (hb2.block _ (Array.getElem?_eq_some_iff.1 tb.2.1).1)).trans tb.2.1) 0).trans rfl
  have HL2' : Hid (ListAt w3 la loa (valsE B.ad (entsO a))):=ListAt.kept hL2 (hb3.block _ hlt2)
  have HL3:Hid _:=hL3
  have HO2:Hid _:=hown2
  have HO3:Hid _:=hown3
  have HT2:Hid _:=hlt2
  have HT3:Hid _:=hlt3
  have HB2:Hid _:=hb2
  have HB3' : Hid _:=hb3
  have HTB:Hid _:=tb
  have HW1:Hid _:=hb1
  clear hL2 hL3 hown2 hown3 hlt2 hlt3 hb2 hb3 tb hb1 HL2 AP1 AP2 D4
  generalize (fileO a).map (fun d => B.ad (.file d)) = fa at *
  generalize (fileO b).map (fun d => B.ad (.file d)) = fb at *
  gi_wp2_with fail
  refine ⟨trivial,fun h => (by cases h),(callsIn_wide.2 MK.out).mono ?_⟩
  rintro e w3' ⟨rfl,hw'⟩
  obtain ⟨w3,rfl⟩ : ∃ w,w = w3':=⟨_,rfl⟩
  subst hw'
  have HJ3:Hid (J [] O w3):=(HL.out []).below h0 HW3.out
  have MID:Hid (Mid W w3 B a b la loa lb lob path l O):=by
   refine ⟨HB3.out,HL2'.out,HL3.out,?_,?_,?_⟩
   ·exact ((HB3'.out.block _ (Nat.lt_of_lt_of_le (Array.getElem?_eq_some_iff.1 HTB.out.1).1 HB2.out.size)).trans (HB2.out.block _ (Array.getElem?_eq_some_iff.1 HTB.out.1).1)).trans HTB.out.1
   ·exact ((HB3'.out.block _ (Nat.lt_of_lt_of_le (Array.getElem?_eq_some_iff.1 HTB.out.2.1).1 HB2.out.size)).trans (HB2.out.block _ (Array.getElem?_eq_some_iff.1 HTB.out.2.1).1)).trans HTB.out.2.1
   ·have hlO:=((HL.out []).lt O W h0).2
    have s1:=(Array.getElem?_eq_some_iff.1 HTB.out.2.1).1
    have s2:=HB2.out.size
    have s3:=HB3'.out.size
    have s0:=HW1.out.size
    have hown:∀ k,B.own k→k < w3.heap.size∧¬ O k:=fun k hk => by
     have:=HR.out k (.inr (.inr (.inr hk)))
     exact ⟨by omega,this.2.2⟩
    have t2:=HT2.out
    have t3:=HT3.out
    rintro k (rfl | rfl | rfl | rfl | hk)
    ·refine ⟨by omega,?_⟩
     rcases HO2.out with h | h
     ·exact (hown _ h).2
     ·exact fun h2 => by have:=hlO _ h2;omega
    ·refine ⟨by omega,?_⟩
     rcases HO3.out with h | h
     ·exact (hown _ h).2
     ·exact fun h2 => by have:=hlO _ h2;omega
    ·exact ⟨by omega,fun h2 => by have:=hlO _ h2;omega⟩
    ·exact ⟨by omega,fun h2 => by have:=hlO _ h2;omega⟩
    ·exact hown k hk
  have HT3' : Hid (Turn O W w3 O):=Turn.of_below HW3.out
  clear HL2' HL3 HO2 HO3 HT2 HT3 HB2 HB3' HTB HW1 HW2 HW3 HB3 MK JC HJ d5 l3
  by_cases hm:markT a b = 0
  ·have hm' : ((markT a b:Nat):Int) = 0:=by omega
   rw [hm']
   gi_wp2_with fail
   refine ⟨fun _ h => (by cases h),?_⟩
   gi_wp2_with fail
   refine ⟨trivial,fun h => (by cases h),(callsIn_wide.2 (pairs_any ⟨la,loa,none⟩ ⟨lb,lob,none⟩ w3)).mono ?_⟩
   rintro e w' ⟨rfl,rfl⟩
   gi_wp2
   have XS:Hid (chgS (n + 1) path a b = ([]:List (Str × Nat)) ++ (pairsT (entsO a) (entsO b)).flatMap fun p => chgS n (joinS path p.1) p.2.1 p.2.2):=by rw [Hid,chgS,if_neg HA.out,if_pos hm]
   have tb5:=two_blocks w3 (.cells #[.pointer (some ⟨la,loa,none⟩)] 151) (.cells #[.pointer (some ⟨lb,lob,none⟩)] 151)
   generalize hW5:(w3.alloc (.cells #[.pointer (some ⟨la,loa,none⟩)] 151)).alloc (.cells #[.pointer (some ⟨lb,lob,none⟩)] 151) = w5 at *
   have M5:Hid (Mid W w5 B a b la loa lb lob path l O):=MID.out.turn (Turn.of_below tb5.2.2)
   have T5:Hid (Turn O W w5 O):=HT3'.out.trans (Turn.of_below tb5.2.2)
   have HLT:Hid (∀ k,O k→k < w3.heap.size):=((HL.out ([]:List (Str × Nat))).lt O w3 HJ3.out).2
   have hsW:W.heap.size ≤ w5.heap.size:=T5.out.size
   have hs5:w3.heap.size + 2 ≤ w5.heap.size:=by rw [← hW5];simp
   clear hW5
   generalize hts:pairsT (entsO a) (entsO b) = ts at *
   have hxs:Hid (pairsL (valsE B.ad (entsO a)) (valsE B.ad (entsO b)) = ts.map fun p => (entO B.ad p.1 p.2.1,entO B.ad p.1 p.2.2)):=by rw [Hid,← hts];exact pairs_vals B.ad _ _ _ (Nat.le_refl _)
   have hmem:Hid (∀ p ∈ ts,(∀ t,p.2.1 = some t→(p.1,t) ∈ entsO a)∧(∀ t,p.2.2 = some t→∃ y,(y,t) ∈ entsO b∧p.1 = y)∧(p.2.1 = none→p.2.2 ≠ none)):=by rw [Hid,← hts];exact pairs_mem (Nat.le_refl _)
   generalize hps:pairsL (valsE B.ad (entsO a)) (valsE B.ad (entsO b)) = ps at *
   have sq:=pairs_seq w3.heap.size (w3.heap.size + 1) la loa lb lob _ _ w5 tb5.1 tb5.2.1 M5.out.lA M5.out.lB (forms_vals _ _) (forms_vals _ _)
   rw [hps] at sq
   refine range_boxed (m:=0) (gf:=107) (lb:=#[ptrV w3.heap.size,ptrV (w3.heap.size + 1)]) rfl (enters_of Tryz.func107 (by kernel_rfl) rfl)
    sq (fun _ => rfl) O ?hR
    (fun pre O1 V => J (([]:List (Str × Nat)) ++ (ts.take pre.length).flatMap fun p => chgS n (joinS path p.1) p.2.1 p.2.2) O1 V∧w5.heap.size ≤ V.heap.size) (fun pre => (HL.out _).mono hsW)
    ⟨?start,Nat.le_refl _⟩
    (fun t y b1 b2 => ((((t.setIfInBounds 52 (entV y.1)).setIfInBounds 53 (entV y.2)).setIfInBounds 11 (ptrV b1)).setIfInBounds 12 (ptrV b2))) ?assign ?body ?done
   case hR =>
    rintro k (rfl | rfl | rfl | rfl)
    ·exact ⟨by omega,fun h => by have:=HLT.out _ h;omega⟩
    ·exact ⟨by omega,fun h => by have:=HLT.out _ h;omega⟩
    ·exact M5.out.free _ (.inl rfl)
    ·exact M5.out.free _ (.inr (.inl rfl))
   case start =>
    have:=(HL.out ([]:List (Str × Nat))).below HJ3.out tb5.2.2
    simpa using this
   case assign =>
    intro l1 y V K hy hK
    rw [hxs.out,List.mem_map] at hy
    obtain ⟨q,_,rfl⟩:=hy
    rcases entO_form B.ad q.1 q.2.1 with e1 | ⟨k1,q1,e1⟩ <;> rcases entO_form B.ad q.1 q.2.2 with e2 | ⟨k2,q2,e2⟩
    all_goals
     simp only [e1,e2] at hK ⊢
     gi_wp2
     exact hK
   case body =>
    rintro l1 r pre y O1 b1 b2 V2 hl1' hpre k1 k2 hlr ⟨hJ2,hsz2⟩ ht2
    have hget:=prefix_get hpre
    rw [hxs.out,List.getElem?_map,Option.map_eq_some_iff] at hget
    obtain ⟨q,hq,rfl⟩:=hget
    have hqm:q ∈ ts:=List.mem_of_getElem? hq
    obtain ⟨m1,m2,m3⟩:=hmem.out q hqm
    have M2:Hid (Mid W V2 B a b la loa lb lob path l O1):=M5.out.turn ht2
    have c5:V2.cell? ⟨W.heap.size + 1,0,none⟩ = some (SV path):=(blk_cell M2.out.pbox 0).trans rfl
    have g1:V2.cell? ⟨b1,0,none⟩ = some (SV (entO B.ad q.1 q.2.1).1):=(blk_cell k1 0).trans rfl
    have g2:V2.cell? ⟨b1,1,none⟩ = some (entO B.ad q.1 q.2.1).2:=(blk_cell k1 1).trans rfl
    have g3:V2.cell? ⟨b2,0,none⟩ = some (SV (entO B.ad q.1 q.2.2).1):=(blk_cell k2 0).trans rfl
    have g4:V2.cell? ⟨b2,1,none⟩ = some (entO B.ad q.1 q.2.2).2:=(blk_cell k2 1).trans rfl
    have hone:∀ t,(entO B.ad q.1 t).2.oneCell' = true:=fun t => by rcases entO_form B.ad q.1 t with e | ⟨_,_,e⟩ <;> rw [e] <;> rfl
    have CC:Hid _:=changes_any (entO B.ad q.1 q.2.1) (entO B.ad q.1 q.2.2) path V2 (hone _) (hone _)
    have hchild:Hid (q.1 ≠ []∧q.1.length ≤ 8∧fitsT n q.2.1∧fitsT n q.2.2∧B.hasO q.2.1∧B.hasO q.2.2):=child_ok hfa hfb HC.out.ha HC.out.hb HC.out.bank m1 m2 m3
    have H2:Hid _:=And.intro hJ2 (And.intro hsz2 (And.intro ht2 (And.intro hpre (And.intro hq (And.intro hlr m3)))))
    clear hJ2 hsz2 ht2 hpre hlr m1 m2 m3 k1 k2 hone hqm
    simp only [List.setIfInBounds_toArray,List.set_cons_zero,List.set_cons_succ]
    gi_wp2_with fail
    refine ⟨trivial,(by first | rfl | (intro h;cases h)),(CallsIn.inRound l1 (callsIn_wide.2 CC.out)).mono ?_⟩
    rintro e w' ⟨rfl,rfl⟩
    gi_wp2
    have tb6:=three_blocks V2 (.cells #[SV (entO B.ad q.1 q.2.1).1,(entO B.ad q.1 q.2.1).2] 101) (.cells #[SV (entO B.ad q.1 q.2.2).1,(entO B.ad q.1 q.2.2).2] 101) (.cells #[SV path] 9)
    generalize hV3:((V2.alloc (.cells #[SV (entO B.ad q.1 q.2.1).1,(entO B.ad q.1 q.2.1).2] 101)).alloc (.cells #[SV (entO B.ad q.1 q.2.2).1,(entO B.ad q.1 q.2.2).2] 101)).alloc (.cells #[SV path] 9) = V3 at *
    have hs3:V2.heap.size + 3 ≤ V3.heap.size:=by rw [← hV3];simp
    clear hV3
    have M3:Hid (Mid W V3 B a b la loa lb lob path l O1):=M2.out.turn (Turn.of_below tb6.2.2.2)
    have hlt1:Hid (∀ k,O1 k→k < V2.heap.size):=((HL.out _).lt O1 V2 H2.out.1).2
    have sq2:=IH q.1 path q.2.1 q.2.2 V2.heap.size (V2.heap.size + 1) (V2.heap.size + 2) V3 ⟨M3.out.bank,hchild.out.2.2.2.2.1,hchild.out.2.2.2.2.2,tb6.1,tb6.2.1,tb6.2.2.1⟩ (by
     cases h1:q.2.1 with
     | some t => left;simp
     | none => right;exact H2.out.2.2.2.2.2.2 h1) (fun _ => hchild.out.1) hchild.out.2.1 hlong hchild.out.2.2.1 hchild.out.2.2.2.1
    have hl3:V3.heap[l1]? = some (.loop r):=(tb6.2.2.2.block _ (Array.getElem?_eq_some_iff.1 H2.out.2.2.2.2.2.1).1).trans H2.out.2.2.2.2.2.1
    have hs32:W.heap.size ≤ V3.heap.size:=by have:=H2.out.2.1;omega
    refine range_plain (m:=0) (α:=Str × Nat) hl3 (gf:=71) (lb:=#[ptrV V2.heap.size,ptrV (V2.heap.size + 1),ptrV (V2.heap.size + 2)]) rfl (enters_of Tryz.func71 (by kernel_rfl) rfl)
     sq2 (fun _ => rfl) O1 ?hR2
     (fun pre' O2 V => J ((([]:List (Str × Nat)) ++ (ts.take pre.length).flatMap fun p => chgS n (joinS path p.1) p.2.1 p.2.2) ++ pre') O2 V∧V3.heap.size ≤ V.heap.size) (fun pre' => (HL.out _).mono hs32)
     ⟨?start2,Nat.le_refl _⟩
     (fun t z => ((((t.setIfInBounds 58 (SV z.1)).setIfInBounds 59 (.int .u8 z.2)).setIfInBounds 13 (SV z.1)).setIfInBounds 14 (.int .u8 z.2))) ?assign2 ?body2 ?done2
    case hR2 =>
     rintro k (rfl | rfl | rfl | hk)
     ·exact ⟨by omega,fun h => by have:=hlt1.out _ h;omega⟩
     ·exact ⟨by omega,fun h => by have:=hlt1.out _ h;omega⟩
     ·exact ⟨by omega,fun h => by have:=hlt1.out _ h;omega⟩
     ·exact M3.out.free _ (.inr (.inr (.inr (.inr hk))))
    case start2 =>
     have:=(HL.out _).below H2.out.1 tb6.2.2.2
     simpa using this
    case assign2 =>
     intro l2 z V K hK
     gi_wp2
     exact hK
    case body2 =>
     rintro l2 pre' z O2 V4 hl2' hp' ⟨hJ4',hs4⟩ ht4'
     have cy4:V4.cell? ⟨W.heap.size,0,none⟩ = some (.func (.yield l) #[] #[]):=(blk_cell ((M3.out.turn ht4').ybox) 0).trans rfl
     have hpx:(([]:List (Str × Nat)) ++ (ts.take pre.length).flatMap fun p => chgS n (joinS path p.1) p.2.1 p.2.2) ++ pre' ++ [z] <+: chgS (n + 1) path a b:=by
      rw [XS.out]
      obtain ⟨rr,hrr⟩:=hp'
      have hlt:pre.length < ts.length:=(List.getElem?_eq_some_iff.1 H2.out.2.2.2.2.1).1
      have hqe:ts[pre.length] = q:=(List.getElem?_eq_some_iff.1 H2.out.2.2.2.2.1).2
      refine ⟨rr ++ (ts.drop (pre.length + 1)).flatMap fun p => chgS n (joinS path p.1) p.2.1 p.2.2,?_⟩
      conv => rhs;rw [← List.take_append_drop pre.length ts,List.drop_eq_getElem_cons hlt,hqe]
      rw [List.flatMap_append,List.flatMap_cons,← hrr]
      simp only [List.append_assoc]
     obtain ⟨fn2,tmps2,assign2,body2,hy2,hR2⟩:=HY.out _ z O2 V4 hJ4' hpx
     simp only [List.setIfInBounds_toArray,List.set_cons_zero,List.set_cons_succ]
     clear hpx
     gi_wp2
     refine ⟨(by first | rfl | (intro h;cases h)),(round_any hR2).mono ?_⟩
     clear hy2 hR2
     rintro e V5 ⟨rfl,O5,hJ5,ht5⟩
     have R5:Hid _:=And.intro hJ5 ht5
     clear hJ5 ht5
     gi_wp2
     exact ⟨O5,⟨by simpa using R5.out.1,Nat.le_trans hs4 R5.out.2.size⟩,R5.out.2⟩
    case done2 =>
     rintro O' V' ⟨hJ',hs'⟩ ht'
     have hlt:pre.length < ts.length:=(List.getElem?_eq_some_iff.1 H2.out.2.2.2.2.1).1
     have hqe:ts[pre.length] = q:=(List.getElem?_eq_some_iff.1 H2.out.2.2.2.2.1).2
     have RD:Hid (∃ O',(J (([]:List (Str × Nat)) ++ (ts.take (pre ++ [(entO B.ad q.1 q.2.1,entO B.ad q.1 q.2.2)]).length).flatMap fun p => chgS n (joinS path p.1) p.2.1 p.2.2) O' V'∧w5.heap.size ≤ V'.heap.size)∧Turn O1 V2 V' O'):=by
      refine ⟨O',⟨?_,by have:=H2.out.2.1;omega⟩,(Turn.of_below tb6.2.2.2).trans ht'⟩
      rw [List.length_append,List.length_singleton,List.take_succ_eq_append_getElem hlt,hqe,List.flatMap_append]
      simpa [List.append_assoc] using hJ'
     clear hJ' hs' ht'
     gi_wp2
     exact RD.out
   case done =>
    rintro D O' V' hD ⟨hJ',_⟩ hnD ht hdef
    have hJ2:=(HL.out _).put hJ' hnD (Nat.le_trans hsW hD) (.deferred none)
    have ht2:=T5.out.trans ht
    have hlen:ps.length = ts.length:=by rw [hxs.out];simp
    rw [hlen,List.take_length,← XS.out,← hpath] at hJ2
    gi_wp2
    refine ⟨by simp,.inl ⟨_,_,rfl,run_takeDeferred hdef,?_⟩⟩
    refine ⟨_,results_none rfl _ _ _,⟨_,rfl⟩,O',hJ2,?_⟩
    exact ⟨ht2.os,ht2.tape,ht2.output,by have:=ht2.size;simpa using this,fun k hk hno => (World.putObj_heap_other (by omega)).trans (ht2.blk k hk hno),ht2.own⟩
  ·have hmb:(((markT a b:Nat):Int) != 0) = true:=by simp;omega
   obtain ⟨fn,tmps,assign,body,hy,hR⟩:=HY.out [] (path,markT a b) O w3 HJ3.out (by rw [chgS,if_neg HA.out,if_neg hm];exact ⟨_,rfl⟩)
   have XS:Hid (chgS (n + 1) path a b = [(path,markT a b)] ++ (pairsT (entsO a) (entsO b)).flatMap fun p => chgS n (joinS path p.1) p.2.1 p.2.2):=by rw [Hid,chgS,if_neg HA.out,if_neg hm]
   generalize markT a b = mk at *
   gi_wp2
   refine ⟨fun h => (by cases h),(round_any hR).mono ?_⟩
   clear hy hR
   rintro e w4 ⟨rfl,O4,hJ4,ht4⟩
   have MID4:Hid (Mid W w4 B a b la loa lb lob path l O4):=MID.out.turn ht4
   have HJ4:Hid _:=hJ4
   have HT4:Hid _:=HT3'.out.trans ht4
   clear hJ4 ht4 MID HJ3 HT3'
   gi_wp2_with fail
   refine ⟨trivial,fun h => (by cases h),(callsIn_wide.2 (pairs_any ⟨la,loa,none⟩ ⟨lb,lob,none⟩ w4)).mono ?_⟩
   rintro e w' ⟨rfl,rfl⟩
   gi_wp2
   have tb5:=two_blocks w4 (.cells #[.pointer (some ⟨la,loa,none⟩)] 151) (.cells #[.pointer (some ⟨lb,lob,none⟩)] 151)
   generalize hW5:(w4.alloc (.cells #[.pointer (some ⟨la,loa,none⟩)] 151)).alloc (.cells #[.pointer (some ⟨lb,lob,none⟩)] 151) = w5 at *
   have M5:Hid (Mid W w5 B a b la loa lb lob path l O4):=MID4.out.turn (Turn.of_below tb5.2.2)
   have T5:Hid (Turn O W w5 O4):=HT4.out.trans (Turn.of_below tb5.2.2)
   have HLT:Hid (∀ k,O4 k→k < w4.heap.size):=((HL.out [(path,mk)]).lt O4 w4 HJ4.out).2
   have hsW:W.heap.size ≤ w5.heap.size:=T5.out.size
   have hs5:w4.heap.size + 2 ≤ w5.heap.size:=by rw [← hW5];simp
   clear hW5
   generalize hts:pairsT (entsO a) (entsO b) = ts at *
   have hxs:Hid (pairsL (valsE B.ad (entsO a)) (valsE B.ad (entsO b)) = ts.map fun p => (entO B.ad p.1 p.2.1,entO B.ad p.1 p.2.2)):=by rw [Hid,← hts];exact pairs_vals B.ad _ _ _ (Nat.le_refl _)
   have hmem:Hid (∀ p ∈ ts,(∀ t,p.2.1 = some t→(p.1,t) ∈ entsO a)∧(∀ t,p.2.2 = some t→∃ y,(y,t) ∈ entsO b∧p.1 = y)∧(p.2.1 = none→p.2.2 ≠ none)):=by rw [Hid,← hts];exact pairs_mem (Nat.le_refl _)
   generalize hps:pairsL (valsE B.ad (entsO a)) (valsE B.ad (entsO b)) = ps at *
   have sq:=pairs_seq w4.heap.size (w4.heap.size + 1) la loa lb lob _ _ w5 tb5.1 tb5.2.1 M5.out.lA M5.out.lB (forms_vals _ _) (forms_vals _ _)
   rw [hps] at sq
   refine range_boxed (m:=0) (gf:=107) (lb:=#[ptrV w4.heap.size,ptrV (w4.heap.size + 1)]) rfl (enters_of Tryz.func107 (by kernel_rfl) rfl)
    sq (fun _ => rfl) O4 ?hR
    (fun pre O1 V => J ([(path,mk)] ++ (ts.take pre.length).flatMap fun p => chgS n (joinS path p.1) p.2.1 p.2.2) O1 V∧w5.heap.size ≤ V.heap.size) (fun pre => (HL.out _).mono hsW)
    ⟨?start,Nat.le_refl _⟩
    (fun t y b1 b2 => ((((t.setIfInBounds 52 (entV y.1)).setIfInBounds 53 (entV y.2)).setIfInBounds 11 (ptrV b1)).setIfInBounds 12 (ptrV b2))) ?assign ?body ?done
   case hR =>
    rintro k (rfl | rfl | rfl | rfl)
    ·exact ⟨by omega,fun h => by have:=HLT.out _ h;omega⟩
    ·exact ⟨by omega,fun h => by have:=HLT.out _ h;omega⟩
    ·exact M5.out.free _ (.inl rfl)
    ·exact M5.out.free _ (.inr (.inl rfl))
   case start =>
    have:=(HL.out [(path,mk)]).below HJ4.out tb5.2.2
    simpa using this
   case assign =>
    intro l1 y V K hy hK
    rw [hxs.out,List.mem_map] at hy
    obtain ⟨q,_,rfl⟩:=hy
    rcases entO_form B.ad q.1 q.2.1 with e1 | ⟨k1,q1,e1⟩ <;> rcases entO_form B.ad q.1 q.2.2 with e2 | ⟨k2,q2,e2⟩
    all_goals
     simp only [e1,e2] at hK ⊢
     gi_wp2
     exact hK
   case body =>
    rintro l1 r pre y O1 b1 b2 V2 hl1' hpre k1 k2 hlr ⟨hJ2,hsz2⟩ ht2
    have hget:=prefix_get hpre
    rw [hxs.out,List.getElem?_map,Option.map_eq_some_iff] at hget
    obtain ⟨q,hq,rfl⟩:=hget
    have hqm:q ∈ ts:=List.mem_of_getElem? hq
    obtain ⟨m1,m2,m3⟩:=hmem.out q hqm
    have M2:Hid (Mid W V2 B a b la loa lb lob path l O1):=M5.out.turn ht2
    have c5:V2.cell? ⟨W.heap.size + 1,0,none⟩ = some (SV path):=(blk_cell M2.out.pbox 0).trans rfl
    have g1:V2.cell? ⟨b1,0,none⟩ = some (SV (entO B.ad q.1 q.2.1).1):=(blk_cell k1 0).trans rfl
    have g2:V2.cell? ⟨b1,1,none⟩ = some (entO B.ad q.1 q.2.1).2:=(blk_cell k1 1).trans rfl
    have g3:V2.cell? ⟨b2,0,none⟩ = some (SV (entO B.ad q.1 q.2.2).1):=(blk_cell k2 0).trans rfl
    have g4:V2.cell? ⟨b2,1,none⟩ = some (entO B.ad q.1 q.2.2).2:=(blk_cell k2 1).trans rfl
    have hone:∀ t,(entO B.ad q.1 t).2.oneCell' = true:=fun t => by rcases entO_form B.ad q.1 t with e | ⟨_,_,e⟩ <;> rw [e] <;> rfl
    have CC:Hid _:=changes_any (entO B.ad q.1 q.2.1) (entO B.ad q.1 q.2.2) path V2 (hone _) (hone _)
    have hchild:Hid (q.1 ≠ []∧q.1.length ≤ 8∧fitsT n q.2.1∧fitsT n q.2.2∧B.hasO q.2.1∧B.hasO q.2.2):=child_ok hfa hfb HC.out.ha HC.out.hb HC.out.bank m1 m2 m3
    have H2:Hid _:=And.intro hJ2 (And.intro hsz2 (And.intro ht2 (And.intro hpre (And.intro hq (And.intro hlr m3)))))
    clear hJ2 hsz2 ht2 hpre hlr m1 m2 m3 k1 k2 hone hqm
    simp only [List.setIfInBounds_toArray,List.set_cons_zero,List.set_cons_succ]
    gi_wp2_with fail
    refine ⟨trivial,(by first | rfl | (intro h;cases h)),(CallsIn.inRound l1 (callsIn_wide.2 CC.out)).mono ?_⟩
    rintro e w' ⟨rfl,rfl⟩
    gi_wp2
    have tb6:=three_blocks V2 (.cells #[SV (entO B.ad q.1 q.2.1).1,(entO B.ad q.1 q.2.1).2] 101) (.cells #[SV (entO B.ad q.1 q.2.2).1,(entO B.ad q.1 q.2.2).2] 101) (.cells #[SV path] 9)
    generalize hV3:((V2.alloc (.cells #[SV (entO B.ad q.1 q.2.1).1,(entO B.ad q.1 q.2.1).2] 101)).alloc (.cells #[SV (entO B.ad q.1 q.2.2).1,(entO B.ad q.1 q.2.2).2] 101)).alloc (.cells #[SV path] 9) = V3 at *
    have hs3:V2.heap.size + 3 ≤ V3.heap.size:=by rw [← hV3];simp
    clear hV3
    have M3:Hid (Mid W V3 B a b la loa lb lob path l O1):=M2.out.turn (Turn.of_below tb6.2.2.2)
    have hlt1:Hid (∀ k,O1 k→k < V2.heap.size):=((HL.out _).lt O1 V2 H2.out.1).2
    have sq2:=IH q.1 path q.2.1 q.2.2 V2.heap.size (V2.heap.size + 1) (V2.heap.size + 2) V3 ⟨M3.out.bank,hchild.out.2.2.2.2.1,hchild.out.2.2.2.2.2,tb6.1,tb6.2.1,tb6.2.2.1⟩ (by
     cases h1:q.2.1 with
     | some t => left;simp
     | none => right;exact H2.out.2.2.2.2.2.2 h1) (fun _ => hchild.out.1) hchild.out.2.1 hlong hchild.out.2.2.1 hchild.out.2.2.2.1
    have hl3:V3.heap[l1]? = some (.loop r):=(tb6.2.2.2.block _ (Array.getElem?_eq_some_iff.1 H2.out.2.2.2.2.2.1).1).trans H2.out.2.2.2.2.2.1
    have hs32:W.heap.size ≤ V3.heap.size:=by have:=H2.out.2.1;omega
    refine range_plain (m:=0) (α:=Str × Nat) hl3 (gf:=71) (lb:=#[ptrV V2.heap.size,ptrV (V2.heap.size + 1),ptrV (V2.heap.size + 2)]) rfl (enters_of Tryz.func71 (by kernel_rfl) rfl)
     sq2 (fun _ => rfl) O1 ?hR2
     (fun pre' O2 V => J (([(path,mk)] ++ (ts.take pre.length).flatMap fun p => chgS n (joinS path p.1) p.2.1 p.2.2) ++ pre') O2 V∧V3.heap.size ≤ V.heap.size) (fun pre' => (HL.out _).mono hs32)
     ⟨?start2,Nat.le_refl _⟩
     (fun t z => ((((t.setIfInBounds 58 (SV z.1)).setIfInBounds 59 (.int .u8 z.2)).setIfInBounds 13 (SV z.1)).setIfInBounds 14 (.int .u8 z.2))) ?assign2 ?body2 ?done2
    case hR2 =>
     rintro k (rfl | rfl | rfl | hk)
     ·exact ⟨by omega,fun h => by have:=hlt1.out _ h;omega⟩
     ·exact ⟨by omega,fun h => by have:=hlt1.out _ h;omega⟩
     ·exact ⟨by omega,fun h => by have:=hlt1.out _ h;omega⟩
     ·exact M3.out.free _ (.inr (.inr (.inr (.inr hk))))
    case start2 =>
     have:=(HL.out _).below H2.out.1 tb6.2.2.2
     simpa using this
    case assign2 =>
     intro l2 z V K hK
     gi_wp2
     exact hK
    case body2 =>
     rintro l2 pre' z O2 V4 hl2' hp' ⟨hJ4',hs4⟩ ht4'
     have cy4:V4.cell? ⟨W.heap.size,0,none⟩ = some (.func (.yield l) #[] #[]):=(blk_cell ((M3.out.turn ht4').ybox) 0).trans rfl
     have hpx:([(path,mk)] ++ (ts.take pre.length).flatMap fun p => chgS n (joinS path p.1) p.2.1 p.2.2) ++ pre' ++ [z] <+: chgS (n + 1) path a b:=by
      rw [XS.out]
      obtain ⟨rr,hrr⟩:=hp'
      have hlt:pre.length < ts.length:=(List.getElem?_eq_some_iff.1 H2.out.2.2.2.2.1).1
      have hqe:ts[pre.length] = q:=(List.getElem?_eq_some_iff.1 H2.out.2.2.2.2.1).2
      refine ⟨rr ++ (ts.drop (pre.length + 1)).flatMap fun p => chgS n (joinS path p.1) p.2.1 p.2.2,?_⟩
      conv => rhs;rw [← List.take_append_drop pre.length ts,List.drop_eq_getElem_cons hlt,hqe]
      rw [List.flatMap_append,List.flatMap_cons,← hrr]
      simp only [List.append_assoc]
     obtain ⟨fn2,tmps2,assign2,body2,hy2,hR2⟩:=HY.out _ z O2 V4 hJ4' hpx
     simp only [List.setIfInBounds_toArray,List.set_cons_zero,List.set_cons_succ]
     clear hpx
     gi_wp2
     refine ⟨(by first | rfl | (intro h;cases h)),(round_any hR2).mono ?_⟩
     clear hy2 hR2
     rintro e V5 ⟨rfl,O5,hJ5,ht5⟩
     have R5:Hid _:=And.intro hJ5 ht5
     clear hJ5 ht5
     gi_wp2
     exact ⟨O5,⟨by simpa using R5.out.1,Nat.le_trans hs4 R5.out.2.size⟩,R5.out.2⟩
    case done2 =>
     rintro O' V' ⟨hJ',hs'⟩ ht'
     have hlt:pre.length < ts.length:=(List.getElem?_eq_some_iff.1 H2.out.2.2.2.2.1).1
     have hqe:ts[pre.length] = q:=(List.getElem?_eq_some_iff.1 H2.out.2.2.2.2.1).2
     have RD:Hid (∃ O',(J ([(path,mk)] ++ (ts.take (pre ++ [(entO B.ad q.1 q.2.1,entO B.ad q.1 q.2.2)]).length).flatMap fun p => chgS n (joinS path p.1) p.2.1 p.2.2) O' V'∧w5.heap.size ≤ V'.heap.size)∧Turn O1 V2 V' O'):=by
      refine ⟨O',⟨?_,by have:=H2.out.2.1;omega⟩,(Turn.of_below tb6.2.2.2).trans ht'⟩
      rw [List.length_append,List.length_singleton,List.take_succ_eq_append_getElem hlt,hqe,List.flatMap_append]
      simpa [List.append_assoc] using hJ'
     clear hJ' hs' ht'
     gi_wp2
     exact RD.out
   case done =>
    rintro D O' V' hD ⟨hJ',_⟩ hnD ht hdef
    have hJ2:=(HL.out _).put hJ' hnD (Nat.le_trans hsW hD) (.deferred none)
    have ht2:=T5.out.trans ht
    have hlen:ps.length = ts.length:=by rw [hxs.out];simp
    rw [hlen,List.take_length,← XS.out,← hpath] at hJ2
    gi_wp2
    refine ⟨by simp,.inl ⟨_,_,rfl,run_takeDeferred hdef,?_⟩⟩
    refine ⟨_,results_none rfl _ _ _,⟨_,rfl⟩,O',hJ2,?_⟩
    exact ⟨ht2.os,ht2.tape,ht2.output,by have:=ht2.size;simpa using this,fun k hk hno => (World.putObj_heap_other (by omega)).trans (ht2.blk k hk hno),ht2.own⟩
end Go.Proofs.YtdcbgfhkfmohiaaGreatDoor

namespace Go.Proofs.YtdcbgfhkfmohiaaGreatDoor
open Go.RowKit
theorem changes_seq (B:Bank) (n:Nat):∀ (y inside:Str) (a b:Option Tree) (x1 x2 x3:Nat) (w:World),ChgAt w B y inside a b x1 x2 x3→(a ≠ none∨b ≠ none)→(a = none∨b = none→y ≠ [])→y.length ≤ 8→inside.length + 9 * n ≤ 900→fitsT n a→fitsT n b →
  SeqOf Tryz.prog 71 #[ptrV x1,ptrV x2,ptrV x3] encM (chgS n (joinS inside y) a b) (chgR B x1 x2 x3) w:=by
 induction n with
 | zero =>
  intro y inside a b x1 x2 x3 w h hne _ hl1 hl2 hfa hfb
  cases a with
  | some t => exact hfa.elim
  | none =>
   cases b with
   | some t => exact hfb.elim
   | none => simp at hne
 | succ n ih =>
  intro y inside a b x1 x2 x3 w h hne _ hl1 hl2 hfa hfb
  by_cases hab:a = b
  ·subst hab
   cases a with
   | none => simp at hne
   | some t =>
    rw [chgS,if_pos rfl]
    exact changes_equal B y inside t x1 x2 x3 w h
  ·exact changes_go B y inside a b x1 x2 x3 w h hab hl1 n hl2 hfa hfb ih
theorem ent_facts:∀ {es:Ents},WFE es→∀ e ∈ es,isNameL e.1 false = true∧WFT e.2∧heightT e.2 + 1 ≤ heightE es
 | [],_,e,he => by simp at he
 | (x,t) :: es,hw,e,he => by
  unfold WFE at hw
  simp only [List.mem_cons] at he
  rw [heightE]
  rcases he with rfl | he
  ·exact ⟨hw.1,hw.2.1,by simp only;omega⟩
  ·obtain ⟨h1,h2,h3⟩:=ent_facts hw.2.2.2 e he
   exact ⟨h1,h2,by omega⟩
theorem fits_ents (k:Nat):∀ es:Ents,WFE es→heightE es ≤ k→∀ e ∈ es,e.1 ≠ []∧e.1.length ≤ 8∧fitsT k (some e.2):=by
 induction k with
 | zero =>
  intro es hw hh e he
  have:=(ent_facts hw e he).2.2
  omega
 | succ k ih =>
  intro es hw hh e he
  obtain ⟨h1,h2,h3⟩:=ent_facts hw e he
  have hn:=isNameL_len h1
  refine ⟨fun h => by rw [h] at hn;simp at hn,hn.2,?_⟩
  cases ht:e.2 with
  | file d => trivial
  | dir c =>
   rw [ht] at h2 h3
   unfold WFT at h2
   rw [heightT] at h3
   exact ih c h2.2 (by omega)
theorem fits_root {es:Ents} (hw:WFE es) (hh:heightE es ≤ 5):fitsT 6 (some (.dir es)):=fits_ents 5 es hw hh
theorem changes_top (B:Bank) (es:Ents) (x1 x2 x3:Nat) (w:World) (h:ChgAt w B [] [] none (some (.dir es)) x1 x2 x3) (hf:fitsT 6 (some (.dir es))) :
  SeqOf Tryz.prog 71 #[ptrV x1,ptrV x2,ptrV x3] encM (chgS 6 [] none (some (.dir es))) (chgR B x1 x2 x3) w:=by
 have:=changes_go B [] [] none (some (.dir es)) x1 x2 x3 w h (by simp) (by simp) 5 (by simp) trivial hf (changes_seq B 5)
 rw [show joinS [] [] = [] from rfl] at this
 exact this
end Go.Proofs.YtdcbgfhkfmohiaaGreatDoor

namespace Go.Proofs.YtdcbgfhkfmohiaaGreatDoor
open Go.RowKit
open Classical in
noncomputable def chgN:Nat→Option Tree→Option Tree→List (List Str × Nat)
 | 0,_,_ => []
 | n + 1,a,b => if a = b then [] else (if markT a b = 0 then [] else [([],markT a b)]) ++ (pairsT (entsO a) (entsO b)).flatMap fun p => (chgN n p.2.1 p.2.2).map fun f => (p.1 :: f.1,f.2)
theorem join_ne {q:List Str} (hq:q ≠ []) (h:∀ x ∈ q,x ≠ []):joinP q ≠ []:=by
 cases q with
 | nil => exact absurd rfl hq
 | cons x r =>
  cases r with
  | nil => simpa [joinP] using h x (by simp)
  | cons y r => rw [joinP_cons (by simp)];simp [h x (by simp)]
theorem joinS_snoc {q:List Str} {x:Str} (h:∀ y ∈ q,y ≠ []):joinS (joinP q) x = joinP (q ++ [x]):=by
 by_cases hq:q = []
 ·subst hq;rfl
 ·rw [joinP_app hq (by simp)]
  unfold joinS
  rw [if_neg (join_ne hq h)]
  rfl
theorem pair_fits {n:Nat} {a b:Option Tree} (hfa:fitsT (n + 1) a) (hfb:fitsT (n + 1) b):∀ p ∈ pairsT (entsO a) (entsO b),p.1 ≠ []∧fitsT n p.2.1∧fitsT n p.2.2:=by
 intro q hq
 obtain ⟨m1,m2,m3⟩:=pairs_mem (Nat.le_refl _) q hq
 have root:∀ (c:Option Tree),fitsT (n + 1) c→∀ e ∈ entsO c,e.1 ≠ []∧fitsT n (some e.2):=by
  intro c hc e he
  cases c with
  | none => simp [entsO] at he
  | some u =>
   cases u with
   | file d => simp [entsO] at he
   | dir es => exact ⟨(hc e he).1,(hc e he).2.2⟩
 have f0:fitsT n none:=by cases n <;> trivial
 cases h1:q.2.1 with
 | some t =>
  have r1:=root a hfa _ (m1 t h1)
  cases h2:q.2.2 with
  | none => exact ⟨r1.1,r1.2,f0⟩
  | some u =>
   obtain ⟨y,hy,e⟩:=m2 u h2
   exact ⟨r1.1,r1.2,(root b hfb _ hy).2⟩
 | none =>
  cases h2:q.2.2 with
  | none => exact absurd h2 (m3 h1)
  | some u =>
   obtain ⟨y,hy,e⟩:=m2 u h2
   have r2:=root b hfb _ hy
   exact ⟨by rw [e];exact r2.1,f0,r2.2⟩
theorem chg_names (n:Nat):∀ (q:List Str) (a b:Option Tree),(∀ x ∈ q,x ≠ [])→fitsT n a→fitsT n b→chgS n (joinP q) a b = (chgN n a b).map fun f => (joinP (q ++ f.1),f.2):=by
 induction n with
 | zero => intro q a b _ _ _;rfl
 | succ n ih =>
  intro q a b hq hfa hfb
  rw [chgS,chgN]
  by_cases hab:a = b
  ·rw [if_pos hab,if_pos hab];rfl
  ·rw [if_neg hab,if_neg hab,List.map_append]
   congr 1
   ·by_cases hm:markT a b = 0
    ·rw [if_pos hm,if_pos hm];rfl
    ·rw [if_neg hm,if_neg hm];simp
   ·have hp:=pair_fits hfa hfb
    generalize pairsT (entsO a) (entsO b) = ts at hp
    induction ts with
    | nil => rfl
    | cons p ts iht =>
     rw [List.flatMap_cons,List.flatMap_cons,List.map_append,iht (fun p' hp' => hp p' (by simp [hp']))]
     congr 1
     obtain ⟨h1,h2,h3⟩:=hp p (by simp)
     rw [joinS_snoc hq,ih (q ++ [p.1]) p.2.1 p.2.2 (by intro x hx;simp only [List.mem_append,List.mem_singleton] at hx;rcases hx with hx | rfl;exact hq x hx;exact h1) h2 h3]
     simp [List.map_map,Function.comp_def]
end Go.Proofs.YtdcbgfhkfmohiaaGreatDoor

namespace Go.Proofs.YtdcbgfhkfmohiaaGreatDoor
open Go.RowKit
theorem cmp_less:∀ {a b:Str},Lib.compareBytes a b = -1→Op.bytesLess a b = true
 | [],[],h => by simp [Lib.compareBytes] at h
 | [],_ :: _,_ => rfl
 | _ :: _,[],h => by simp [Lib.compareBytes] at h
 | a :: xs,b :: ys,h => by
  unfold Lib.compareBytes at h
  unfold Op.bytesLess
  by_cases h1:a < b
  ·simp [h1]
  ·rw [if_neg h1] at h
   by_cases h2:b < a
   ·rw [if_pos h2] at h;simp at h
   ·rw [if_neg h2] at h
    have e1:a = b:=by
     have h3:¬ a.toNat < b.toNat:=h1
     have h4:¬ b.toNat < a.toNat:=h2
     exact UInt8.toNat_inj.1 (by omega)
    subst e1
    simp [cmp_less h]
theorem cmp_more:∀ {a b:Str},Lib.compareBytes a b = 1→Op.bytesLess b a = true
 | [],[],h => by simp [Lib.compareBytes] at h
 | [],_ :: _,h => by simp [Lib.compareBytes] at h
 | _ :: _,[],_ => rfl
 | a :: xs,b :: ys,h => by
  unfold Lib.compareBytes at h
  unfold Op.bytesLess
  by_cases h1:a < b
  ·rw [if_pos h1] at h;simp at h
  ·rw [if_neg h1] at h
   by_cases h2:b < a
   ·simp [h2]
   ·rw [if_neg h2] at h
    have e1:a = b:=by
     have h3:¬ a.toNat < b.toNat:=h1
     have h4:¬ b.toNat < a.toNat:=h2
     exact UInt8.toNat_inj.1 (by omega)
    subst e1
    simp [cmp_more h]
def Above (y:Str) (es:Ents):Prop:=∀ e ∈ es,Op.bytesLess y e.1 = true
theorem Above.none {y:Str} {es:Ents} (h:Above y es):findE es y = none:=findE_none fun e he => fun e' => by have:=h e he;rw [e',bl_irrefl] at this;simp at this
theorem find_cons {h:Str} {l r:Option Tree} {es fs es' fs' : Ents} {ts:List (Str × Option Tree × Option Tree)} (he:∀ z,findE es z = if h = z then l else findE es' z) (hf:∀ z,findE fs z = if h = z then r else findE fs' z) (ae:Above h es') (af:Above h fs') (hne:l ≠ none∨r ≠ none)
  (ih:∀ p,p ∈ ts ↔ (p.2.1 = findE es' p.1∧p.2.2 = findE fs' p.1∧(p.2.1 ≠ none∨p.2.2 ≠ none))):∀ p,p ∈ (h,l,r) :: ts ↔ (p.2.1 = findE es p.1∧p.2.2 = findE fs p.1∧(p.2.1 ≠ none∨p.2.2 ≠ none)):=by
 rintro ⟨x,u,v⟩
 rw [List.mem_cons,ih,he,hf]
 simp only
 by_cases e:h = x
 ·subst e
  rw [if_pos rfl,if_pos rfl,ae.none,af.none]
  constructor
  ·rintro (h1 | ⟨h1,h2,h3⟩)
   ·simp only [Prod.mk.injEq,true_and] at h1
    obtain ⟨rfl,rfl⟩:=h1
    exact ⟨rfl,rfl,hne⟩
   ·rcases h3 with h3 | h3
    ·exact absurd h1 h3
    ·exact absurd h2 h3
  ·rintro ⟨rfl,rfl,_⟩;exact .inl rfl
 ·rw [if_neg e,if_neg e]
  constructor
  ·rintro (h1 | h1)
   ·simp only [Prod.mk.injEq] at h1;exact absurd h1.1.symm e
   ·exact h1
  ·exact .inr
theorem above_cons {x:Str} {t:Tree} {es:Ents} (h:WFE ((x,t) :: es)):Above x es:=by unfold WFE at h;exact h.2.2.1
theorem above_all {x y:Str} {u:Tree} {fs:Ents} (h:WFE ((y,u) :: fs)) (hxy:Op.bytesLess x y = true):Above x ((y,u) :: fs):=by
 intro e he
 simp only [List.mem_cons] at he
 rcases he with rfl | he
 ·exact hxy
 ·exact bl_trans hxy (above_cons h e he)
theorem pairs_find {n:Nat}:∀ {es fs:Ents},es.length + fs.length ≤ n→WFE es→WFE fs→∀ p,p ∈ pairsT es fs ↔ (p.2.1 = findE es p.1∧p.2.2 = findE fs p.1∧(p.2.1 ≠ none∨p.2.2 ≠ none)):=by
 induction n with
 | zero =>
  intro es fs h _ _ p
  obtain rfl:es = []:=List.length_eq_zero_iff.1 (by omega)
  obtain rfl:fs = []:=List.length_eq_zero_iff.1 (by omega)
  simp only [pairsT,findE,List.not_mem_nil,false_iff]
  rintro ⟨h1,h2,h3 | h3⟩
  ·exact h3 h1
  ·exact h3 h2
 | succ n ih =>
  intro es fs h hw hv
  have c1:∀ (x:Str) (t:Tree) (es:Ents) z,findE ((x,t) :: es) z = if x = z then some t else findE es z:=fun x t es z => rfl
  have c0:∀ (x:Str) z,findE [] z = if x = z then none else findE [] z:=fun x z => by simp [findE]
  have tl:∀ {x:Str} {t:Tree} {es:Ents},WFE ((x,t) :: es)→WFE es:=fun h => by unfold WFE at h;exact h.2.2.2
  cases es with
  | nil =>
   cases fs with
   | nil => exact fun p => ih (es:=[]) (fs:=[]) (by simp) hw hv p
   | cons f fs =>
    obtain ⟨y,u⟩:=f
    rw [pairsT]
    exact find_cons (c0 y) (c1 y u fs) (fun e he => by simp at he) (above_cons hv) (.inr (by simp)) (ih (by simp at h ⊢;omega) hw (tl hv))
  | cons e es =>
   obtain ⟨x,t⟩:=e
   cases fs with
   | nil =>
    rw [pairsT]
    exact find_cons (c1 x t es) (c0 x) (above_cons hw) (fun e he => by simp at he) (.inl (by simp)) (ih (by simp at h ⊢;omega) (tl hw) hv)
   | cons f fs =>
    obtain ⟨y,u⟩:=f
    rw [pairsT]
    by_cases k1:Lib.compareBytes x y = -1
    ·rw [if_pos k1]
     have hl:=cmp_less k1
     refine find_cons (c1 x t es) (fun z => ?_) (above_cons hw) (above_all hv hl) (.inl (by simp)) (ih (by simp at h ⊢;omega) (tl hw) hv)
     by_cases e:x = z
     ·subst e;rw [if_pos rfl];exact (above_all hv hl).none
     ·rw [if_neg e]
    ·by_cases k2:Lib.compareBytes x y = 1
     ·rw [if_neg k1,if_pos k2]
      have hl:=cmp_more k2
      refine find_cons (fun z => ?_) (c1 y u fs) (above_all hw hl) (above_cons hv) (.inr (by simp)) (ih (by simp at h ⊢;omega) hw (tl hv))
      by_cases e:y = z
      ·subst e;rw [if_pos rfl];exact (above_all hw hl).none
      ·rw [if_neg e]
     ·rw [if_neg k1,if_neg k2]
      obtain rfl:=cmp_eq k1 k2
      exact find_cons (c1 x t es) (c1 x u fs) (above_cons hw) (above_cons hv) (.inl (by simp)) (ih (by simp at h ⊢;omega) (tl hw) (tl hv))

open Go.RowKit
def fileAtO (t:Option Tree) (p:List Str):Option Str:=match t with
 | none => none
 | some t => fileAt t p
def markF (a b:Option Str):Nat:=match a,b with
 | none,none => 0
 | some _,none => 45
 | none,some _ => 43
 | some d,some e => if d = e then 0 else 126
def wfO:Option Tree→Prop
 | some (.dir es) => WFE es
 | _ => True
theorem markF_self (a:Option Str):markF a a = 0:=by cases a <;> simp [markF]
theorem fileAtO_nil (t:Option Tree):fileAtO t [] = fileO t:=by
 cases t with
 | none => rfl
 | some t => cases t <;> rfl
theorem fileAtO_cons (t:Option Tree) (x:Str) (r:List Str):fileAtO t (x :: r) = fileAtO (findE (entsO t) x) r:=by
 cases t with
 | none => rfl
 | some t =>
  cases t with
  | file d => rfl
  | dir es =>
   simp only [fileAtO,entsO]
   unfold fileAt
   rw [sub]
   cases findE es x with
   | none => rfl
   | some u => rfl
theorem wfO_find {t:Option Tree} (h:wfO t) (x:Str):wfO (findE (entsO t) x):=by
 cases t with
 | none => trivial
 | some t =>
  cases t with
  | file d => trivial
  | dir es =>
   cases hf:findE (entsO (some (.dir es))) x with
   | none => trivial
   | some u =>
    have hm:=findE_mem hf
    have hu:=(WFE.mem h _ hm).2
    cases u with
    | file d => trivial
    | dir c => unfold WFT at hu;exact hu.2
theorem wfO_ents {t:Option Tree} (h:wfO t):WFE (entsO t):=by
 cases t with
 | none => unfold entsO WFE;trivial
 | some t =>
  cases t with
  | file d => unfold entsO WFE;trivial
  | dir es => exact h
theorem chg_mem (n:Nat):∀ (a b:Option Tree),fitsT n a→fitsT n b→wfO a→wfO b→∀ p m,(p,m) ∈ chgN n a b ↔ (m = markF (fileAtO a p) (fileAtO b p)∧m ≠ 0):=by
 induction n with
 | zero =>
  intro a b hfa hfb _ _ p m
  cases a with
  | some t => exact hfa.elim
  | none =>
   cases b with
   | some t => exact hfb.elim
   | none =>
    simp only [chgN,List.not_mem_nil,false_iff]
    rintro ⟨h1,h2⟩
    exact h2 (h1.trans (markF_self _))
 | succ n ih =>
  intro a b hfa hfb hwa hwb p m
  rw [chgN]
  by_cases hab:a = b
  ·subst hab
   rw [if_pos rfl]
   simp only [List.not_mem_nil,false_iff]
   rintro ⟨h1,h2⟩
   exact h2 (h1.trans (markF_self _))
  ·rw [if_neg hab,List.mem_append]
   have hp:=pair_fits hfa hfb
   have hpf:=pairs_find (Nat.le_refl _) (wfO_ents hwa) (wfO_ents hwb)
   cases p with
   | nil =>
    rw [fileAtO_nil,fileAtO_nil]
    have e:markF (fileO a) (fileO b) = markT a b:=rfl
    rw [e]
    constructor
    ·rintro (h | h)
     ·by_cases hm:markT a b = 0
      ·rw [if_pos hm] at h;simp at h
      ·rw [if_neg hm] at h
       simp only [List.mem_singleton,Prod.mk.injEq,true_and] at h
       exact ⟨h,by rw [h];exact hm⟩
     ·simp only [List.mem_flatMap,List.mem_map,Prod.mk.injEq] at h
      obtain ⟨q,_,f,_,h1,_⟩:=h
      cases h1
    ·rintro ⟨rfl,h2⟩
     left;rw [if_neg h2];simp
   | cons x r =>
    rw [fileAtO_cons,fileAtO_cons]
    constructor
    ·rintro (h | h)
     ·by_cases hm:markT a b = 0
      ·rw [if_pos hm] at h;simp at h
      ·rw [if_neg hm] at h;simp at h
     ·simp only [List.mem_flatMap,List.mem_map,Prod.mk.injEq] at h
      obtain ⟨q,hq,f,hf,h1,h2⟩:=h
      obtain ⟨q1,q2,q3⟩:=q
      simp only [List.cons.injEq] at h1
      obtain ⟨rfl,rfl⟩:=h1
      obtain ⟨k1,k2,_⟩:=(hpf _).1 hq
      simp only at k1 k2 hf
      obtain ⟨f1,f2,f3⟩:=hp _ hq
      simp only at f2 f3
      subst k1
      subst k2
      have:=(ih _ _ f2 f3 (wfO_find hwa _) (wfO_find hwb _) f.1 f.2).1 hf
      rw [← h2];exact this
    ·rintro ⟨h1,h2⟩
     right
     have hne:findE (entsO a) x ≠ none∨findE (entsO b) x ≠ none:=by
      refine Classical.byContradiction fun hc => ?_
      have e1:findE (entsO a) x = none:=Classical.byContradiction fun h => hc (.inl h)
      have e2:findE (entsO b) x = none:=Classical.byContradiction fun h => hc (.inr h)
      rw [e1,e2] at h1
      exact h2 h1
     have hq:=(hpf (x,findE (entsO a) x,findE (entsO b) x)).2 ⟨rfl,rfl,hne⟩
     obtain ⟨f1,f2,f3⟩:=hp _ hq
     simp only [List.mem_flatMap,List.mem_map,Prod.mk.injEq]
     exact ⟨_,hq,(r,m),(ih _ _ f2 f3 (wfO_find hwa _) (wfO_find hwb _) r m).2 ⟨h1,h2⟩,rfl,rfl⟩

open Go.RowKit
theorem pairs_above {x:Str} {es fs:Ents} (he:Above x es) (hf:Above x fs):∀ q ∈ pairsT es fs,Op.bytesLess x q.1 = true:=by
 intro q hq
 obtain ⟨m1,m2,m3⟩:=pairs_mem (Nat.le_refl _) q hq
 cases h1:q.2.1 with
 | some t => exact he _ (m1 t h1)
 | none =>
  cases h2:q.2.2 with
  | none => exact absurd h2 (m3 h1)
  | some t =>
   obtain ⟨y,hy,e⟩:=m2 t h2
   rw [e];exact hf _ hy
theorem pairs_sorted {n:Nat}:∀ {es fs:Ents},es.length + fs.length ≤ n→WFE es→WFE fs→(pairsT es fs).Pairwise fun p q => Op.bytesLess p.1 q.1 = true:=by
 induction n with
 | zero =>
  intro es fs h _ _
  obtain rfl:es = []:=List.length_eq_zero_iff.1 (by omega)
  obtain rfl:fs = []:=List.length_eq_zero_iff.1 (by omega)
  simp [pairsT]
 | succ n ih =>
  intro es fs h hw hv
  have tl:∀ {x:Str} {t:Tree} {es:Ents},WFE ((x,t) :: es)→WFE es:=fun h => by unfold WFE at h;exact h.2.2.2
  cases es with
  | nil =>
   cases fs with
   | nil => simp [pairsT]
   | cons f fs =>
    obtain ⟨y,u⟩:=f
    rw [pairsT,List.pairwise_cons]
    exact ⟨pairs_above (fun e he => by simp at he) (above_cons hv),ih (by simp at h ⊢;omega) hw (tl hv)⟩
  | cons e es =>
   obtain ⟨x,t⟩:=e
   cases fs with
   | nil =>
    rw [pairsT,List.pairwise_cons]
    exact ⟨pairs_above (above_cons hw) (fun e he => by simp at he),ih (by simp at h ⊢;omega) (tl hw) hv⟩
   | cons f fs =>
    obtain ⟨y,u⟩:=f
    rw [pairsT]
    by_cases k1:Lib.compareBytes x y = -1
    ·rw [if_pos k1,List.pairwise_cons]
     exact ⟨pairs_above (above_cons hw) (above_all hv (cmp_less k1)),ih (by simp at h ⊢;omega) (tl hw) hv⟩
    ·by_cases k2:Lib.compareBytes x y = 1
     ·rw [if_neg k1,if_pos k2,List.pairwise_cons]
      exact ⟨pairs_above (above_all hw (cmp_more k2)) (above_cons hv),ih (by simp at h ⊢;omega) hw (tl hv)⟩
     ·rw [if_neg k1,if_neg k2]
      obtain rfl:=cmp_eq k1 k2
      rw [List.pairwise_cons]
      exact ⟨pairs_above (above_cons hw) (above_cons hv),ih (by simp at h ⊢;omega) (tl hw) (tl hv)⟩
theorem chg_sorted (n:Nat):∀ (a b:Option Tree),fitsT n a→fitsT n b→wfO a→wfO b→(chgN n a b).Pairwise fun f g => lessS f.1 g.1 = true:=by
 induction n with
 | zero => intro a b _ _ _ _;simp [chgN]
 | succ n ih =>
  intro a b hfa hfb hwa hwb
  rw [chgN]
  by_cases hab:a = b
  ·rw [if_pos hab];exact List.Pairwise.nil
  ·rw [if_neg hab,List.pairwise_append]
   have hp:=pair_fits hfa hfb
   have hpf:=pairs_find (Nat.le_refl _) (wfO_ents hwa) (wfO_ents hwb)
   have hps:=pairs_sorted (Nat.le_refl _) (wfO_ents hwa) (wfO_ents hwb)
   refine ⟨?_,?_,?_⟩
   ·by_cases hm:markT a b = 0
    ·rw [if_pos hm];exact List.Pairwise.nil
    ·rw [if_neg hm];simp
   ·have key:∀ q ∈ pairsT (entsO a) (entsO b),(chgN n q.2.1 q.2.2).Pairwise fun f g => lessS f.1 g.1 = true:=by
     intro q hq
     obtain ⟨f1,f2,f3⟩:=hp q hq
     obtain ⟨k1,k2,_⟩:=(hpf q).1 hq
     refine ih _ _ f2 f3 ?_ ?_
     ·rw [k1];exact wfO_find hwa _
     ·rw [k2];exact wfO_find hwb _
    generalize pairsT (entsO a) (entsO b) = ts at hps key
    clear hp hpf
    induction ts with
    | nil => exact List.Pairwise.nil
    | cons q ts iht =>
     rw [List.pairwise_cons] at hps
     rw [List.flatMap_cons,List.pairwise_append]
     refine ⟨?_,iht hps.2 (fun q' hq' => key q' (by simp [hq'])),?_⟩
     ·rw [List.pairwise_map]
      refine (key q (by simp)).imp ?_
      intro f g hfg
      simp only [lessS,if_true];exact hfg
     ·intro f hf g hg
      rw [List.mem_map] at hf
      obtain ⟨f',_,rfl⟩:=hf
      rw [List.mem_flatMap] at hg
      obtain ⟨q',hq',hg⟩:=hg
      rw [List.mem_map] at hg
      obtain ⟨g',_,rfl⟩:=hg
      have hl:=hps.1 q' hq'
      simp only [lessS];rw [if_neg (bl_ne hl)];exact hl
   ·intro f hf g hg
    by_cases hm:markT a b = 0
    ·rw [if_pos hm] at hf;simp at hf
    ·rw [if_neg hm,List.mem_singleton] at hf
     subst hf
     rw [List.mem_flatMap] at hg
     obtain ⟨q',_,hg⟩:=hg
     rw [List.mem_map] at hg
     obtain ⟨g',_,rfl⟩:=hg
     rfl

open Go.RowKit
def stepA (B:Ents) (both:List NF) (f:NF):List NF:=match fileAt (.dir B) f.1 with
 | none => insN both (f.1,[45])
 | some e => if e = f.2 then both else insN both (f.1,[126])
def stepB (A:Ents) (both:List NF) (f:NF):List NF:=match fileAt (.dir A) f.1 with
 | none => insN both (f.1,[43])
 | some _ => both
theorem get_file {es:Ents} {q:List Str} (h:WFE es) (hq:OkN q):getI (toF (filesE es)) (joinP q) < 0 ↔ fileAt (.dir es) q = none:=by
 rw [get_names (valid_files h).1 hq]
 constructor
 ·intro hn
  cases hf:fileAt (.dir es) q with
  | none => rfl
  | some d => exact absurd rfl (hn _ ((mem_root h q d).2 hf))
 ·intro hn f hf e
  have:=(mem_root h f.1 f.2).1 hf
  rw [e,hn] at this;cases this
theorem sub_of_file {t:Tree} {q:List Str} {d:Str} (h:fileAt t q = some d):sub t q = some (.file d):=by
 unfold fileAt at h
 split at h
 ·rename_i e he;rw [he];simp at h;rw [h]
 ·cases h
structure Good (l:List NF):Prop where
 sorted:SortedN l
 valid:ValidN l
theorem Good.ins {l:List NF} (h:Good l) {f:NF} (hf:OkN f.1):Good (insN l f):=⟨insN_sorted h.sorted f,insN_valid h.sorted h.valid hf⟩
theorem diffA_names {B:Ents} (hB:WFE B) {both:List NF} (hg:Good both) {f:NF} (hf:OkN f.1):diffA (toF (filesE B)) (toF both) (joinP f.1,f.2) = toF (stepA B both f)∧Good (stepA B both f):=by
 unfold diffA stepA
 simp only
 cases h:fileAt (.dir B) f.1 with
 | none =>
  rw [if_pos ((get_file hB hf).2 h)]
  exact ⟨put_names (f:=(f.1,[45])) hg.valid hf hg.sorted,hg.ins hf⟩
 | some e =>
  rw [if_neg (fun hc => by rw [(get_file hB hf).1 hc] at h;cases h),data_at hB hf (sub_of_file h)]
  simp only
  by_cases he:e = f.2
  ·rw [if_pos he,if_pos he];exact ⟨rfl,hg⟩
  ·rw [if_neg he,if_neg he];exact ⟨put_names (f:=(f.1,[126])) hg.valid hf hg.sorted,hg.ins hf⟩
theorem diffB_names {A:Ents} (hA:WFE A) {both:List NF} (hg:Good both) {f:NF} (hf:OkN f.1):diffB (toF (filesE A)) (toF both) (joinP f.1,f.2) = toF (stepB A both f)∧Good (stepB A both f):=by
 unfold diffB stepB
 simp only
 cases h:fileAt (.dir A) f.1 with
 | none =>
  rw [if_pos ((get_file hA hf).2 h)]
  exact ⟨put_names (f:=(f.1,[43])) hg.valid hf hg.sorted,hg.ins hf⟩
 | some e =>
  rw [if_neg (fun hc => by rw [(get_file hA hf).1 hc] at h;cases h)]
  exact ⟨rfl,hg⟩
theorem foldA_names {B:Ents} (hB:WFE B):∀ (l both:List NF),ValidN l→Good both→(toF l).foldl (diffA (toF (filesE B))) (toF both) = toF (l.foldl (stepA B) both)∧Good (l.foldl (stepA B) both)
 | [],both,_,hg => ⟨rfl,hg⟩
 | f :: l,both,hl,hg => by
  obtain ⟨h1,h2⟩:=diffA_names hB hg (hl f (by simp))
  have:=foldA_names hB l _ (fun g hg' => hl g (by simp [hg'])) h2
  simp only [toF,List.map_cons,List.foldl_cons] at h1 this ⊢
  rw [h1];exact this
theorem foldB_names {A:Ents} (hA:WFE A):∀ (l both:List NF),ValidN l→Good both→(toF l).foldl (diffB (toF (filesE A))) (toF both) = toF (l.foldl (stepB A) both)∧Good (l.foldl (stepB A) both)
 | [],both,_,hg => ⟨rfl,hg⟩
 | f :: l,both,hl,hg => by
  obtain ⟨h1,h2⟩:=diffB_names hA hg (hl f (by simp))
  have:=foldB_names hA l _ (fun g hg' => hl g (by simp [hg'])) h2
  simp only [toF,List.map_cons,List.foldl_cons] at h1 this ⊢
  rw [h1];exact this
theorem good_nil:Good []:=⟨by unfold SortedN;exact List.Pairwise.nil,fun f hf => by simp at hf⟩
theorem diff_names {A B:Ents} (hA:WFE A) (hB:WFE B):diffL (toF (filesE A)) (toF (filesE B)) = toF ((filesE B).foldl (stepB A) ((filesE A).foldl (stepA B) []))∧Good ((filesE B).foldl (stepB A) ((filesE A).foldl (stepA B) [])):=by
 obtain ⟨h1,h2⟩:=foldA_names hB (filesE A) [] (valid_files hA).1 good_nil
 obtain ⟨h3,h4⟩:=foldB_names hA (filesE B) _ (valid_files hB).1 h2
 unfold diffL
 have e:(toF (filesE A)).foldl (diffA (toF (filesE B))) [] = toF ((filesE A).foldl (stepA B) []):=h1
 rw [e]
 exact ⟨h3,h4⟩

open Go.RowKit
def stepC (c:NF→Option Str) (both:List NF) (f:NF):List NF:=match c f with
 | none => both
 | some k => insN both (f.1,k)
theorem fold_mem (c:NF→Option Str):∀ (l both:List NF),(l.map (·.1)).Nodup→SortedN both→(∀ f ∈ l,c f ≠ none→∀ x ∈ both,x.1 ≠ f.1)→∀ x,x ∈ l.foldl (stepC c) both ↔ (x ∈ both∨∃ f ∈ l,c f = some x.2∧x.1 = f.1)
 | [],both,_,_,_,x => by simp
 | f :: l,both,hn,hs,hd,x => by
  rw [List.map_cons,List.nodup_cons] at hn
  rw [List.foldl_cons]
  cases hc:c f with
  | none =>
   have e:stepC c both f = both:=by unfold stepC;rw [hc]
   rw [e,fold_mem c l both hn.2 hs (fun g hg => hd g (by simp [hg])) x]
   constructor
   ·rintro (h | ⟨g,hg,h⟩)
    ·exact .inl h
    ·exact .inr ⟨g,by simp [hg],h⟩
   ·rintro (h | ⟨g,hg,h⟩)
    ·exact .inl h
    ·simp only [List.mem_cons] at hg
     rcases hg with rfl | hg
     ·rw [hc] at h;cases h.1
     ·exact .inr ⟨g,hg,h⟩
  | some k =>
   have e:stepC c both f = insN both (f.1,k):=by unfold stepC;rw [hc]
   have hd1:=hd f (by simp) (by rw [hc];simp)
   have hm:∀ y,y ∈ insN both (f.1,k) ↔ y = (f.1,k)∨y ∈ both:=fun y => by
    rw [insN_mem hs]
    exact ⟨fun h => h.imp id (fun h => h.1),fun h => h.imp id (fun h => ⟨h,hd1 y h⟩)⟩
   rw [e,fold_mem c l _ hn.2 (insN_sorted hs _) ?_ x,hm]
   ·constructor
    ·rintro ((h | h) | ⟨g,hg,h⟩)
     ·exact .inr ⟨f,by simp,by rw [hc,h],by rw [h]⟩
     ·exact .inl h
     ·exact .inr ⟨g,by simp [hg],h⟩
    ·rintro (h | ⟨g,hg,h⟩)
     ·exact .inl (.inr h)
     ·simp only [List.mem_cons] at hg
      rcases hg with rfl | hg
      ·rw [hc] at h
       exact .inl (.inl (Prod.ext h.2 (Option.some.inj h.1).symm))
      ·exact .inr ⟨g,hg,h⟩
   ·intro g hg hcg y hy
    rcases (hm y).1 hy with rfl | hy
    ·intro e2
     exact hn.1 (List.mem_map.2 ⟨g,hg,e2.symm⟩)
    ·exact hd g (by simp [hg]) hcg y hy
def cA (B:Ents) (f:NF):Option Str:=match fileAt (.dir B) f.1 with
 | none => some [45]
 | some e => if e = f.2 then none else some [126]
def cB (A:Ents) (f:NF):Option Str:=match fileAt (.dir A) f.1 with
 | none => some [43]
 | some _ => none
theorem stepA_eq (B:Ents):stepA B = stepC (cA B):=by
 funext both f
 unfold stepA stepC cA
 cases fileAt (.dir B) f.1 with
 | none => rfl
 | some e => simp only;split <;> rfl
theorem stepB_eq (A:Ents):stepB A = stepC (cB A):=by
 funext both f
 unfold stepB stepC cB
 cases fileAt (.dir A) f.1 <;> rfl
theorem diff_mem {A B:Ents} (hA:WFE A) (hB:WFE B):∀ x,x ∈ (filesE B).foldl (stepB A) ((filesE A).foldl (stepA B) []) ↔ ((∃ d,fileAt (.dir A) x.1 = some d∧cA B (x.1,d) = some x.2)∨(∃ d,fileAt (.dir B) x.1 = some d∧cB A (x.1,d) = some x.2)):=by
 intro x
 rw [stepA_eq,stepB_eq]
 have nA:=sorted_nodup (sorted_filesE A hA)
 have nB:=sorted_nodup (sorted_filesE B hB)
 have m1:=fold_mem (cA B) (filesE A) [] nA (by unfold SortedN;exact List.Pairwise.nil) (fun _ _ _ y hy => by simp at hy)
 have s1:SortedN ((filesE A).foldl (stepC (cA B)) []):=by
  rw [← stepA_eq];exact (foldA_names hB (filesE A) [] (valid_files hA).1 good_nil).2.sorted
 rw [fold_mem (cB A) (filesE B) _ nB s1 ?_ x,m1]
 ·constructor
  ·rintro ((h | ⟨f,hf,h1,h2⟩) | ⟨f,hf,h1,h2⟩)
   ·simp at h
   ·exact .inl ⟨f.2,by rw [h2];exact (mem_root hA _ _).1 hf,by rw [h2];exact h1⟩
   ·exact .inr ⟨f.2,by rw [h2];exact (mem_root hB _ _).1 hf,by rw [h2];exact h1⟩
  ·rintro (⟨d,h1,h2⟩ | ⟨d,h1,h2⟩)
   ·exact .inl (.inr ⟨(x.1,d),(mem_root hA _ _).2 h1,h2,rfl⟩)
   ·exact .inr ⟨(x.1,d),(mem_root hB _ _).2 h1,h2,rfl⟩
 ·intro f hf hc y hy e
  rcases (m1 y).1 hy with h | ⟨g,hg,_,h2⟩
  ·simp at h
  ·have h3:=(mem_root hA _ _).1 hg
   rw [← h2,e] at h3
   unfold cB at hc
   rw [h3] at hc
   exact hc rfl
theorem one_mark {c:Nat} (hc:c ≠ 0) (k:Str):(∃ m,(m = c∧m ≠ 0)∧k = [UInt8.ofNat m]) ↔ k = [UInt8.ofNat c] :=
 ⟨by rintro ⟨m,⟨rfl,_⟩,e⟩;exact e,fun e => ⟨c,⟨rfl,hc⟩,e⟩⟩
theorem diff_chg {A B:Ents} (hA:WFE A) (hB:WFE B) (h5:heightE A ≤ 5) (h5' : heightE B ≤ 5):diffL (toF (filesE A)) (toF (filesE B)) = toF ((chgN 6 (some (.dir A)) (some (.dir B))).map fun f => (f.1,[UInt8.ofNat f.2])):=by
 obtain ⟨h1,h2⟩:=diff_names hA hB
 rw [h1]
 congr 1
 have fa:=fits_root hA h5
 have fb:=fits_root hB h5'
 refine sorted_unique h2.sorted ?_ ?_
 ·unfold SortedN
  rw [List.pairwise_map]
  exact chg_sorted 6 _ _ fa fb hA hB
 ·rintro ⟨p,k⟩
  rw [diff_mem hA hB]
  have hm:=fun m => chg_mem 6 (some (.dir A)) (some (.dir B)) fa fb hA hB p m
  have e1:fileAtO (some (.dir A)) p = fileAt (.dir A) p:=rfl
  have e2:fileAtO (some (.dir B)) p = fileAt (.dir B) p:=rfl
  rw [e1,e2] at hm
  have hr:(p,k) ∈ ((chgN 6 (some (.dir A)) (some (.dir B))).map fun f => (f.1,[UInt8.ofNat f.2])) ↔ ∃ m,(p,m) ∈ chgN 6 (some (.dir A)) (some (.dir B))∧k = [UInt8.ofNat m]:=by
   rw [List.mem_map]
   constructor
   ·rintro ⟨f,hf,e⟩
    simp only [Prod.mk.injEq] at e
    exact ⟨f.2,by rw [← e.1];exact hf,e.2.symm⟩
   ·rintro ⟨m,hf,e⟩
    exact ⟨_,hf,by rw [e]⟩
  rw [hr]
  simp only [hm]
  simp only [cA,cB]
  cases fileAt (.dir A) p with
  | none =>
   cases fileAt (.dir B) p with
   | none => simp [markF]
   | some e =>
    rw [show markF none (some e) = 43 from rfl,one_mark (by decide)]
    constructor
    ·rintro (⟨d,h,_⟩ | ⟨d,_,h⟩)
     ·cases h
     ·exact (Option.some.inj h).symm
    ·rintro rfl;exact .inr ⟨e,rfl,rfl⟩
  | some d =>
   cases fileAt (.dir B) p with
   | none =>
    rw [show markF (some d) none = 45 from rfl,one_mark (by decide)]
    constructor
    ·rintro (⟨d',_,h⟩ | ⟨d',h,_⟩)
     ·exact (Option.some.inj h).symm
     ·cases h
    ·rintro rfl;exact .inl ⟨d,rfl,rfl⟩
   | some e =>
    by_cases he:d = e
    ·subst he;simp [markF]
    ·have he' : ¬ e = d:=fun h => he h.symm
     rw [show markF (some d) (some e) = 126 from if_neg he,one_mark (by decide)]
     constructor
     ·rintro (⟨d',h1,h⟩ | ⟨d',_,h⟩)
      ·obtain rfl:=Option.some.inj h1
       simp only [if_neg he'] at h
       exact (Option.some.inj h).symm
      ·cases h
     ·rintro rfl;exact .inl ⟨d,rfl,by simp only [if_neg he'];rfl⟩
end Go.Proofs.YtdcbgfhkfmohiaaGreatDoor
