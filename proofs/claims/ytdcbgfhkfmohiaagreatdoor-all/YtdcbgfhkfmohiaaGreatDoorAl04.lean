/- Contracts of the document's answer (package canopyref): Diff. -/
import Derived.Test.YtdcbgfhkfmohiaaGreatDoorAl03
namespace Go.Proofs.YtdcbgfhkfmohiaaGreatDoor
open Go.RowKit
def diffA (m both:List Fl) (f:Fl):List Fl:=if getI m f.1 < 0 then putL both (f.1,[45]) else if dataAt m (getI m f.1) = f.2 then both else putL both (f.1,[126])
def diffB (l both:List Fl) (f:Fl):List Fl:=if getI l f.1 < 0 then putL both (f.1,[43]) else both
def diffL (l m:List Fl):List Fl:=m.foldl (diffB l) (l.foldl (diffA m) [])
def lineF (f:Fl):Str:=f.2 ++ (f.1 ++ [10])
def diffT (l m:List Fl):Str:=(diffL l m).flatMap lineF
def diffR (r:RSt) (a b:Int):Str × Nat :=
 match findL r.all a,findL r.all b with
 | some l,some m => (diffT l m,0)
 | _,_ => ([],2)
def DSmall (n:Nat) (l:List Fl):Prop:=l.length ≤ n∧∀ f ∈ l,f.1.length ≤ 100∧f.2.length ≤ 1
theorem DSmall.small {n:Nat} {l:List Fl} (h:DSmall n l) (hn:n ≤ 1000):Small l:=⟨by have:=h.1;omega,fun f hf => by have:=h.2 f hf;omega⟩
theorem DSmall.put {n:Nat} {l:List Fl} {f:Fl} (h:DSmall n l) (h1:f.1.length ≤ 100) (h2:f.2.length ≤ 1):DSmall (n + 1) (putL l f):=by
 refine ⟨by have:=putL_len_le l f;have:=h.1;omega,fun g hg => ?_⟩
 rcases putL_mem g hg with h3 | h3
 ·exact h.2 g h3
 ·subst h3;exact ⟨h1,h2⟩
theorem DSmall.mono {n n' : Nat} {l:List Fl} (h:DSmall n l) (hn:n ≤ n'):DSmall n' l:=⟨by have:=h.1;omega,h.2⟩
theorem foldA_take {l m z:List Fl} {k:Nat} (hk:k < l.length):(l.take (k + 1)).foldl (diffA m) z = diffA m ((l.take k).foldl (diffA m) z) l[k]:=by
 rw [List.take_succ_eq_append_getElem hk,List.foldl_append];rfl
theorem foldB_take {l m z:List Fl} {k:Nat} (hk:k < m.length):(m.take (k + 1)).foldl (diffB l) z = diffB l ((m.take k).foldl (diffB l) z) m[k]:=by
 rw [List.take_succ_eq_append_getElem hk,List.foldl_append];rfl
theorem lines_take {l:List Fl} {k:Nat} (hk:k < l.length):(l.take (k + 1)).flatMap lineF = (l.take k).flatMap lineF ++ lineF l[k]:=by
 rw [List.take_succ_eq_append_getElem hk,List.flatMap_append];simp
theorem lines_len {n:Nat} {l:List Fl} (h:DSmall n l) (k:Nat):((l.take k).flatMap lineF).length ≤ 102 * k:=by
 induction k with
 | zero => simp
 | succ k ih =>
  by_cases hk:k < l.length
  ·have:=h.2 l[k] (List.getElem_mem hk)
   rw [lines_take hk];simp only [lineF,List.length_append,List.length_singleton];omega
  ·rw [List.take_of_length_le (by omega)];rw [List.take_of_length_le (by omega)] at ih;omega
def DiffOut (w:World) (o:Str × Nat) (e:Ending) (w' : World):Prop:=e = .returned (.tuple #[SV o.1,.int .i64 o.2])∧Below w.heap.size w w'
set_option maxHeartbeats 8000000 in
set_option maxRecDepth 20000 in
theorem refDiff_any (b:Nat) (r:RSt) (va vr:Value) (sn:List (Nat × Value)) (i j:Int) (w:World) (h:RefAt w b r va vr sn) :
  Calls Tryz.prog 103 #[.pointer (some ⟨b,0,none⟩),.int .i64 i,.int .i64 j] w fun e w' => DiffOut w (diffR r i j) e w':=by
 have H:Hid _:=h
 clear h
 go_enter Tryz.func103,Tryz.ntmps103
 go_wp2_with fail
 refine (find_any b r va vr sn i _ H.out).mono ?_
 rintro e w1 ⟨rfl,hf⟩
 rcases hf with ⟨k,h1,h2,hfl,rfl⟩ | ⟨hfl,rfl⟩
 ·have hF:=H.out.fil k h1 h2
  have hT:=H.out.tiny r.all[k] (List.getElem_mem h2)
  generalize r.all[k].2 = l at *
  generalize sn[k].2 = v at *
  obtain ⟨ao,cap,rfl⟩:=row_form hF
  have Hfl:Hid _:=hfl
  clear h1 h2 hfl
  go_wp2_with fail
  refine (find_any b r va vr sn j _ H.out).mono ?_
  rintro e w2 ⟨rfl,hf⟩
  rcases hf with ⟨k2,h1,h2,hfm,rfl⟩ | ⟨hfm,rfl⟩
  ·have hG:=H.out.fil k2 h1 h2
   have hU:=H.out.tiny r.all[k2] (List.getElem_mem h2)
   generalize r.all[k2].2 = m at *
   generalize sn[k2].2 = v2 at *
   obtain ⟨ao2,cap2,rfl⟩:=row_form hG
   have RR:Hid (diffR r i j = (diffT l m,0)):=by rw [Hid,diffR,Hfl.out,hfm]
   have hl20:=hT.1
   have hm20:=hU.1
   obtain ⟨a1,c1,e1,_,hc1,hv1⟩:=files_view hF
   obtain ⟨a2,c2,e2,_,hc2,hv2⟩:=files_view hG
   simp only [Value.slice.injEq] at e1 e2
   obtain ⟨rfl,_,rfl⟩:=e1
   obtain ⟨rfl,_,rfl⟩:=e2
   clear h1 h2 hfm Hfl H k k2
   go_wp2_with fail
   go_loopw [12,13] (fun v i wr => ∃ (k:Nat),k ≤ l.length∧i = .int .i64 k∧FilesAt wr v ((l.take k).foldl (diffA m) [])∧DSmall k ((l.take k).foldl (diffA m) [])∧Below w2.heap.size w2 wr) (fun _ i _ => l.length - (intOf i).toNat)
   case atStart => exact ⟨0,Nat.zero_le _,rfl,World.ownsRow_nil _ _ _ _,⟨by simp,by simp⟩,Below.refl _ _⟩
   case round =>
    obtain ⟨k,hk,rfl,hFb,hds,hB⟩:=hrel
    have hsm:=hds.small (by omega)
    by_cases hlt:k < l.length
    ·obtain ⟨g,rfl,hg,hpc,hdc⟩:=hv1 k hlt
     have hpc':=(hB.cell (p:=⟨g,k * 2,none⟩) hg).trans hpc
     have hdc':=(hB.cell (p:=⟨g,k * 2 + 1,none⟩) hg).trans hdc
     have hGr:=files_below hG hB (Nat.le_refl _)
     have hfl:=hT.2 l[k] (List.getElem_mem hlt)
     have hf5:l[k].1.length ≤ 5000:=by omega
     have HS:Hid _:=foldA_take (m:=m) (z:=[]) hlt
     generalize (l.take k).foldl (diffA m) [] = bo at *
     go_wp2_with fail
     refine (get_any m _ l[k].1 _ hGr).mono ?_
     rintro e w3 ⟨rfl,rfl⟩
     by_cases hx:getI m l[k].1 < 0
     ·have R:Hid ((l.take (k + 1)).foldl (diffA m) [] = putL bo (l[k].1,[45])):=by rw [Hid,HS.out,diffA,if_pos hx]
      have hds2:=hds.put (f:=(l[k].1,[45])) hfl.1 (by simp)
      go_wp2_with fail
      refine (put_any bo _ (l[k].1,[45]) _ hFb hsm hf5).mono ?_
      rintro e w9 ⟨v9,rfl,hown9,hb9⟩
      have hB9:=hB.trans (hb9.mono hB.size)
      have hF9:FilesAt w9 v9 (putL bo (l[k].1,[45])):=ownsRow_le hown9 (Nat.zero_le _)
      clear hown9 hb9 hB hpc' hdc' hFb hGr
      go_wp2_with fail
      go_roundw
      case rel => exact ⟨k + 1,by omega,by go_num,by rw [R.out];exact hF9,by rw [R.out];exact hds2,hB9⟩
      case measure => simp [intOf];omega
     ·obtain ⟨k1,hk1,hl1⟩:=getI_lt (show 0 ≤ getI m l[k].1 by omega)
      obtain ⟨g2,rfl,hg2,_,hd2⟩:=hv2 k1 hl1
      have hd2':=(hB.cell (p:=⟨g2,k1 * 2 + 1,none⟩) hg2).trans hd2
      have hx' : ¬ ((k1:Int) < 0):=by omega
      have i1:(k1:Int) < (m.length:Int):=by omega
      have i2:(k:Int) < (l.length:Int):=by omega
      have RD:Hid (diffA m bo l[k] = if m[k1].2 = l[k].2 then bo else putL bo (l[k].1,[126])):=by
       rw [Hid,diffA,if_neg hx,hk1,dataAt,Int.toNat_natCast,List.getElem?_eq_getElem hl1]
      clear hx
      cases he:(m[k1].2 == l[k].2)
      ·have hne:(m[k1].2 != l[k].2) = true:=by simp at he ⊢;exact he
       have R:Hid ((l.take (k + 1)).foldl (diffA m) [] = putL bo (l[k].1,[126])):=by rw [Hid,HS.out,RD.out,if_neg (by simpa using he)]
       have hds2:=hds.put (f:=(l[k].1,[126])) hfl.1 (by simp)
       go_wp2_with fail
       go_quiet (fail)
       go_wp2_with fail
       refine (put_any bo _ (l[k].1,[126]) _ (by exact files_below hFb (below_drewN (Below.refl _ _) _) (Nat.le_refl _)) hsm hf5).mono ?_
       rintro e w9 ⟨v9,rfl,hown9,hb9⟩
       have hB9:=hB.trans ((below_drewN (Below.refl w3.heap.size w3) _).trans hb9 |>.mono hB.size)
       have hF9:FilesAt w9 v9 (putL bo (l[k].1,[126])):=ownsRow_le hown9 (Nat.zero_le _)
       clear hown9 hb9 hB hpc' hdc' hd2' hFb hGr
       go_wp2_with fail
       go_roundw
       case rel => exact ⟨k + 1,by omega,by go_num,by rw [R.out];exact hF9,by rw [R.out];exact hds2,hB9⟩
       case measure => simp [intOf];omega
      ·have he2:m[k1].2 = l[k].2:=by simpa using he
       have R:Hid ((l.take (k + 1)).foldl (diffA m) [] = bo):=by rw [Hid,HS.out,RD.out,if_pos he2]
       rw [he2] at hd2'
       clear he he2
       go_wp2_with fail
       go_quiet (fail)
       go_wp2_with fail
       go_roundw
       case rel => exact ⟨k + 1,by omega,by go_num,by rw [R.out];exact files_below hFb (below_drewN (Below.refl _ _) _) (Nat.le_refl _),by rw [R.out];exact hds.mono (by omega),below_drewN hB _⟩
       case measure => simp [intOf];omega
    ·have HA:Hid ((l.take k).foldl (diffA m) [] = l.foldl (diffA m) []):=by rw [Hid,List.take_of_length_le (by omega)]
     have hds20:=hds.mono (n':=20) (by omega)
     rw [HA.out] at hFb hds20
     clear hds hsm hv1 HA
     generalize hbo:l.foldl (diffA m) [] = bo at *
     have Hbo:Hid _:=hbo
     clear hbo
     go_wp2_with fail
     go_loopw [12,15] (fun v i wr => ∃ (q:Nat),q ≤ m.length∧i = .int .i64 q∧FilesAt wr v ((m.take q).foldl (diffB l) bo)∧DSmall (20 + q) ((m.take q).foldl (diffB l) bo)∧Below w2.heap.size w2 wr) (fun _ i _ => m.length - (intOf i).toNat)
     case atStart => exact ⟨0,Nat.zero_le _,rfl,hFb,hds20,hB⟩
     case round =>
      clear hFb hds20 hB hlt hk
      obtain ⟨q,hq,rfl,hFb,hds,hB⟩:=hrel
      have hsm:=hds.small (by omega)
      by_cases hlt:q < m.length
      ·obtain ⟨g,rfl,hg,hpc,hdc⟩:=hv2 q hlt
       have hpc':=(hB.cell (p:=⟨g,q * 2,none⟩) hg).trans hpc
       have hFr:=files_below hF hB (Nat.le_refl _)
       have hfl:=hU.2 m[q] (List.getElem_mem hlt)
       have hf5:m[q].1.length ≤ 5000:=by omega
       have HS:Hid _:=foldB_take (l:=l) (z:=bo) hlt
       generalize (m.take q).foldl (diffB l) bo = bt at *
       go_wp2_with fail
       refine (get_any l _ m[q].1 _ hFr).mono ?_
       rintro e w3 ⟨rfl,rfl⟩
       by_cases hx:getI l m[q].1 < 0
       ·have R:Hid ((m.take (q + 1)).foldl (diffB l) bo = putL bt (m[q].1,[43])):=by rw [Hid,HS.out,diffB,if_pos hx]
        have hds2:=hds.put (f:=(m[q].1,[43])) hfl.1 (by simp)
        go_wp2_with fail
        refine (put_any bt _ (m[q].1,[43]) _ hFb hsm hf5).mono ?_
        rintro e w9 ⟨v9,rfl,hown9,hb9⟩
        have hB9:=hB.trans (hb9.mono hB.size)
        have hF9:FilesAt w9 v9 (putL bt (m[q].1,[43])):=ownsRow_le hown9 (Nat.zero_le _)
        clear hown9 hb9 hB hpc' hFb hFr
        go_wp2_with fail
        go_roundw
        case rel => exact ⟨q + 1,by omega,by go_num,by rw [R.out];exact hF9,by rw [R.out];exact hds2,hB9⟩
        case measure => simp [intOf];omega
       ·have R:Hid ((m.take (q + 1)).foldl (diffB l) bo = bt):=by rw [Hid,HS.out,diffB,if_neg hx]
        go_wp2_with fail
        go_roundw
        case rel => exact ⟨q + 1,by omega,by go_num,by rw [R.out];exact hFb,by rw [R.out];exact hds.mono (by omega),hB⟩
        case measure => simp [intOf];omega
      ·have HA:Hid ((m.take q).foldl (diffB l) bo = diffL l m):=by rw [Hid,diffL,Hbo.out,List.take_of_length_le (by omega)]
       have hds40:=hds.mono (n':=40) (by omega)
       rw [HA.out] at hFb hds40
       clear hds hsm hv2 HA
       have RT:Hid (diffT l m = (diffL l m).flatMap lineF):=rfl
       generalize diffL l m = dl at *
       obtain ⟨a3,c3,e3,hm3,hc3,hv3⟩:=files_view hFb
       subst e3
       have hd40:=hds40.1
       have hApp:=app_list
       go_wp2_with fail
       go_loopw [16,17] (fun s i wz => ∃ (x n:Nat),x ≤ dl.length∧i = .int .i64 x∧s = SV ((dl.take x).flatMap lineF)∧wz = wr.drewN n) (fun _ i _ => dl.length - (intOf i).toNat)
       case atStart => exact ⟨0,0,Nat.zero_le _,rfl,rfl,rfl⟩
       case round =>
        obtain ⟨x,n,hx,rfl,rfl,rfl⟩:=hrel
        have hll:=lines_len hds40 x
        by_cases hxl:x < dl.length
        ·obtain ⟨g3,rfl,hg3,hp3,hd3⟩:=hv3 x hxl
         have hfs:=hds40.2 dl[x] (List.getElem_mem hxl)
         have R:Hid _:=lines_take hxl
         have hs1:=hfs.1
         have hs2:=hfs.2
         have i1:(x:Int) < (dl.length:Int):=by omega
         clear hv3 hfs hFb
         generalize (dl.take x).flatMap lineF = acc at *
         go_wp2_with fail
         go_quiet (fail)
         go_wp2_with fail
         go_roundw
         case rel => exact ⟨x + 1,_,by omega,by go_num,by rw [R.out];simp [lineF],rfl⟩
         case measure => simp [intOf];omega
        ·have R:Hid ((dl.take x).flatMap lineF = dl.flatMap lineF):=by rw [Hid,List.take_of_length_le (by omega)]
         clear hv3 hFb
         go_wp2_with fail
         go_ret2
         refine ⟨?_,below_drewN hB _⟩
         rw [RR.out,RT.out,← R.out];rfl
  ·have R:Hid (diffR r i j = ([],2)):=by rw [Hid,diffR,Hfl.out,hfm]
   clear hfm Hfl
   go_wp2_with fail
   go_ret2
   exact ⟨by rw [R.out];rfl,Below.refl _ _⟩
 ·have R:Hid (diffR r i j = ([],2)):=by rw [Hid,diffR,hfl]
  clear hfl
  go_wp2_with fail
  refine (find_any b r va vr sn j _ H.out).mono ?_
  rintro e w2 ⟨rfl,hf⟩
  rcases hf with ⟨k2,h1,h2,hfm,rfl⟩ | ⟨hfm,rfl⟩
  ·have hG:=H.out.fil k2 h1 h2
   generalize sn[k2].2 = v2 at *
   obtain ⟨ao2,cap2,rfl⟩:=row_form hG
   clear hfm
   go_wp2_with fail
   go_ret2
   exact ⟨by rw [R.out];rfl,Below.refl _ _⟩
  ·clear hfm
   go_wp2_with fail
   go_ret2
   exact ⟨by rw [R.out];rfl,Below.refl _ _⟩
end Go.Proofs.YtdcbgfhkfmohiaaGreatDoor

namespace Go.Proofs.YtdcbgfhkfmohiaaGreatDoor
theorem bl_irrefl (x:Str):Op.bytesLess x x = false:=by
 induction x with
 | nil => rfl
 | cons a x ih => simp [Op.bytesLess,ih]
theorem bl_asymm {x y:Str} (h:Op.bytesLess x y = true):Op.bytesLess y x = false:=by
 induction x generalizing y with
 | nil => cases y with
  | nil => rfl
  | cons b y => rfl
 | cons a x ih => cases y with
  | nil => simp [Op.bytesLess] at h
  | cons b y =>
   simp only [Op.bytesLess,Bool.or_eq_true,decide_eq_true_eq,Bool.and_eq_true,beq_iff_eq] at h
   simp only [Op.bytesLess,Bool.or_eq_false_iff,decide_eq_false_iff_not,Bool.and_eq_false_iff,beq_eq_false_iff_ne]
   rcases h with h | ⟨rfl,h⟩
   ·refine ⟨?_,.inl ?_⟩
    ·intro h2;rw [UInt8.lt_iff_toNat_lt] at h h2;omega
    ·intro e;subst e;rw [UInt8.lt_iff_toNat_lt] at h;omega
   ·exact ⟨by rw [UInt8.lt_iff_toNat_lt];omega,.inr (ih h)⟩
theorem bl_total {x y:Str} (h:Op.bytesLess x y = false) (hne:x ≠ y):Op.bytesLess y x = true:=by
 induction x generalizing y with
 | nil => cases y with
  | nil => exact absurd rfl hne
  | cons b y => simp [Op.bytesLess] at h
 | cons a x ih => cases y with
  | nil => rfl
  | cons b y =>
   simp only [Op.bytesLess,Bool.or_eq_false_iff,decide_eq_false_iff_not,Bool.and_eq_false_iff,beq_eq_false_iff_ne] at h
   simp only [Op.bytesLess,Bool.or_eq_true,decide_eq_true_eq,Bool.and_eq_true,beq_iff_eq]
   by_cases e:a = b
   ·subst e
    right;refine ⟨rfl,ih ?_ ?_⟩
    ·rcases h.2 with h2 | h2
     ·exact absurd rfl h2
     ·exact h2
    ·intro e;subst e;exact hne rfl
   ·left
    have h1:=h.1
    rw [UInt8.lt_iff_toNat_lt] at h1 ⊢
    have:a.toNat ≠ b.toNat:=fun h => e (UInt8.toNat_inj.1 h)
    omega
theorem bl_trans {x y z:Str} (h1:Op.bytesLess x y = true) (h2:Op.bytesLess y z = true):Op.bytesLess x z = true:=by
 induction x generalizing y z with
 | nil => cases z with
  | nil => cases y <;> simp [Op.bytesLess] at h2
  | cons c z => rfl
 | cons a x ih => cases y with
  | nil => simp [Op.bytesLess] at h1
  | cons b y => cases z with
   | nil => simp [Op.bytesLess] at h2
   | cons c z =>
    simp only [Op.bytesLess,Bool.or_eq_true,decide_eq_true_eq,Bool.and_eq_true,beq_iff_eq] at *
    rcases h1 with h1 | ⟨rfl,h1⟩
    ·rcases h2 with h2 | ⟨rfl,h2⟩
     ·left;rw [UInt8.lt_iff_toNat_lt] at *;omega
     ·exact .inl h1
    ·rcases h2 with h2 | ⟨rfl,h2⟩
     ·exact .inl h2
     ·exact .inr ⟨rfl,ih h1 h2⟩
theorem ls_asymm {x y:List Str} (h:lessS x y = true):lessS y x = false:=by
 induction x generalizing y with
 | nil => cases y with
  | nil => simp [lessS] at h
  | cons b y => rfl
 | cons a x ih => cases y with
  | nil => simp [lessS] at h
  | cons b y =>
   rw [lessS] at h ⊢
   by_cases e:a = b
   ·subst e;rw [if_pos rfl] at h ⊢;exact ih h
   ·rw [if_neg e] at h;rw [if_neg (Ne.symm e)];exact bl_asymm h
theorem ls_irrefl (x:List Str):lessS x x = false:=by
 induction x with
 | nil => rfl
 | cons a x ih => rw [lessS,if_pos rfl];exact ih
theorem ls_trans {x y z:List Str} (h1:lessS x y = true) (h2:lessS y z = true):lessS x z = true:=by
 induction x generalizing y z with
 | nil => cases z with
  | nil => cases y <;> simp [lessS] at h2
  | cons c z => rfl
 | cons a x ih => cases y with
  | nil => simp [lessS] at h1
  | cons b y => cases z with
   | nil => simp [lessS] at h2
   | cons c z =>
    rw [lessS] at h1 h2 ⊢
    by_cases e1:a = b
    ·subst e1;rw [if_pos rfl] at h1
     by_cases e2:a = c
     ·subst e2;rw [if_pos rfl] at h2 ⊢;exact ih h1 h2
     ·rw [if_neg e2] at h2 ⊢;exact h2
    ·rw [if_neg e1] at h1
     by_cases e2:b = c
     ·subst e2;rw [if_neg e1];exact h1
     ·rw [if_neg e2] at h2
      have h3:=bl_trans h1 h2
      by_cases e3:a = c
      ·subst e3;rw [bl_irrefl] at h3;simp at h3
      ·rw [if_neg e3];exact h3
theorem ls_total {x y:List Str} (h:lessS x y = false) (hne:x ≠ y):lessS y x = true:=by
 induction x generalizing y with
 | nil => cases y with
  | nil => exact absurd rfl hne
  | cons b y => simp [lessS] at h
 | cons a x ih => cases y with
  | nil => rfl
  | cons b y =>
   rw [lessS] at h ⊢
   by_cases e:a = b
   ·subst e;rw [if_pos rfl] at h ⊢;exact ih h (fun h => hne (by rw [h]))
   ·rw [if_neg e] at h;rw [if_neg (Ne.symm e)];exact bl_total h e
def joinP:List Str→Str
 | [] => []
 | [x] => x
 | x :: y :: r => x ++ 47 :: joinP (y :: r)
theorem joinP_cons {x:Str} {r:List Str} (h:r ≠ []):joinP (x :: r) = x ++ 47 :: joinP r:=by
 cases r with
 | nil => exact absurd rfl h
 | cons y r => rfl
theorem joinP_app {a b:List Str} (ha:a ≠ []) (hb:b ≠ []):joinP (a ++ b) = joinP a ++ 47 :: joinP b:=by
 induction a with
 | nil => exact absurd rfl ha
 | cons x r ih =>
  cases r with
  | nil => rw [List.singleton_append,joinP_cons hb];rfl
  | cons y r =>
   rw [List.cons_append,joinP_cons (by simp),joinP_cons (by simp),ih (by simp)];simp
def Free (x:Str):Prop:=∀ b ∈ x,b ≠ (47:UInt8)
theorem split_join {ns:List Str} (hne:ns ≠ []) (h:∀ x ∈ ns,Free x):splitL 47 (joinP ns) = ns:=by
 induction ns with
 | nil => exact absurd rfl hne
 | cons x r ih =>
  cases r with
  | nil => exact splitL_none (h x (by simp))
  | cons y r =>
   rw [joinP_cons (by simp),splitL_at (h x (by simp)),ih (by simp) (fun z hz => h z (by simp [hz]))]
theorem splitL_free (s:Str):∀ x ∈ splitL 47 s,Free x:=by
 induction s with
 | nil => intro x hx;simp [splitL] at hx;subst hx;intro b hb;simp at hb
 | cons b t ih =>
  unfold splitL;split
  ·intro x hx;simp at hx;rcases hx with rfl | hx
   ·intro b hb;simp at hb
   ·exact ih x hx
  ·rename_i hb
   split
   ·rename_i h r he
    intro x hx;simp at hx;rcases hx with rfl | hx
    ·intro c hc;simp at hc;rcases hc with rfl | hc
     ·exact hb
     ·exact ih h (by rw [he];simp) c hc
    ·exact ih x (by rw [he];simp [hx])
   ·rename_i he;exact absurd he (splitL_ne 47 t)
theorem join_split (s:Str):joinP (splitL 47 s) = s:=by
 induction s with
 | nil => rfl
 | cons b t ih =>
  have hne:=splitL_ne 47 t
  unfold splitL;split
  ·rename_i hb;subst hb;rw [joinP_cons hne,ih];rfl
  ·split
   ·rename_i h r he
    rw [he] at ih
    cases r with
    | nil => simp [joinP] at *;exact ih
    | cons y r => rw [joinP_cons (by simp)] at *;rw [List.cons_append,ih]
   ·rename_i he;exact absurd he hne
theorem splitL_app (a b:Str):splitL 47 (a ++ 47 :: b) = splitL 47 a ++ splitL 47 b:=by
 have h1:=splitL_ne 47 a
 have h2:=splitL_ne 47 b
 have e:a ++ 47 :: b = joinP (splitL 47 a ++ splitL 47 b):=by rw [joinP_app h1 h2,join_split,join_split]
 rw [e,split_join (by simp [h1])]
 intro x hx;rw [List.mem_append] at hx;rcases hx with hx | hx
 ·exact splitL_free a x hx
 ·exact splitL_free b x hx
theorem splitL_inj {a b:Str} (h:splitL 47 a = splitL 47 b):a = b:=by rw [← join_split a,← join_split b,h]
theorem belowL_names {p d:Str} (hd:d ≠ [47]) (hp:∀ x ∈ splitL 47 p,x ≠ []):(belowL p d = []∧¬ ∃ R,R ≠ []∧splitL 47 p = splitL 47 d ++ R)∨(belowL p d ≠ []∧splitL 47 p = splitL 47 d ++ splitL 47 (belowL p d)):=by
 by_cases h:d.length + 1 < p.length∧p.take d.length = d∧p[d.length]? = some 47
 ·right
  have hb:belowL p d = p.drop (d.length + 1):=by unfold belowL;rw [if_neg hd,if_pos h]
  have hp2:p = d ++ 47 :: p.drop (d.length + 1):=by
   obtain ⟨h1,h2,h3⟩:=h
   obtain ⟨h4,h5⟩:=List.getElem?_eq_some_iff.1 h3
   conv => lhs;rw [← List.take_append_drop d.length p,h2,List.drop_eq_getElem_cons h4,h5]
  refine ⟨by rw [hb];intro e;have:=congrArg List.length e;simp at this;omega,?_⟩
  rw [hb]
  conv => lhs;rw [hp2]
  exact splitL_app d _
 ·left
  have hb:belowL p d = []:=by unfold belowL;rw [if_neg hd,if_neg h]
  refine ⟨hb,?_⟩
  rintro ⟨R,hR,e⟩
  apply h
  have hp2:p = d ++ 47 :: joinP R:=by
   conv => lhs;rw [← join_split p,e,joinP_app (splitL_ne 47 d) hR,join_split]
  have hr:joinP R ≠ []:=by
   intro hj
   have hx:R.head hR ∈ splitL 47 p:=by rw [e];simp
   have:=hp _ hx
   cases R with
   | nil => exact hR rfl
   | cons x r =>
    simp at this
    cases r with
    | nil => simp [joinP] at hj;exact this hj
    | cons y r => rw [joinP_cons (by simp)] at hj;simp at hj
  have hl:0 < (joinP R).length:=List.length_pos_iff.2 hr
  rw [hp2]
  refine ⟨by simp;omega,by simp,by simp⟩
end Go.Proofs.YtdcbgfhkfmohiaaGreatDoor

namespace Go.Proofs.YtdcbgfhkfmohiaaGreatDoor
inductive Tree where
  | file (d:Str):Tree
  | dir (es:List (Str × Tree)):Tree
abbrev Ents:=List (Str × Tree)
abbrev NF:=List Str × Str
mutual
def filesT:Tree→List NF
  | .file d => [([],d)]
  | .dir es => filesE es
def filesE:Ents→List NF
  | [] => []
  | (x,t) :: es => (filesT t).map (fun f => (x :: f.1,f.2)) ++ filesE es
end
def findE:Ents→Str→Option Tree
  | [],_ => none
  | (y,t) :: es,x => if y = x then some t else findE es x
def sub:Tree→List Str→Option Tree
  | t,[] => some t
  | .file _,_ :: _ => none
  | .dir es,x :: r => match findE es x with
    | none => none
    | some t => sub t r
def fileAt (t:Tree) (p:List Str):Option Str:=match sub t p with
  | some (.file d) => some d
  | _ => none
mutual
def WFT:Tree→Prop
  | .file d => d.length ≤ 30
  | .dir es => es ≠ []∧WFE es
def WFE:Ents→Prop
  | [] => True
  | (x,t) :: es => isNameL x false = true∧WFT t∧(∀ y ∈ es,Op.bytesLess x y.1 = true)∧WFE es
end
theorem findE_none {es:Ents} {x:Str} (h:∀ y ∈ es,y.1 ≠ x):findE es x = none:=by
  induction es with
  | nil => rfl
  | cons e es ih =>
    obtain ⟨y,t⟩:=e
    rw [findE,if_neg (h (y,t) (by simp))];exact ih fun z hz => h z (by simp [hz])
theorem findE_mem {es:Ents} {x:Str} {t:Tree} (h:findE es x = some t):(x,t) ∈ es:=by
  induction es with
  | nil => simp [findE] at h
  | cons e es ih =>
    obtain ⟨y,u⟩:=e
    rw [findE] at h
    split at h
    · rename_i e;subst e;simp at h;subst h;simp
    · simp [ih h]
theorem bl_ne {x y:Str} (h:Op.bytesLess x y = true):x ≠ y:=by intro e;subst e;rw [bl_irrefl] at h;simp at h
theorem WFE.mem {es:Ents} (h:WFE es):∀ e ∈ es,isNameL e.1 false = true∧WFT e.2:=by
  induction es with
  | nil => simp
  | cons e es ih =>
    obtain ⟨y,u⟩:=e
    unfold WFE at h
    intro z hz;simp at hz;rcases hz with rfl | hz
    · exact ⟨h.1,h.2.1⟩
    · exact ih h.2.2.2 z hz
theorem WFE.find {es:Ents} (h:WFE es) {x:Str} {t:Tree} (hm:(x,t) ∈ es):findE es x = some t:=by
  induction es with
  | nil => simp at hm
  | cons e es ih =>
    obtain ⟨y,u⟩:=e
    unfold WFE at h
    simp at hm
    rcases hm with ⟨rfl,rfl⟩ | hm
    · rw [findE,if_pos rfl]
    · rw [findE,if_neg (bl_ne (h.2.2.1 _ hm))];exact ih h.2.2.2 hm
mutual
theorem mem_filesT:∀ (t:Tree),WFT t→∀ p d,(p,d) ∈ filesT t ↔ sub t p = some (.file d)
  | .file e,_,p,d => by
    unfold filesT
    cases p with
    | nil => simp [sub];exact eq_comm
    | cons x r => simp [sub]
  | .dir es,h,p,d => by
    unfold filesT
    unfold WFT at h
    rw [mem_filesE es h.2 p d]
    cases p with
    | nil => simp [sub]
    | cons x r =>
      rw [sub]
      constructor
      · rintro ⟨x',r',t,e,h2,h3⟩;simp at e;obtain ⟨rfl,rfl⟩:=e;rw [h2];exact h3
      · intro h1
        cases hf:findE es x with
        | none => rw [hf] at h1;simp at h1
        | some t => rw [hf] at h1;exact ⟨x,r,t,rfl,hf,h1⟩
theorem mem_filesE:∀ (es:Ents),WFE es→∀ p d,(p,d) ∈ filesE es ↔ ∃ x r t,p = x :: r∧findE es x = some t∧sub t r = some (.file d)
  | [],_,p,d => by simp [filesE,findE]
  | (y,u) :: es,h,p,d => by
    unfold WFE at h
    unfold filesE
    rw [List.mem_append,mem_filesE es h.2.2.2 p d,List.mem_map]
    constructor
    · rintro (⟨⟨q,d'⟩,hq,he⟩ | ⟨x,r,t,rfl,h2,h3⟩)
      · simp at he;obtain ⟨rfl,rfl⟩:=he
        exact ⟨y,q,u,rfl,by rw [findE,if_pos rfl],(mem_filesT u h.2.1 q d').1 hq⟩
      · have hm:=findE_mem h2
        exact ⟨x,r,t,rfl,by rw [findE,if_neg (bl_ne (h.2.2.1 _ hm)),h2],h3⟩
    · rintro ⟨x,r,t,rfl,h2,h3⟩
      rw [findE] at h2
      split at h2
      · rename_i e;subst e;simp at h2;subst h2
        exact .inl ⟨(r,d),(mem_filesT u h.2.1 r d).2 h3,rfl⟩
      · exact .inr ⟨x,r,t,rfl,h2,h3⟩
end
def SortedN (l:List NF):Prop:=l.Pairwise fun a b => lessS a.1 b.1 = true
mutual
theorem sorted_filesT:∀ (t:Tree),WFT t→SortedN (filesT t)
  | .file e,_ => by unfold filesT SortedN;simp
  | .dir es,h => by unfold filesT;unfold WFT at h;exact sorted_filesE es h.2
theorem sorted_filesE:∀ (es:Ents),WFE es→SortedN (filesE es)
  | [],_ => by unfold filesE SortedN;simp
  | (y,u) :: es,h => by
    unfold WFE at h
    unfold filesE SortedN
    rw [List.pairwise_append]
    refine ⟨?_,sorted_filesE es h.2.2.2,?_⟩
    · rw [List.pairwise_map]
      refine (sorted_filesT u h.2.1).imp ?_
      intro a b hab;simp only [lessS,if_true];exact hab
    · intro a ha b hb
      rw [List.mem_map] at ha
      obtain ⟨f,_,rfl⟩:=ha
      obtain ⟨p,d⟩:=b
      obtain ⟨x,r,t,rfl,h2,_⟩:=(mem_filesE es h.2.2.2 p d).1 hb
      have hl:=h.2.2.1 _ (findE_mem h2)
      simp only [lessS];rw [if_neg (bl_ne hl)];exact hl
end
theorem sorted_unique {a b:List NF} (ha:SortedN a) (hb:SortedN b) (h:∀ x,x ∈ a ↔ x ∈ b):a = b:=by
  induction a generalizing b with
  | nil => cases b with
    | nil => rfl
    | cons y b => have:=(h y).2 (by simp);simp at this
  | cons x a ih => cases b with
    | nil => have:=(h x).1 (by simp);simp at this
    | cons y b =>
      unfold SortedN at ha hb
      rw [List.pairwise_cons] at ha hb
      have e:x = y:=by
        have h1:=(h x).1 (by simp)
        have h2:=(h y).2 (by simp)
        simp at h1 h2
        rcases h1 with h1 | h1
        · exact h1
        · rcases h2 with h2 | h2
          · exact h2.symm
          · have h3:=ls_asymm (ha.1 y h2);rw [hb.1 x h1] at h3;simp at h3
      subst e
      congr 1
      refine ih ha.2 hb.2 fun z => ?_
      have hz:=h z
      simp at hz
      constructor
      · intro hm
        rcases hz.1 (.inr hm) with e | hm2
        · subst e;have:=ha.1 _ hm;rw [ls_irrefl] at this;simp at this
        · exact hm2
      · intro hm
        rcases hz.2 (.inr hm) with e | hm2
        · subst e;have:=hb.1 _ hm;rw [ls_irrefl] at this;simp at this
        · exact hm2
theorem fileAt_dir (es:Ents) (x:Str) (r:List Str):fileAt (.dir es) (x :: r) = match findE es x with
    | none => none
    | some t => fileAt t r:=by
  unfold fileAt;rw [sub]
  cases findE es x <;> rfl
theorem fileAt_root (es:Ents):fileAt (.dir es) [] = none:=rfl
theorem fileAt_file (d:Str) (p:List Str):fileAt (.file d) p = if p = [] then some d else none:=by
  cases p with
  | nil => rfl
  | cons x r => rfl
theorem mem_root {es:Ents} (h:WFE es) (p:List Str) (d:Str):(p,d) ∈ filesE es ↔ fileAt (.dir es) p = some d:=by
  rw [mem_filesE es h]
  cases p with
  | nil => simp [fileAt_root]
  | cons x r =>
    rw [fileAt_dir]
    constructor
    · rintro ⟨x',r',t,e,h2,h3⟩;simp at e;obtain ⟨rfl,rfl⟩:=e;rw [h2];simp only [fileAt];rw [h3]
    · intro h1
      cases hf:findE es x with
      | none => rw [hf] at h1;simp at h1
      | some t =>
        rw [hf] at h1;simp only [fileAt] at h1
        refine ⟨x,r,t,rfl,hf,?_⟩
        split at h1
        · rename_i hs;simp at h1;subst h1;exact hs
        · simp at h1
def withE:Ents→Str→Tree→Ents
  | [],x,t => [(x,t)]
  | (y,u) :: es,x,t => if y = x then (x,t) :: es else if Op.bytesLess y x then (y,u) :: withE es x t else (x,t) :: (y,u) :: es
def withoutE (es:Ents) (x:Str):Ents:=es.filter fun e => !(e.1 == x)
theorem find_with (es:Ents) (x:Str) (t:Tree) (y:Str):findE (withE es x t) y = if x = y then some t else findE es y:=by
  induction es with
  | nil => simp only [withE,findE]
  | cons e es ih =>
    obtain ⟨z,u⟩:=e
    rw [withE]
    split
    · rename_i h;subst h
      rw [findE,findE]
      split <;> simp_all
    · split
      · rw [findE,ih,findE]
        by_cases h1:z = y
        · rw [if_pos h1,if_pos h1]
          by_cases h2:x = y
          · rename_i h _;exact absurd (h1.trans h2.symm) h
          · rw [if_neg h2]
        · rw [if_neg h1,if_neg h1]
      · rw [findE]
theorem find_without (es:Ents) (x y:Str):findE (withoutE es x) y = if x = y then none else findE es y:=by
  induction es with
  | nil => simp [withoutE,findE]
  | cons e es ih =>
    obtain ⟨z,u⟩:=e
    unfold withoutE at *
    rw [List.filter_cons]
    by_cases h:z = x
    · subst h;simp only [beq_self_eq_true,Bool.not_true,Bool.false_eq_true,if_false]
      rw [ih,findE]
      by_cases h1:z = y
      · rw [if_pos h1,if_pos h1]
      · rw [if_neg h1,if_neg h1,if_neg h1]
    · have:(!((z,u).1 == x)) = true:=by simp [h]
      rw [if_pos this,findE,findE,ih]
      by_cases h1:z = y
      · rw [if_pos h1,if_pos h1,if_neg (fun e => h (h1.trans e.symm))]
      · rw [if_neg h1,if_neg h1]
theorem with_mem {es:Ents} {x:Str} {t:Tree}:∀ e ∈ withE es x t,e = (x,t)∨e ∈ es:=by
  induction es with
  | nil => intro e he;simp [withE] at he;exact .inl he
  | cons f es ih =>
    obtain ⟨z,u⟩:=f
    intro e he
    rw [withE] at he
    split at he
    · simp at he;rcases he with he | he
      · exact .inl he
      · exact .inr (by simp [he])
    · split at he
      · simp at he;rcases he with he | he
        · exact .inr (by simp [he])
        · rcases ih e he with h | h
          · exact .inl h
          · exact .inr (by simp [h])
      · simp at he;rcases he with he | he | he
        · exact .inl he
        · exact .inr (by simp [he])
        · exact .inr (by simp [he])
theorem with_wf {es:Ents} {x:Str} {t:Tree} (h:WFE es) (hx:isNameL x false = true) (ht:WFT t):WFE (withE es x t):=by
  induction es with
  | nil => rw [withE];unfold WFE;exact ⟨hx,ht,by simp,by unfold WFE;trivial⟩
  | cons f es ih =>
    obtain ⟨z,u⟩:=f
    unfold WFE at h
    rw [withE]
    split
    · rename_i e;subst e;unfold WFE;exact ⟨hx,ht,h.2.2.1,h.2.2.2⟩
    · rename_i hne
      split
      · rename_i hl
        unfold WFE
        refine ⟨h.1,h.2.1,?_,ih h.2.2.2⟩
        intro e he
        rcases with_mem e he with rfl | he
        · exact hl
        · exact h.2.2.1 e he
      · rename_i hl
        have hl2:Op.bytesLess x z = true:=bl_total (by simpa using hl) hne
        unfold WFE
        refine ⟨hx,ht,?_,?_⟩
        · intro e he;simp at he;rcases he with rfl | he
          · exact hl2
          · exact bl_trans hl2 (h.2.2.1 e he)
        · unfold WFE;exact h
theorem filter_wf {es:Ents} (h:WFE es) (q:Str × Tree→Bool):WFE (es.filter q):=by
  induction es with
  | nil => exact h
  | cons f es ih =>
    obtain ⟨z,u⟩:=f
    unfold WFE at h
    rw [List.filter_cons]
    split
    · unfold WFE
      exact ⟨h.1,h.2.1,fun e he => h.2.2.1 e (List.mem_filter.1 he).1,ih h.2.2.2⟩
    · exact ih h.2.2.2
theorem without_wf {es:Ents} (h:WFE es) (x:Str):WFE (withoutE es x):=filter_wf h _
theorem with_ne {es:Ents} {x:Str} {t:Tree}:withE es x t ≠ []:=by
  cases es with
  | nil => simp [withE]
  | cons f es => obtain ⟨z,u⟩:=f;rw [withE];split
                 · simp
                 · split <;> simp
end Go.Proofs.YtdcbgfhkfmohiaaGreatDoor

namespace Go.Proofs.YtdcbgfhkfmohiaaGreatDoor
def belowE (es:Ents) (x:Str):Ents:=match findE es x with
 | some (.dir es') => es'
 | _ => []
def putE:Ents→List Str→Tree→Ents
 | es,[],_ => es
 | es,[x],n => withE es x n
 | es,x :: y :: r,n => withE es x (.dir (putE (belowE es x) (y :: r) n))
def removeE:Ents→List Str→Ents
 | es,[] => es
 | es,[x] => withoutE es x
 | es,x :: y :: r => if removeE (belowE es x) (y :: r) = [] then withoutE es x else withE es x (.dir (removeE (belowE es x) (y :: r)))
inductive Place where
 | free | blocked | atFile | atDir
 deriving DecidableEq
def look:Option Tree→List Str→Place
 | none,_ => .free
 | some (.file _),[] => .atFile
 | some (.file _),_ :: _ => .blocked
 | some (.dir _),[] => .atDir
 | some (.dir es),x :: r => look (findE es x) r
theorem belowE_wf {es:Ents} (h:WFE es) (x:Str):WFE (belowE es x):=by
 unfold belowE
 split
 ·rename_i es' he
  have:=(h.mem _ (findE_mem he)).2
  unfold WFT at this;exact this.2
 ·unfold WFE;trivial
theorem fileAt_below {es:Ents} {x:Str} (h:∀ d,findE es x ≠ some (.file d)) (r:List Str) (hr:r ≠ []):fileAt (.dir (belowE es x)) r = fileAt (.dir es) (x :: r):=by
 rw [fileAt_dir]
 unfold belowE
 cases hf:findE es x with
 | none =>
  cases r with
  | nil => exact absurd rfl hr
  | cons y r => simp [fileAt_dir,findE]
 | some t => cases t with
  | file d => exact absurd hf (h d)
  | dir es' => rfl
theorem look_step {es:Ents} {x y:Str} {r:List Str} (h:look (some (.dir es)) (x :: y :: r) ≠ .blocked):(∀ d,findE es x ≠ some (.file d))∧look (some (.dir (belowE es x))) (y :: r) ≠ .blocked:=by
 rw [look] at h
 unfold belowE
 cases hf:findE es x with
 | none => exact ⟨by simp,by simp [look,findE]⟩
 | some t => cases t with
  | file d => rw [hf,look] at h;exact absurd rfl h
  | dir es' => rw [hf] at h;exact ⟨by simp,h⟩
theorem prefix_cons {x y:Str} {q p:List Str}:x :: q <+: y :: p ↔ x = y∧q <+: p:=by
 constructor
 ·rintro ⟨t,ht⟩;simp at ht;exact ⟨ht.1,⟨t,ht.2⟩⟩
 ·rintro ⟨rfl,t,ht⟩;exact ⟨t,by simp [ht]⟩
theorem fileAt_put {q:List Str}:∀ {es:Ents} {n:Tree},q ≠ []→look (some (.dir es)) q ≠ .blocked→∀ p,fileAt (.dir (putE es q n)) p = if q <+: p then fileAt n (p.drop q.length) else fileAt (.dir es) p:=by
 induction q with
 | nil => intro es n h;exact absurd rfl h
 | cons x r ih =>
  intro es n _ hb p
  cases r with
  | nil =>
   rw [putE]
   cases p with
   | nil => rw [if_neg (by simp)];rfl
   | cons y p =>
    rw [fileAt_dir,find_with,fileAt_dir]
    by_cases e:x = y
    ·subst e;rw [if_pos rfl,if_pos (by rw [prefix_cons];simp)];rfl
    ·rw [if_neg e,if_neg (by rw [prefix_cons];exact fun h => e h.1)]
  | cons y r =>
   obtain ⟨h1,h2⟩:=look_step hb
   rw [putE]
   cases p with
   | nil => rw [if_neg (by simp)];rfl
   | cons z p =>
    rw [fileAt_dir,find_with]
    by_cases e:x = z
    ·subst e
     rw [if_pos rfl]
     simp only
     rw [ih (by simp) h2 p]
     by_cases hp:y :: r <+: p
     ·rw [if_pos hp,if_pos (by rw [prefix_cons];exact ⟨rfl,hp⟩)];rfl
     ·rw [if_neg hp,if_neg (by rw [prefix_cons];exact fun h => hp h.2)]
      by_cases hpn:p = []
      ·subst hpn;rw [fileAt_root,fileAt_dir]
       cases hf:findE es x with
       | none => rfl
       | some t => cases t with
        | file d => exact absurd hf (h1 d)
        | dir es' => rfl
      ·exact fileAt_below h1 p hpn
    ·rw [if_neg e,if_neg (by rw [prefix_cons];exact fun h => e h.1),fileAt_dir]
theorem put_wf {q:List Str}:∀ {es:Ents} {n:Tree},WFE es→(∀ x ∈ q,isNameL x false = true)→WFT n→WFE (putE es q n)∧(q ≠ []→putE es q n ≠ []):=by
 induction q with
 | nil => intro es n h _ _;exact ⟨h,fun h => absurd rfl h⟩
 | cons x r ih =>
  intro es n h hq hn
  cases r with
  | nil => rw [putE];exact ⟨with_wf h (hq x (by simp)) hn,fun _ => with_ne⟩
  | cons y r =>
   rw [putE]
   have:=ih (es:=belowE es x) (belowE_wf h x) (fun z hz => hq z (by simp [hz])) hn
   exact ⟨with_wf h (hq x (by simp)) (by unfold WFT;exact ⟨this.2 (by simp),this.1⟩),fun _ => with_ne⟩
theorem WFT.some:∀ (t:Tree),WFT t→∃ p d,fileAt t p = some d
 | .file d,_ => ⟨[],d,rfl⟩
 | .dir [],h => by unfold WFT at h;exact absurd rfl h.1
 | .dir ((x,t) :: es),h => by
  unfold WFT WFE at h
  obtain ⟨p,d,hp⟩:=WFT.some t h.2.2.1
  exact ⟨x :: p,d,by rw [fileAt_dir,findE,if_pos rfl];exact hp⟩
theorem WFE.empty {es:Ents} (h:WFE es) (h0:∀ p,fileAt (.dir es) p = none):es = []:=by
 cases es with
 | nil => rfl
 | cons f es =>
  obtain ⟨x,t⟩:=f
  have ht:WFT t:=(h.mem (x,t) (by simp)).2
  obtain ⟨p,d,hp⟩:=WFT.some t ht
  have:=h0 (x :: p)
  rw [fileAt_dir,findE,if_pos rfl] at this
  simp only at this;rw [hp] at this;simp at this
theorem remove_wf {q:List Str}:∀ {es:Ents},WFE es→(∀ x ∈ q,isNameL x false = true)→WFE (removeE es q):=by
 induction q with
 | nil => intro es h _;exact h
 | cons x r ih =>
  intro es h hq
  cases r with
  | nil => rw [removeE];exact without_wf h x
  | cons y r =>
   rw [removeE]
   have:=ih (es:=belowE es x) (belowE_wf h x) (fun z hz => hq z (by simp [hz]))
   split
   ·exact without_wf h x
   ·rename_i hne;exact with_wf h (hq x (by simp)) (by unfold WFT;exact ⟨hne,this⟩)
theorem fileAt_remove {q:List Str}:∀ {es:Ents},q ≠ []→look (some (.dir es)) q ≠ .blocked→∀ p,fileAt (.dir (removeE es q)) p = if q <+: p then none else fileAt (.dir es) p:=by
 induction q with
 | nil => intro es h;exact absurd rfl h
 | cons x r ih =>
  intro es _ hb p
  cases r with
  | nil =>
   rw [removeE]
   cases p with
   | nil => rw [if_neg (by simp)];rfl
   | cons y p =>
    rw [fileAt_dir,find_without,fileAt_dir]
    by_cases e:x = y
    ·subst e;rw [if_pos rfl,if_pos (by rw [prefix_cons];simp)]
    ·rw [if_neg e,if_neg (by rw [prefix_cons];exact fun h => e h.1)]
  | cons y r =>
   obtain ⟨h1,h2⟩:=look_step hb
   have ih:=ih (by simp) h2
   rw [removeE]
   cases p with
   | nil =>
    have hn:¬ (x :: y :: r <+: ([]:List Str)):=by simp
    rw [if_neg hn];split <;> rfl
   | cons z p =>
    have key:∀ es',(∀ p,fileAt (.dir es') p = if y :: r <+: p then none else fileAt (.dir (belowE es x)) p)→x = z→fileAt (.dir es') p = if x :: y :: r <+: z :: p then none else fileAt (.dir es) (z :: p):=by
     intro es' hes e
     subst e
     rw [hes p]
     by_cases hp:y :: r <+: p
     ·rw [if_pos hp,if_pos (by rw [prefix_cons];exact ⟨rfl,hp⟩)]
     ·rw [if_neg hp,if_neg (by rw [prefix_cons];exact fun h => hp h.2)]
      by_cases hpn:p = []
      ·subst hpn;rw [fileAt_root,fileAt_dir]
       cases hf:findE es x with
       | none => rfl
       | some t => cases t with
        | file d => exact absurd hf (h1 d)
        | dir es' => rfl
      ·exact fileAt_below h1 p hpn
    split
    ·rename_i he
     rw [fileAt_dir,find_without]
     by_cases e:x = z
     ·rw [if_pos e]
      rw [he] at ih
      have:=key [] ih e
      rw [← this]
      cases p with
      | nil => rfl
      | cons a p => rw [fileAt_dir];rfl
     ·rw [if_neg e,if_neg (by rw [prefix_cons];exact fun h => e h.1),fileAt_dir]
    ·rw [fileAt_dir,find_with]
     by_cases e:x = z
     ·rw [if_pos e];exact key _ ih e
     ·rw [if_neg e,if_neg (by rw [prefix_cons];exact fun h => e h.1),fileAt_dir]
theorem look_files:∀ (q:List Str) (t:Tree),WFT t →
  (look (some t) q = .atFile ↔ ∃ d,fileAt t q = some d)∧(look (some t) q = .atDir ↔ ∃ R d,R ≠ []∧fileAt t (q ++ R) = some d)∧(look (some t) q = .blocked ↔ ∃ P R d,R ≠ []∧q = P ++ R∧fileAt t P = some d):=by
 intro q
 induction q with
 | nil =>
  intro t ht
  cases t with
  | file d =>
   refine ⟨by simp [look,fileAt_file],?_,?_⟩
   ·simp [look];intro R hR d';rw [fileAt_file,if_neg hR];simp
   ·simp [look];rintro P R hR h1 h2;exact absurd h2 hR
  | dir es =>
   refine ⟨by simp [look,fileAt_root],?_,?_⟩
   ·simp only [look,true_iff,List.nil_append]
    obtain ⟨p,d,hp⟩:=WFT.some _ ht
    refine ⟨p,d,?_,hp⟩
    intro e;subst e;rw [fileAt_root] at hp;simp at hp
   ·simp [look];rintro P R hR h1 h2;exact absurd h2 hR
 | cons x r ih =>
  intro t ht
  cases t with
  | file d =>
   refine ⟨by simp [look,fileAt_file],?_,?_⟩
   ·simp [look,fileAt_file]
   ·simp only [look,true_iff]
    exact ⟨[],x :: r,d,by simp,rfl,rfl⟩
  | dir es =>
   unfold WFT at ht
   rw [look]
   cases hf:findE es x with
   | none =>
    refine ⟨?_,?_,?_⟩
    ·simp [look,fileAt_dir,hf]
    ·simp [look,fileAt_dir,hf]
    ·simp only [look,reduceCtorEq,false_iff,not_exists,not_and]
     intro P R d hR he
     cases P with
     | nil => rw [fileAt_root];simp
     | cons y P => simp at he;rw [← he.1,fileAt_dir,hf];simp
   | some u =>
    have hu:WFT u:=(ht.2.mem _ (findE_mem hf)).2
    obtain ⟨i1,i2,i3⟩:=ih u hu
    refine ⟨?_,?_,?_⟩
    ·rw [i1,fileAt_dir,hf]
    ·rw [i2]
     simp only [List.cons_append,fileAt_dir,hf]
    ·rw [i3]
     constructor
     ·rintro ⟨P,R,d,hR,he,hd⟩
      exact ⟨x :: P,R,d,hR,by rw [he];rfl,by rw [fileAt_dir,hf];exact hd⟩
     ·rintro ⟨P,R,d,hR,he,hd⟩
      cases P with
      | nil => rw [fileAt_root] at hd;simp at hd
      | cons y P =>
       simp at he
       rw [← he.1,fileAt_dir,hf] at hd
       exact ⟨P,R,d,hR,he.2,hd⟩
end Go.Proofs.YtdcbgfhkfmohiaaGreatDoor

namespace Go.Proofs.YtdcbgfhkfmohiaaGreatDoor
def toF (l:List NF):List Fl:=l.map fun f => (joinP f.1,f.2)
def OkN (q:List Str):Prop:=q ≠ []∧∀ x ∈ q,isNameL x false = true
def ValidN (l:List NF):Prop:=∀ f ∈ l,OkN f.1
theorem name_free {x:Str} (h:isNameL x false = true):Free x∧x ≠ []:=by
 unfold isNameL at h
 simp only [Bool.and_eq_true,decide_eq_true_eq,List.all_eq_true] at h
 refine ⟨?_,?_⟩
 ·intro b hb e
  have:=h.2 b hb
  subst e
  simp [okByte] at this
 ·intro e;subst e;simp at h
theorem OkN.split {q:List Str} (h:OkN q):splitL 47 (joinP q) = q:=split_join h.1 fun x hx => (name_free (h.2 x hx)).1
theorem OkN.inj {q p:List Str} (h:OkN q) (h' : OkN p):joinP q = joinP p ↔ q = p:=by
 constructor
 ·intro e;rw [← h.split,← h'.split,e]
 ·intro e;rw [e]
theorem OkN.root {q:List Str} (h:OkN q):joinP q ≠ [47]:=by
 intro e
 have h1:=h.split
 rw [e] at h1
 have h2:splitL 47 [47] = [[],[]]:=by simp [splitL]
 rw [h2] at h1
 have:=(name_free (h.2 [] (by rw [← h1];simp))).2
 exact this rfl
theorem OkN.app {q R:List Str} (h:OkN q) (h' : ∀ x ∈ R,isNameL x false = true):OkN (q ++ R) :=
 ⟨by simp [h.1],fun x hx => by rw [List.mem_append] at hx;rcases hx with hx | hx;exact h.2 x hx;exact h' x hx⟩
theorem OkN.tail {q R:List Str} (h:OkN (q ++ R)) (hR:R ≠ []):OkN R:=⟨hR,fun x hx => h.2 x (by simp [hx])⟩
theorem below_names {P q:List Str} (hP:OkN P) (hq:OkN q):(belowL (joinP P) (joinP q) = []∧¬ ∃ R,R ≠ []∧P = q ++ R)∨(∃ R,R ≠ []∧P = q ++ R∧belowL (joinP P) (joinP q) = joinP R):=by
 rcases belowL_names (p:=joinP P) hq.root (by rw [hP.split];exact fun x hx => (name_free (hP.2 x hx)).2) with ⟨h1,h2⟩ | ⟨h1,h2⟩
 ·rw [hP.split,hq.split] at h2;exact .inl ⟨h1,h2⟩
 ·rw [hP.split,hq.split] at h2
  exact .inr ⟨_,splitL_ne _ _,h2,(join_split _).symm⟩
theorem joinP_ne {R:List Str} (h:OkN R):joinP R ≠ []:=by
 intro e
 have:=h.split
 rw [e] at this
 have h2:=(name_free (h.2 [] (by rw [← this];simp [splitL]))).2
 exact h2 rfl
theorem below_empty {P q:List Str} (hP:OkN P) (hq:OkN q):(belowL (joinP P) (joinP q)).isEmpty = true ↔ ¬ ∃ R,R ≠ []∧P = q ++ R:=by
 rcases below_names hP hq with ⟨h1,h2⟩ | ⟨R,h1,h2,h3⟩
 ·rw [h1];simp only [List.isEmpty_nil,true_iff];exact h2
 ·constructor
  ·intro h;rw [h3] at h;exact absurd (List.isEmpty_iff.1 h) (joinP_ne (OkN.tail (h2 ▸ hP) h1))
  ·intro h;exact absurd ⟨R,h1,h2⟩ h
theorem get_names {l:List NF} {q:List Str} (hl:ValidN l) (hq:OkN q):getI (toF l) (joinP q) < 0 ↔ ∀ f ∈ l,f.1 ≠ q:=by
 constructor
 ·intro h f hf e
  have hg:getL (toF l) (joinP q) = none:=by
   unfold getI at h;split at h
   ·omega
   ·assumption
  unfold getL at hg
  rw [List.findIdx?_eq_none_iff] at hg
  have:=hg (joinP f.1,f.2) (List.mem_map.2 ⟨f,hf,rfl⟩)
  simp [e] at this
 ·intro h
  rw [getI_miss]
  ·omega
  ·intro j hj
   obtain ⟨f,hf,e⟩:=List.mem_map.1 (List.getElem_mem hj)
   rw [beq_eq_false_iff_ne,← e]
   simp only
   rw [Ne,(hl f hf).inj hq]
   exact h f hf
theorem crossed_names {l:List NF} {q:List Str} (hl:ValidN l) (hq:OkN q):crossedL (toF l) (joinP q) = true ↔ ∃ f ∈ l,∃ R,R ≠ []∧q = f.1 ++ R:=by
 unfold crossedL
 rw [List.any_eq_true]
 constructor
 ·rintro ⟨g,hg,h⟩
  obtain ⟨f,hf,rfl⟩:=List.mem_map.1 hg
  simp only [Bool.not_eq_true',← Bool.not_eq_true,below_empty hq (hl f hf)] at h
  exact ⟨f,hf,Classical.not_not.1 h⟩
 ·rintro ⟨f,hf,h⟩
  refine ⟨(joinP f.1,f.2),List.mem_map.2 ⟨f,hf,rfl⟩,?_⟩
  simp only [Bool.not_eq_true',← Bool.not_eq_true,below_empty hq (hl f hf)]
  exact fun h2 => h2 h
theorem isDir_names {l:List NF} {q:List Str} (hl:ValidN l) (hq:OkN q):isDirL (toF l) (joinP q) = true ↔ ∃ f ∈ l,∃ R,R ≠ []∧f.1 = q ++ R:=by
 have hr:(joinP q == [47]) = false:=by rw [beq_eq_false_iff_ne];exact hq.root
 unfold isDirL
 rw [hr,Bool.false_or,Bool.not_eq_true',← Bool.not_eq_true,List.isEmpty_iff]
 unfold inL
 rw [List.flatMap_eq_nil_iff]
 constructor
 ·intro h
  refine Classical.byContradiction fun h2 => h fun g hg => ?_
  obtain ⟨f,hf,rfl⟩:=List.mem_map.1 hg
  rw [if_pos]
  rw [below_empty (hl f hf) hq]
  exact fun h3 => h2 ⟨f,hf,h3⟩
 ·rintro ⟨f,hf,h⟩ h2
  have:=h2 (joinP f.1,f.2) (List.mem_map.2 ⟨f,hf,rfl⟩)
  simp only at this
  split at this
  ·rename_i h3;rw [below_empty (hl f hf) hq] at h3;exact h3 h
  ·simp at this
theorem prefix_iff {q P:List Str}:q <+: P ↔ P = q∨∃ R,R ≠ []∧P = q ++ R:=by
 constructor
 ·rintro ⟨R,rfl⟩
  by_cases h:R = []
  ·subst h;simp
  ·exact .inr ⟨R,h,rfl⟩
 ·rintro (rfl | ⟨R,_,rfl⟩)
  ·exact List.prefix_rfl
  ·exact List.prefix_append _ _
theorem without_names {l:List NF} {q:List Str} (hl:ValidN l) (hq:OkN q):withoutL (toF l) (joinP q) = toF (l.filter fun f => decide (¬ q <+: f.1)):=by
 induction l with
 | nil => rfl
 | cons f l ih =>
  have ih:=ih fun g hg => hl g (by simp [hg])
  have hf:=hl f (by simp)
  have e:withoutL (toF (f :: l)) (joinP q) = (if (joinP f.1 == joinP q) || !(belowL (joinP f.1) (joinP q)).isEmpty then [] else [(joinP f.1,f.2)]) ++ withoutL (toF l) (joinP q):=by
   simp only [withoutL,toF,List.map_cons,List.flatMap_cons]
  rw [e,ih,List.filter_cons]
  by_cases hp:q <+: f.1
  ·have h2:¬ (decide (¬ q <+: f.1)) = true:=by simpa using hp
   rw [if_neg h2,if_pos,List.nil_append]
   rw [prefix_iff] at hp
   rcases hp with h | h
   ·rw [h];simp
   ·have:¬ (belowL (joinP f.1) (joinP q)).isEmpty = true:=by rw [below_empty hf hq];exact fun h3 => h3 h
    simp [this]
  ·have h2:(decide (¬ q <+: f.1)) = true:=by simpa using hp
   rw [if_pos h2,if_neg]
   ·simp [toF]
   ·rw [prefix_iff,not_or] at hp
    have h3:=(below_empty hf hq).2 hp.2
    have h4:(joinP f.1 == joinP q) = false:=by rw [beq_eq_false_iff_ne,Ne,hf.inj hq];exact hp.1
    simp [h3,h4]
def insN:List NF→NF→List NF
 | [],f => [f]
 | g :: l,f => if f.1 = g.1 then f :: l else if lessS f.1 g.1 then f :: g :: l else g :: insN l f
theorem insN_mem {l:List NF} (hs:SortedN l) (f:NF):∀ x,x ∈ insN l f ↔ x = f∨(x ∈ l∧x.1 ≠ f.1):=by
 induction l with
 | nil => intro x;simp [insN]
 | cons g l ih =>
  unfold SortedN at hs
  rw [List.pairwise_cons] at hs
  have ih:=ih hs.2
  intro x
  rw [insN]
  by_cases e:f.1 = g.1
  ·rw [if_pos e]
   simp only [List.mem_cons]
   constructor
   ·rintro (h | h)
    ·exact .inl h
    ·refine .inr ⟨.inr h,?_⟩
     intro e2;have:=hs.1 x h;rw [e2,e,ls_irrefl] at this;simp at this
   ·rintro (h | ⟨h | h,h2⟩)
    ·exact .inl h
    ·subst h;exact absurd e.symm h2
    ·exact .inr h
  ·rw [if_neg e]
   by_cases hl:lessS f.1 g.1 = true
   ·rw [if_pos hl]
    simp only [List.mem_cons]
    constructor
    ·rintro (h | h | h)
     ·exact .inl h
     ·exact .inr ⟨.inl h,by rw [h];exact Ne.symm e⟩
     ·refine .inr ⟨.inr h,?_⟩
      intro e2;have:=ls_trans hl (hs.1 x h);rw [e2,ls_irrefl] at this;simp at this
    ·rintro (h | ⟨h | h,_⟩)
     ·exact .inl h
     ·exact .inr (.inl h)
     ·exact .inr (.inr h)
   ·rw [if_neg hl]
    simp only [List.mem_cons,ih x]
    constructor
    ·rintro (h | h | ⟨h,h2⟩)
     ·exact .inr ⟨.inl h,by rw [h];exact Ne.symm e⟩
     ·exact .inl h
     ·exact .inr ⟨.inr h,h2⟩
    ·rintro (h | ⟨h | h,h2⟩)
     ·exact .inr (.inl h)
     ·exact .inl h
     ·exact .inr (.inr ⟨h,h2⟩)
theorem insN_sorted {l:List NF} (hs:SortedN l) (f:NF):SortedN (insN l f):=by
 induction l with
 | nil => unfold SortedN insN;simp
 | cons g l ih =>
  have hs0:=hs
  unfold SortedN at hs
  rw [List.pairwise_cons] at hs
  rw [insN]
  by_cases e:f.1 = g.1
  ·rw [if_pos e];unfold SortedN;rw [List.pairwise_cons]
   exact ⟨fun x hx => by rw [e];exact hs.1 x hx,hs.2⟩
  ·rw [if_neg e]
   by_cases hl:lessS f.1 g.1 = true
   ·rw [if_pos hl];unfold SortedN;rw [List.pairwise_cons]
    refine ⟨fun x hx => ?_,hs0⟩
    simp at hx;rcases hx with rfl | hx
    ·exact hl
    ·exact ls_trans hl (hs.1 x hx)
   ·rw [if_neg hl];unfold SortedN;rw [List.pairwise_cons]
    refine ⟨fun x hx => ?_,ih hs.2⟩
    rcases (insN_mem hs.2 f x).1 hx with rfl | ⟨hx,_⟩
    ·exact ls_total (by simpa using hl) e
    ·exact hs.1 x hx
theorem less_names {a b:List Str} (ha:OkN a) (hb:OkN b):lessL (joinP a) (joinP b) = lessS a b:=by rw [lessL,ha.split,hb.split]
theorem fold_done {l:List NF} {f:NF} {acc:List Fl} (hl:ValidN l) (hf:OkN f.1) (hs:∀ g ∈ l,lessS f.1 g.1 = true):(toF l).foldl (putStep (joinP f.1,f.2)) (acc,true) = (acc ++ toF l,true):=by
 induction l generalizing acc with
 | nil => simp [toF]
 | cons g l ih =>
  have hg:=hl g (by simp)
  have hne:(joinP g.1 == joinP f.1) = false:=by
   rw [beq_eq_false_iff_ne,Ne,hg.inj hf];intro e;have:=hs g (by simp);rw [e,ls_irrefl] at this;simp at this
  have e:toF (g :: l) = (joinP g.1,g.2) :: toF l:=rfl
  rw [e,List.foldl_cons]
  have h2:putStep (joinP f.1,f.2) (acc,true) (joinP g.1,g.2) = (acc ++ [(joinP g.1,g.2)],true):=by simp [putStep,hne]
  rw [h2,ih (fun g hg => hl g (by simp [hg])) (fun g hg => hs g (by simp [hg]))]
  simp
theorem fold_put {l:List NF} {f:NF} {acc:List Fl} (hl:ValidN l) (hf:OkN f.1) (hs:SortedN l) :
  (if ((toF l).foldl (putStep (joinP f.1,f.2)) (acc,false)).2 then ((toF l).foldl (putStep (joinP f.1,f.2)) (acc,false)).1 else ((toF l).foldl (putStep (joinP f.1,f.2)) (acc,false)).1 ++ [(joinP f.1,f.2)]) = acc ++ toF (insN l f):=by
 induction l generalizing acc with
 | nil => simp [toF,insN]
 | cons g l ih =>
  have hg:=hl g (by simp)
  have hl' : ValidN l:=fun g hg => hl g (by simp [hg])
  unfold SortedN at hs
  rw [List.pairwise_cons] at hs
  have e:toF (g :: l) = (joinP g.1,g.2) :: toF l:=rfl
  rw [e,List.foldl_cons,insN]
  by_cases h1:f.1 = g.1
  ·have h2:putStep (joinP f.1,f.2) (acc,false) (joinP g.1,g.2) = (acc ++ [(joinP f.1,f.2)],true):=by simp [putStep,h1]
   rw [h2,fold_done hl' hf (fun x hx => by rw [h1];exact hs.1 x hx),if_pos h1]
   simp [toF]
  ·have hne:(joinP g.1 == joinP f.1) = false:=by rw [beq_eq_false_iff_ne,Ne,hg.inj hf];exact Ne.symm h1
   have hne2:(joinP f.1 == joinP g.1) = false:=by rw [beq_eq_false_iff_ne,Ne,hf.inj hg];exact h1
   rw [if_neg h1]
   by_cases h3:lessS f.1 g.1 = true
   ·have h2:putStep (joinP f.1,f.2) (acc,false) (joinP g.1,g.2) = (acc ++ [(joinP f.1,f.2),(joinP g.1,g.2)],true):=by simp [putStep,hne,less_names hf hg,h3]
    rw [h2,fold_done hl' hf (fun x hx => ls_trans h3 (hs.1 x hx)),if_pos h3]
    simp [toF]
   ·have h2:putStep (joinP f.1,f.2) (acc,false) (joinP g.1,g.2) = (acc ++ [(joinP g.1,g.2)],false):=by simp [putStep,hne,hne2,less_names hf hg,h3]
    rw [h2,ih hl' hs.2,if_neg h3]
    simp [toF]
theorem put_names {l:List NF} {f:NF} (hl:ValidN l) (hf:OkN f.1) (hs:SortedN l):putL (toF l) (joinP f.1,f.2) = toF (insN l f):=by
 have:=fold_put (acc:=[]) hl hf hs
 rw [List.nil_append] at this
 rw [← this];rfl
theorem valid_files {es:Ents} (h:WFE es):ValidN (filesE es)∧∀ f ∈ filesE es,f.2.length ≤ 30:=by
 have key:∀ (p:List Str) (t:Tree),WFT t→∀ d,sub t p = some (.file d)→(∀ x ∈ p,isNameL x false = true)∧d.length ≤ 30:=by
  intro p
  induction p with
  | nil => intro t ht d hs;rw [sub] at hs;simp at hs;subst hs;unfold WFT at ht;exact ⟨by simp,ht⟩
  | cons x r ih =>
   intro t ht d hs
   cases t with
   | file e => simp [sub] at hs
   | dir es' =>
    unfold WFT at ht
    rw [sub] at hs
    cases hf:findE es' x with
    | none => rw [hf] at hs;simp at hs
    | some u =>
     rw [hf] at hs
     have hm:=ht.2.mem _ (findE_mem hf)
     obtain ⟨h1,h2⟩:=ih u hm.2 d hs
     exact ⟨fun y hy => by simp at hy;rcases hy with rfl | hy;exact hm.1;exact h1 y hy,h2⟩
 have:∀ p d,(p,d) ∈ filesE es→OkN p∧d.length ≤ 30:=by
  intro p d hp
  obtain ⟨x,r,t,rfl,h1,h2⟩:=(mem_filesE es h p d).1 hp
  have hm:=h.mem _ (findE_mem h1)
  obtain ⟨h3,h4⟩:=key r t hm.2 d h2
  exact ⟨⟨by simp,fun y hy => by simp at hy;rcases hy with rfl | hy;exact hm.1;exact h3 y hy⟩,h4⟩
 exact ⟨fun f hf => (this f.1 f.2 hf).1,fun f hf => (this f.1 f.2 hf).2⟩
theorem filter_sorted {l:List NF} (h:SortedN l) (q:NF→Bool):SortedN (l.filter q):=List.Pairwise.filter q h
theorem put_files {es:Ents} {q:List Str} {d:Str} (h:WFE es) (hq:OkN q) (hd:d.length ≤ 30) (hb:look (some (.dir es)) q ≠ .blocked) (hdir:∀ R e,R ≠ []→fileAt (.dir es) (q ++ R) ≠ some e) :
  filesE (putE es q (.file d)) = insN (filesE es) (q,d):=by
 have hw:WFE (putE es q (.file d)):=(put_wf h hq.2 (by unfold WFT;exact hd)).1
 refine sorted_unique (sorted_filesE _ hw) (insN_sorted (sorted_filesE _ h) _) ?_
 rintro ⟨p,e⟩
 rw [mem_root hw,insN_mem (sorted_filesE _ h),mem_root h,fileAt_put hq.1 hb]
 by_cases hp:q <+: p
 ·rw [if_pos hp,fileAt_file]
  obtain ⟨R,rfl⟩:=hp
  rw [List.drop_left]
  by_cases hR:R = []
  ·subst hR;simp;constructor
   ·intro h;exact h.symm
   ·intro h;exact h.symm
  ·rw [if_neg hR]
   constructor
   ·intro h;simp at h
   ·rintro (h2 | ⟨h2,_⟩)
    ·simp at h2;exact absurd h2.1 hR
    ·exact absurd h2 (hdir R e hR)
 ·rw [if_neg hp]
  constructor
  ·intro h2
   refine .inr ⟨h2,?_⟩
   intro e2;simp only at e2;subst e2;exact hp List.prefix_rfl
  ·rintro (h2 | ⟨h2,_⟩)
   ·simp at h2;rw [h2.1] at hp;exact absurd List.prefix_rfl hp
   ·exact h2
theorem remove_files {es:Ents} {q:List Str} (h:WFE es) (hq:OkN q) (hb:look (some (.dir es)) q ≠ .blocked):filesE (removeE es q) = (filesE es).filter fun f => decide (¬ q <+: f.1):=by
 have hw:WFE (removeE es q):=remove_wf h hq.2
 refine sorted_unique (sorted_filesE _ hw) (filter_sorted (sorted_filesE _ h) _) ?_
 rintro ⟨p,e⟩
 rw [mem_root hw,List.mem_filter,mem_root h,fileAt_remove hq.1 hb]
 by_cases hp:q <+: p
 ·rw [if_pos hp];simp [hp]
 ·rw [if_neg hp];simp [hp]
theorem look_names {es:Ents} {q:List Str} (h:WFE es) (hq:OkN q) :
  (look (some (.dir es)) q = .atFile ↔ ¬ getI (toF (filesE es)) (joinP q) < 0)∧(look (some (.dir es)) q = .atDir ↔ isDirL (toF (filesE es)) (joinP q) = true)∧(look (some (.dir es)) q = .blocked ↔ crossedL (toF (filesE es)) (joinP q) = true):=by
 have hv:=(valid_files h).1
 rw [get_names hv hq,isDir_names hv hq,crossed_names hv hq]
 by_cases he:es = []
 ·subst he
  obtain ⟨hq1,hq2⟩:=hq
  cases q with
  | nil => exact absurd rfl hq1
  | cons x r => simp [look,findE,filesE]
 ·have hw:WFT (.dir es):=by unfold WFT;exact ⟨he,h⟩
  obtain ⟨h1,h2,h3⟩:=look_files q (.dir es) hw
  refine ⟨?_,?_,?_⟩
  ·rw [h1]
   constructor
   ·rintro ⟨d,hd⟩ hall;exact hall (q,d) ((mem_root h q d).2 hd) rfl
   ·intro hn
    refine Classical.byContradiction fun hc => hn fun f hf e => hc ⟨f.2,?_⟩
    rw [← e];exact (mem_root h f.1 f.2).1 hf
  ·rw [h2]
   constructor
   ·rintro ⟨R,d,hR,hd⟩;exact ⟨(q ++ R,d),(mem_root h _ _).2 hd,R,hR,rfl⟩
   ·rintro ⟨f,hf,R,hR,e⟩;exact ⟨R,f.2,hR,by rw [← e];exact (mem_root h f.1 f.2).1 hf⟩
  ·rw [h3]
   constructor
   ·rintro ⟨P,R,d,hR,e,hd⟩;exact ⟨(P,d),(mem_root h _ _).2 hd,R,hR,e⟩
   ·rintro ⟨f,hf,R,hR,e⟩;exact ⟨f.1,R,f.2,hR,e,(mem_root h f.1 f.2).1 hf⟩
end Go.Proofs.YtdcbgfhkfmohiaaGreatDoor
