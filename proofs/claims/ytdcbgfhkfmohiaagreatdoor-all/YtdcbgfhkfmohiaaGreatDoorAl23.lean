/- Contracts of the document's answer (package canopyref): Check, and that its words are new. -/
import Derived.Test.YtdcbgfhkfmohiaaGreatDoorAl22
namespace Go.Proofs.YtdcbgfhkfmohiaaGreatDoor
open Go.RowKit
def CheckNew (w:World) (q:Str) (e:Ending) (w' : World):Prop :=
 Below w.heap.size w w'∧((checkL q = 0∧∃ v,e = .returned (.tuple #[v,.int .i64 0])∧WordsAt w' v (splitL 32 q)∧∀ k,v.ownBlock = some k→w.heap.size ≤ k)∨(checkL q ≠ 0∧e = .returned (.tuple #[.slice none 0 0,.int .i64 (checkL q)])))
theorem CheckNew.bad {w w' : World} {q:Str} {n:Nat} (hb:Below w.heap.size w w') (h:checkL q = n) (hn:n ≠ 0):CheckNew w q (.returned (.tuple #[.slice none 0 0,.int .i64 n])) w':=⟨hb,.inr ⟨by omega,by rw [h]⟩⟩
set_option maxHeartbeats 4000000 in
set_option maxRecDepth 50000 in
theorem check_new (q:Str) (w:World) (hq:q.length + 1 < maxLen) :
  Calls Tryz.prog 139 #[SV q] w fun e w' => CheckNew w q e w':=by
 unfold maxLen at hq
 have hc:(UInt8.toNat 32:Int) = 32:=rfl
 by_cases h60:60 < q.length
 ·have R:Hid (CheckNew w q (.returned (.tuple #[.slice none 0 0,.int .i64 (4:Nat)])) w):=CheckNew.bad (Below.refl _ _) (by unfold checkL;rw [if_pos h60]) (by omega)
  have h60' : (60:Int) < q.length:=by omega
  go_enter Tryz.func139,Tryz.ntmps139
  go_wp2_with fail
  go_ret2
  exact R.out
 have h60' : ¬ (60:Int) < q.length:=by omega
 have HQ:Hid (checkL q = checkW (splitL 32 q)):=by unfold checkL;rw [Hid,if_neg h60]
 have hne1:=splitL_ne 32 q
 have hl1:=splitL_len 32 q
 have hpc1:=splitL_piece 32 q
 go_enter Tryz.func139,Tryz.ntmps139
 go_wp2_with fail
 refine (split_any q 32 _ (by omega)).mono ?_
 rintro e w1 ⟨v1,rfl,hown1,hbel1⟩
 rcases strs_cells hown1 with ⟨rfl,h0,h2⟩ | ⟨g1,cap1,rfl,hn1,hg1,hgb1,hcap1,hm1,hcell1⟩
 ·exact absurd h2 hne1
 have HB:Hid (Below w.heap.size w w1):=hbel1
 have hq1:(splitL 32 q).length ≤ 61:=by omega
 have hpc:Hid (∀ x ∈ splitL 32 q,x.length ≤ 60):=fun x hx => by have:=hpc1 x hx;omega
 have HW:Hid (∀ W,Below w1.heap.size w1 W→WordsAt W (.slice (some ⟨g1,0,none⟩) (splitL 32 q).length cap1) (splitL 32 q)):=fun W hb => WordsAt.below ⟨g1,cap1,rfl,hcap1,hm1,hg1,hcell1⟩ hb
 have HC:Hid (∀ W,Below w1.heap.size w1 W→∀ k (h:k < (splitL 32 q).length),W.cell? ⟨g1,k,none⟩ = some (SV (splitL 32 q)[k])):=fun W hb k h => (hb.cell (p:=⟨g1,k,none⟩) hg1).trans (hcell1 k h)
 have BADR:Hid (∀ (n:Nat) W,checkW (splitL 32 q) = n→n ≠ 0→Below w1.heap.size w1 W→CheckNew w q (.returned (.tuple #[.slice none 0 0,.int .i64 n])) W):=fun n W h hn hb => CheckNew.bad (HB.out.trans (hb.mono HB.out.size)) (by rw [HQ.out,h]) hn
 have OKR:Hid (∀ W,checkW (splitL 32 q) = 0→Below w1.heap.size w1 W→CheckNew w q (.returned (.tuple #[.slice (some ⟨g1,0,none⟩) (splitL 32 q).length cap1,.int .i64 0])) W):=fun W h hb => ⟨HB.out.trans (hb.mono HB.out.size),.inl ⟨by rw [HQ.out,h],_,rfl,HW.out W hb,fun k hk => by simp [Value.ownBlock] at hk;omega⟩⟩
 clear hown1 hbel1 hgb1 hn1 hpc1 hl1 HW HQ
 generalize splitL 32 q = xs at *
 unfold maxLen at hm1
 have h0l:0 < xs.length:=List.length_pos_iff.2 hne1
 go_wp2
 go_loopw [5] (fun i wr => ∃ k:Nat,k ≤ xs.length∧i = .int .i64 k∧wr = w1∧∀ j (hj:j < xs.length),j < k→(xs[j] == []) = false) (fun i _ => xs.length - (intOf i).toNat)
 case atStart => exact ⟨0,Nat.zero_le _,rfl,rfl,fun j _ h => by omega⟩
 case round =>
  obtain ⟨k,hk,rfl,hw,hall⟩:=hrel
  have hw':=hw.symm
  subst hw'
  clear hw
  by_cases hlt:k < xs.length
  ·have ck:=hcell1 k hlt
   cases he:(xs[k] == [])
   ·have R:=str_step (q:=fun x => x == []) hlt hall he
    clear hall hcell1
    go_wp2
    go_roundw
    case rel => exact ⟨k + 1,by omega,by go_num,trivial,R⟩
    case measure => simp [intOf];omega
   ·have R:Hid _:=BADR.out 10 w1 (by unfold checkW;rw [if_pos (List.any_eq_true.2 ⟨_,List.getElem_mem hlt,he⟩)]) (by omega) (Below.refl _ _)
    clear hall hcell1 BADR OKR
    go_wp2
    go_ret2
    exact R.out
  ·have hany:Hid (xs.any (· == []) = false):=List.any_eq_false.2 fun x hx => by
    obtain ⟨j,hj,rfl⟩:=List.getElem_of_mem hx
    simpa using hall j hj (by omega)
   have hki:¬ (k:Int) < (xs.length:Int):=by omega
   have hhd:Hid (xs.headD [] = xs[0]):=by
    cases xs with
    | nil => exact absurd rfl hne1
    | cons a l => rfl
   have c0:=hcell1 0 h0l
   have HX0:Hid (∀ x0,x0 = xs[0]→checkW xs = if x0 == kGlob then (if xs.length = 2 then (if isPatternL (xs.getD 1 []) then 0 else 9) else 10) else if x0 == kFirst then (if xs.length < 3 then 10 else placesE xs) else if x0 == kExists || x0 == kList || x0 == kRead then (if xs.length = 2 then placesE xs else 10) else 10):=fun x0 h => by
    subst h;unfold checkW;rw [hany.out,hhd.out];rfl
   have PB:Hid (∀ i (hi:i < xs.length),1 ≤ i→wordOk xs[0] i xs[i] = false→placesE xs = 3):=fun i hi h1 h => places_bad h1 hi (by rw [hhd.out];exact h)
   have PG:Hid ((∀ i (hi:i < xs.length),1 ≤ i→wordOk xs[0] i xs[i] = true)→placesE xs = 0):=fun h => places_good (by rw [hhd.out];exact h)
   obtain ⟨x0,hx0⟩ : ∃ x0,x0 = xs[0]:=⟨_,rfl⟩
   have CK:Hid _:=HX0.out x0 hx0
   rw [← hx0] at c0 PB PG
   have HX:Hid _:=hx0
   clear hall HX0 hany hhd hx0 hne1
   by_cases kG:(x0 == [103,108,111,98]) = true
   ·by_cases h2:xs.length = 2
    ·have h1l:1 < xs.length:=by omega
     have c1:=hcell1 1 h1l
     have CP:Hid (Calls Tryz.prog 166 #[SV xs[1]] w1 fun e w' => e = .returned (.bool (isPatternL xs[1]))∧Below w1.heap.size w1 w'):=isPattern_any xs[1] w1 (by have:=hpc.out _ (List.getElem_mem h1l);omega)
     have e1:xs.getD 1 [] = xs[1]:=by simp [List.getD,h1l]
     have CK2:Hid (checkW xs = if isPatternL xs[1] then 0 else 9):=by
      have:=CK.out
      rw [show (x0 == kGlob) = true from kG,if_pos rfl,if_pos h2,e1] at this
      exact this
     simp at kG
     subst kG
     have h2i:(xs.length:Int) = 2:=by omega
     clear hcell1 e1 CK h2
     cases hP:isPatternL xs[1]
     ·rw [hP] at CP CK2
      have R:=BADR.out 9
      clear BADR OKR
      go_wp2_with fail
      refine CP.out.mono ?_
      rintro e w3 ⟨rfl,hb3⟩
      have R2:Hid _:=R w3 CK2.out (by omega) hb3
      clear R hb3
      go_wp2
      go_ret2
      exact R2.out
     ·rw [hP] at CP CK2
      have R:=OKR.out
      clear BADR OKR
      go_wp2_with fail
      refine CP.out.mono ?_
      rintro e w3 ⟨rfl,hb3⟩
      have R2:Hid _:=R w3 CK2.out hb3
      clear R hb3
      go_wp2
      go_ret2
      exact R2.out
    ·have R:Hid _:=BADR.out 10 w1 (by
      have:=CK.out
      rw [show (x0 == kGlob) = true from kG,if_pos rfl,if_neg h2] at this
      exact this) (by omega) (Below.refl _ _)
     simp at kG
     subst kG
     have h2i:¬ (xs.length:Int) = 2:=by omega
     clear hcell1 CK h2 BADR OKR
     go_wp2
     go_ret2
     exact R.out
   ·have kG' : (x0 == kGlob) = false:=by simpa [kGlob] using kG
    by_cases kF:(x0 == [102,105,114,115,116]) = true
    ·by_cases h3:xs.length < 3
     ·have R:Hid _:=BADR.out 10 w1 (by
       have:=CK.out
       rw [kG',show (x0 == kFirst) = true from kF,if_neg (by simp),if_pos rfl,if_pos h3] at this
       exact this) (by omega) (Below.refl _ _)
      simp at kF
      subst kF
      have h2i:(xs.length:Int) < 3:=by omega
      clear hcell1 CK h3 BADR OKR kG kG'
      go_wp2
      go_ret2
      exact R.out
     ·have CK2:Hid (checkW xs = placesE xs):=by
       have:=CK.out
       rw [kG',show (x0 == kFirst) = true from kF,if_neg (by simp),if_pos rfl,if_neg h3] at this
       exact this
      simp at kF
      subst kF
      have h2i:¬ (xs.length:Int) < 3:=by omega
      clear CK kG kG' hcell1
      have BAD3:Hid (∀ i (hi:i < xs.length),1 ≤ i→wordOk ([102,105,114,115,116]:Str) i xs[i] = false→∀ W,Below w1.heap.size w1 W→CheckNew w q (.returned (.tuple #[.slice none 0 0,.int .i64 (3:Nat)])) W):=fun i hi h1 h W hb => BADR.out 3 W (by rw [CK2.out];exact PB.out i hi h1 h) (by omega) hb
      have GOOD:Hid ((∀ i (hi:i < xs.length),1 ≤ i→wordOk ([102,105,114,115,116]:Str) i xs[i] = true)→∀ W,Below w1.heap.size w1 W→CheckNew w q (.returned (.tuple #[.slice (some ⟨g1,0,none⟩) xs.length cap1,.int .i64 0])) W):=fun h W hb => OKR.out W (by rw [CK2.out];exact PG.out h) hb
      clear BADR OKR PB PG CK2
      go_wp2
      go_loopw [7] (fun i wz => ∃ j:Nat,1 ≤ j∧j ≤ xs.length∧i = .int .i64 j∧Below w1.heap.size w1 wz∧∀ y (hy:y < xs.length),1 ≤ y→y < j→wordOk ([102,105,114,115,116]:Str) y xs[y] = true) (fun i _ => xs.length - (intOf i).toNat)
      case atStart => exact ⟨1,Nat.le_refl _,by omega,rfl,Below.refl _ _,fun y _ h1 h2 => by omega⟩
      case round =>
       obtain ⟨j,hj1,hjl,rfl,hbz,hpl⟩:=hrel
       by_cases hjx:j < xs.length
       ·have hji:(j:Int) < (xs.length:Int):=by omega
        have cz0:wr.cell? ⟨g1,0,none⟩ = some (SV ([102,105,114,115,116]:Str)):=(hbz.cell (p:=⟨g1,0,none⟩) hg1).trans c0
        have czj:wr.cell? ⟨g1,j,none⟩ = some (SV xs[j]):=HC.out wr hbz j hjx
        have NX:Hid (wordOk ([102,105,114,115,116]:Str) j xs[j] = true→∀ y (hy:y < xs.length),1 ≤ y→y < j + 1→wordOk ([102,105,114,115,116]:Str) y xs[y] = true):=fun h y hy h1 h2 => by
         by_cases e:y = j
         ·subst e;exact h
         ·exact hpl y hy h1 (by omega)
        have B3:Hid _:=BAD3.out j hjx hj1
        have hxl:=hpc.out _ (List.getElem_mem hjx)
        have CI:=isPlace_any xs[j] wr (by unfold maxLen;omega)
        have HBZ:Hid (Below w1.heap.size w1 wr):=hbz
        clear hpl BAD3 GOOD c0
        by_cases hj:j = 1
        ·subst hj
         have RES:Hid (wordOk ([102,105,114,115,116]:Str) 1 xs[1] = isNameL xs[1] false):=by unfold wordOk;rw [Hid,if_pos (by simp [kFirst])]
         have CN:=fun W => isName_any xs[1] false W (by unfold maxLen;omega)
         generalize isPlaceL xs[1] = bp at *
         cases hpj:isNameL xs[1] false
         ·rw [hpj] at CN
          go_wp2_with fail
          refine CI.mono ?_
          rintro e w4 ⟨rfl,hb4⟩
          have cz4:=(hb4.cell (p:=⟨g1,0,none⟩) (by have:=HBZ.out.size;simp only;omega)).trans cz0
          have cz5:=(hb4.cell (p:=⟨g1,1,none⟩) (by have:=HBZ.out.size;simp only;omega)).trans czj
          have R:Hid _:=B3.out (by rw [RES.out,hpj]) w4 (HBZ.out.trans (hb4.mono HBZ.out.size))
          clear cz0 czj CI B3 NX hb4 hbz
          go_wp2_with (go_at_call 163;refine (CN _).mono ?_;rintro e w' ⟨rfl,rfl⟩)
          go_ret2
          exact R.out
         ·rw [hpj] at CN
          go_wp2_with fail
          refine CI.mono ?_
          rintro e w4 ⟨rfl,hb4⟩
          have cz4:=(hb4.cell (p:=⟨g1,0,none⟩) (by have:=HBZ.out.size;simp only;omega)).trans cz0
          have cz5:=(hb4.cell (p:=⟨g1,1,none⟩) (by have:=HBZ.out.size;simp only;omega)).trans czj
          have HB4:Hid (Below w1.heap.size w1 w4):=HBZ.out.trans (hb4.mono HBZ.out.size)
          have R:Hid _:=NX.out (by rw [RES.out,hpj])
          clear cz0 czj CI B3 NX hb4 hbz
          go_wp2_with (go_at_call 163;refine (CN _).mono ?_;rintro e w' ⟨rfl,rfl⟩)
          go_roundw
          case rel => exact ⟨1 + 1,by omega,by omega,by go_num,HB4.out,R.out⟩
          case measure => simp [intOf];omega
        ·have hj1i:((j:Int) == 1) = false:=by simp;omega
         have RES:Hid (wordOk ([102,105,114,115,116]:Str) j xs[j] = isPlaceL xs[j]):=by unfold wordOk;rw [Hid,if_neg (by simp [hj])]
         cases hpj:isPlaceL xs[j]
         ·rw [hpj] at CI
          go_wp2_with fail
          refine CI.mono ?_
          rintro e w4 ⟨rfl,hb4⟩
          have cz4:=(hb4.cell (p:=⟨g1,0,none⟩) (by have:=HBZ.out.size;simp only;omega)).trans cz0
          have R:Hid _:=B3.out (by rw [RES.out,hpj]) w4 (HBZ.out.trans (hb4.mono HBZ.out.size))
          clear cz0 czj CI B3 NX hb4 hbz
          go_wp2
          go_ret2
          exact R.out
         ·rw [hpj] at CI
          go_wp2_with fail
          refine CI.mono ?_
          rintro e w4 ⟨rfl,hb4⟩
          have cz4:=(hb4.cell (p:=⟨g1,0,none⟩) (by have:=HBZ.out.size;simp only;omega)).trans cz0
          have HB4:Hid (Below w1.heap.size w1 w4):=HBZ.out.trans (hb4.mono HBZ.out.size)
          have R:Hid _:=NX.out (by rw [RES.out,hpj])
          clear cz0 czj CI B3 NX hb4 hbz
          go_wp2
          go_roundw
          case rel => exact ⟨j + 1,by omega,by omega,by go_num,HB4.out,R.out⟩
          case measure => simp [intOf];omega
       ·have hji:¬ (j:Int) < (xs.length:Int):=by omega
        have R:Hid _:=GOOD.out (fun y hy h1 => hpl y hy h1 (by omega)) wr hbz
        clear hpl BAD3 GOOD hbz
        go_wp2
        go_ret2
        exact R.out
    ·have kF' : (x0 == kFirst) = false:=by simpa [kFirst] using kF
     by_cases kE:x0 = [101,120,105,115,116,115]∨x0 = [108,105,115,116]∨x0 = [114,101,97,100]
     ·have kE' : (x0 == kExists || x0 == kList || x0 == kRead) = true:=by rcases kE with rfl | rfl | rfl <;> rfl
      by_cases h2:xs.length = 2
      ·have CK2:Hid (checkW xs = placesE xs):=by
        have:=CK.out
        rw [kG',kF',kE',if_neg (by simp),if_neg (by simp),if_pos rfl,if_pos h2] at this
        exact this
       have h2i:(xs.length:Int) = 2:=by omega
       have h2g:1 < xs.length:=by omega
       clear CK kG kG' kF kF' kE' hcell1 h2
       rcases kE with rfl | rfl | rfl
       ·have BAD3:Hid (∀ i (hi:i < xs.length),1 ≤ i→wordOk ([101,120,105,115,116,115]:Str) i xs[i] = false→∀ W,Below w1.heap.size w1 W→CheckNew w q (.returned (.tuple #[.slice none 0 0,.int .i64 (3:Nat)])) W):=fun i hi h1 h W hb => BADR.out 3 W (by rw [CK2.out];exact PB.out i hi h1 h) (by omega) hb
        have GOOD:Hid ((∀ i (hi:i < xs.length),1 ≤ i→wordOk ([101,120,105,115,116,115]:Str) i xs[i] = true)→∀ W,Below w1.heap.size w1 W→CheckNew w q (.returned (.tuple #[.slice (some ⟨g1,0,none⟩) xs.length cap1,.int .i64 0])) W):=fun h W hb => OKR.out W (by rw [CK2.out];exact PG.out h) hb
        clear BADR OKR PB PG CK2
        go_wp2
        go_loopw [7] (fun i wz => ∃ j:Nat,1 ≤ j∧j ≤ xs.length∧i = .int .i64 j∧Below w1.heap.size w1 wz∧∀ y (hy:y < xs.length),1 ≤ y→y < j→wordOk ([101,120,105,115,116,115]:Str) y xs[y] = true) (fun i _ => xs.length - (intOf i).toNat)
        case atStart => exact ⟨1,Nat.le_refl _,by omega,rfl,Below.refl _ _,fun y _ h1 h2 => by omega⟩
        case round =>
         obtain ⟨j,hj1,hjl,rfl,hbz,hpl⟩:=hrel
         by_cases hjx:j < xs.length
         ·have hji:(j:Int) < (xs.length:Int):=by omega
          have cz0:wr.cell? ⟨g1,0,none⟩ = some (SV ([101,120,105,115,116,115]:Str)):=(hbz.cell (p:=⟨g1,0,none⟩) hg1).trans c0
          have czj:wr.cell? ⟨g1,j,none⟩ = some (SV xs[j]):=HC.out wr hbz j hjx
          have NX:Hid (wordOk ([101,120,105,115,116,115]:Str) j xs[j] = true→∀ y (hy:y < xs.length),1 ≤ y→y < j + 1→wordOk ([101,120,105,115,116,115]:Str) y xs[y] = true):=fun h y hy h1 h2 => by
           by_cases e:y = j
           ·subst e;exact h
           ·exact hpl y hy h1 (by omega)
          have B3:Hid _:=BAD3.out j hjx hj1
          have hxl:=hpc.out _ (List.getElem_mem hjx)
          have CI:=isPlace_any xs[j] wr (by unfold maxLen;omega)
          have HBZ:Hid (Below w1.heap.size w1 wr):=hbz
          clear hpl BAD3 GOOD c0
          have RES:Hid (wordOk ([101,120,105,115,116,115]:Str) j xs[j] = isPlaceL xs[j]):=by unfold wordOk;rw [Hid,if_neg (by simp [kFirst])]
          cases hpj:isPlaceL xs[j]
          ·rw [hpj] at CI
           go_wp2_with fail
           refine CI.mono ?_
           rintro e w4 ⟨rfl,hb4⟩
           have cz4:=(hb4.cell (p:=⟨g1,0,none⟩) (by have:=HBZ.out.size;simp only;omega)).trans cz0
           have R:Hid _:=B3.out (by rw [RES.out,hpj]) w4 (HBZ.out.trans (hb4.mono HBZ.out.size))
           clear cz0 czj CI B3 NX hb4 hbz
           go_wp2
           go_ret2
           exact R.out
          ·rw [hpj] at CI
           go_wp2_with fail
           refine CI.mono ?_
           rintro e w4 ⟨rfl,hb4⟩
           have cz4:=(hb4.cell (p:=⟨g1,0,none⟩) (by have:=HBZ.out.size;simp only;omega)).trans cz0
           have HB4:Hid (Below w1.heap.size w1 w4):=HBZ.out.trans (hb4.mono HBZ.out.size)
           have R:Hid _:=NX.out (by rw [RES.out,hpj])
           clear cz0 czj CI B3 NX hb4 hbz
           go_wp2
           go_roundw
           case rel => exact ⟨j + 1,by omega,by omega,by go_num,HB4.out,R.out⟩
           case measure => simp [intOf];omega
         ·have hji:¬ (j:Int) < (xs.length:Int):=by omega
          have R:Hid _:=GOOD.out (fun y hy h1 => hpl y hy h1 (by omega)) wr hbz
          clear hpl BAD3 GOOD hbz
          go_wp2
          go_ret2
          exact R.out
       ·have BAD3:Hid (∀ i (hi:i < xs.length),1 ≤ i→wordOk ([108,105,115,116]:Str) i xs[i] = false→∀ W,Below w1.heap.size w1 W→CheckNew w q (.returned (.tuple #[.slice none 0 0,.int .i64 (3:Nat)])) W):=fun i hi h1 h W hb => BADR.out 3 W (by rw [CK2.out];exact PB.out i hi h1 h) (by omega) hb
        have GOOD:Hid ((∀ i (hi:i < xs.length),1 ≤ i→wordOk ([108,105,115,116]:Str) i xs[i] = true)→∀ W,Below w1.heap.size w1 W→CheckNew w q (.returned (.tuple #[.slice (some ⟨g1,0,none⟩) xs.length cap1,.int .i64 0])) W):=fun h W hb => OKR.out W (by rw [CK2.out];exact PG.out h) hb
        clear BADR OKR PB PG CK2
        go_wp2
        go_loopw [7] (fun i wz => ∃ j:Nat,1 ≤ j∧j ≤ xs.length∧i = .int .i64 j∧Below w1.heap.size w1 wz∧∀ y (hy:y < xs.length),1 ≤ y→y < j→wordOk ([108,105,115,116]:Str) y xs[y] = true) (fun i _ => xs.length - (intOf i).toNat)
        case atStart => exact ⟨1,Nat.le_refl _,by omega,rfl,Below.refl _ _,fun y _ h1 h2 => by omega⟩
        case round =>
         obtain ⟨j,hj1,hjl,rfl,hbz,hpl⟩:=hrel
         by_cases hjx:j < xs.length
         ·have hji:(j:Int) < (xs.length:Int):=by omega
          have cz0:wr.cell? ⟨g1,0,none⟩ = some (SV ([108,105,115,116]:Str)):=(hbz.cell (p:=⟨g1,0,none⟩) hg1).trans c0
          have czj:wr.cell? ⟨g1,j,none⟩ = some (SV xs[j]):=HC.out wr hbz j hjx
          have NX:Hid (wordOk ([108,105,115,116]:Str) j xs[j] = true→∀ y (hy:y < xs.length),1 ≤ y→y < j + 1→wordOk ([108,105,115,116]:Str) y xs[y] = true):=fun h y hy h1 h2 => by
           by_cases e:y = j
           ·subst e;exact h
           ·exact hpl y hy h1 (by omega)
          have B3:Hid _:=BAD3.out j hjx hj1
          have hxl:=hpc.out _ (List.getElem_mem hjx)
          have CI:=isPlace_any xs[j] wr (by unfold maxLen;omega)
          have HBZ:Hid (Below w1.heap.size w1 wr):=hbz
          clear hpl BAD3 GOOD c0
          have RES:Hid (wordOk ([108,105,115,116]:Str) j xs[j] = isPlaceL xs[j]):=by unfold wordOk;rw [Hid,if_neg (by simp [kFirst])]
          cases hpj:isPlaceL xs[j]
          ·rw [hpj] at CI
           go_wp2_with fail
           refine CI.mono ?_
           rintro e w4 ⟨rfl,hb4⟩
           have cz4:=(hb4.cell (p:=⟨g1,0,none⟩) (by have:=HBZ.out.size;simp only;omega)).trans cz0
           have R:Hid _:=B3.out (by rw [RES.out,hpj]) w4 (HBZ.out.trans (hb4.mono HBZ.out.size))
           clear cz0 czj CI B3 NX hb4 hbz
           go_wp2
           go_ret2
           exact R.out
          ·rw [hpj] at CI
           go_wp2_with fail
           refine CI.mono ?_
           rintro e w4 ⟨rfl,hb4⟩
           have cz4:=(hb4.cell (p:=⟨g1,0,none⟩) (by have:=HBZ.out.size;simp only;omega)).trans cz0
           have HB4:Hid (Below w1.heap.size w1 w4):=HBZ.out.trans (hb4.mono HBZ.out.size)
           have R:Hid _:=NX.out (by rw [RES.out,hpj])
           clear cz0 czj CI B3 NX hb4 hbz
           go_wp2
           go_roundw
           case rel => exact ⟨j + 1,by omega,by omega,by go_num,HB4.out,R.out⟩
           case measure => simp [intOf];omega
         ·have hji:¬ (j:Int) < (xs.length:Int):=by omega
          have R:Hid _:=GOOD.out (fun y hy h1 => hpl y hy h1 (by omega)) wr hbz
          clear hpl BAD3 GOOD hbz
          go_wp2
          go_ret2
          exact R.out
       ·have BAD3:Hid (∀ i (hi:i < xs.length),1 ≤ i→wordOk ([114,101,97,100]:Str) i xs[i] = false→∀ W,Below w1.heap.size w1 W→CheckNew w q (.returned (.tuple #[.slice none 0 0,.int .i64 (3:Nat)])) W):=fun i hi h1 h W hb => BADR.out 3 W (by rw [CK2.out];exact PB.out i hi h1 h) (by omega) hb
        have GOOD:Hid ((∀ i (hi:i < xs.length),1 ≤ i→wordOk ([114,101,97,100]:Str) i xs[i] = true)→∀ W,Below w1.heap.size w1 W→CheckNew w q (.returned (.tuple #[.slice (some ⟨g1,0,none⟩) xs.length cap1,.int .i64 0])) W):=fun h W hb => OKR.out W (by rw [CK2.out];exact PG.out h) hb
        clear BADR OKR PB PG CK2
        go_wp2
        go_loopw [7] (fun i wz => ∃ j:Nat,1 ≤ j∧j ≤ xs.length∧i = .int .i64 j∧Below w1.heap.size w1 wz∧∀ y (hy:y < xs.length),1 ≤ y→y < j→wordOk ([114,101,97,100]:Str) y xs[y] = true) (fun i _ => xs.length - (intOf i).toNat)
        case atStart => exact ⟨1,Nat.le_refl _,by omega,rfl,Below.refl _ _,fun y _ h1 h2 => by omega⟩
        case round =>
         obtain ⟨j,hj1,hjl,rfl,hbz,hpl⟩:=hrel
         by_cases hjx:j < xs.length
         ·have hji:(j:Int) < (xs.length:Int):=by omega
          have cz0:wr.cell? ⟨g1,0,none⟩ = some (SV ([114,101,97,100]:Str)):=(hbz.cell (p:=⟨g1,0,none⟩) hg1).trans c0
          have czj:wr.cell? ⟨g1,j,none⟩ = some (SV xs[j]):=HC.out wr hbz j hjx
          have NX:Hid (wordOk ([114,101,97,100]:Str) j xs[j] = true→∀ y (hy:y < xs.length),1 ≤ y→y < j + 1→wordOk ([114,101,97,100]:Str) y xs[y] = true):=fun h y hy h1 h2 => by
           by_cases e:y = j
           ·subst e;exact h
           ·exact hpl y hy h1 (by omega)
          have B3:Hid _:=BAD3.out j hjx hj1
          have hxl:=hpc.out _ (List.getElem_mem hjx)
          have CI:=isPlace_any xs[j] wr (by unfold maxLen;omega)
          have HBZ:Hid (Below w1.heap.size w1 wr):=hbz
          clear hpl BAD3 GOOD c0
          have RES:Hid (wordOk ([114,101,97,100]:Str) j xs[j] = isPlaceL xs[j]):=by unfold wordOk;rw [Hid,if_neg (by simp [kFirst])]
          cases hpj:isPlaceL xs[j]
          ·rw [hpj] at CI
           go_wp2_with fail
           refine CI.mono ?_
           rintro e w4 ⟨rfl,hb4⟩
           have cz4:=(hb4.cell (p:=⟨g1,0,none⟩) (by have:=HBZ.out.size;simp only;omega)).trans cz0
           have R:Hid _:=B3.out (by rw [RES.out,hpj]) w4 (HBZ.out.trans (hb4.mono HBZ.out.size))
           clear cz0 czj CI B3 NX hb4 hbz
           go_wp2
           go_ret2
           exact R.out
          ·rw [hpj] at CI
           go_wp2_with fail
           refine CI.mono ?_
           rintro e w4 ⟨rfl,hb4⟩
           have cz4:=(hb4.cell (p:=⟨g1,0,none⟩) (by have:=HBZ.out.size;simp only;omega)).trans cz0
           have HB4:Hid (Below w1.heap.size w1 w4):=HBZ.out.trans (hb4.mono HBZ.out.size)
           have R:Hid _:=NX.out (by rw [RES.out,hpj])
           clear cz0 czj CI B3 NX hb4 hbz
           go_wp2
           go_roundw
           case rel => exact ⟨j + 1,by omega,by omega,by go_num,HB4.out,R.out⟩
           case measure => simp [intOf];omega
         ·have hji:¬ (j:Int) < (xs.length:Int):=by omega
          have R:Hid _:=GOOD.out (fun y hy h1 => hpl y hy h1 (by omega)) wr hbz
          clear hpl BAD3 GOOD hbz
          go_wp2
          go_ret2
          exact R.out
      ·have R:Hid _:=BADR.out 10 w1 (by
        have:=CK.out
        rw [kG',kF',kE',if_neg (by simp),if_neg (by simp),if_pos rfl,if_neg h2] at this
        exact this) (by omega) (Below.refl _ _)
       have h2i:¬ (xs.length:Int) = 2:=by omega
       clear hcell1 CK h2 BADR OKR kG kG' kF kF' kE'
       rcases kE with rfl | rfl | rfl
       all_goals
        go_wp2
        go_ret2
        exact R.out
     ·have n1:(x0 == [101,120,105,115,116,115]) = false:=by simp;exact fun h => kE (.inl h)
      have n2:(x0 == [108,105,115,116]) = false:=by simp;exact fun h => kE (.inr (.inl h))
      have n3:(x0 == [114,101,97,100]) = false:=by simp;exact fun h => kE (.inr (.inr h))
      have n4:(x0 == [103,108,111,98]) = false:=kG'
      have n5:(x0 == [102,105,114,115,116]) = false:=kF'
      have R:Hid _:=BADR.out 10 w1 (by
       have:=CK.out
       rw [kG',kF',show (x0 == kExists || x0 == kList || x0 == kRead) = false by rw [show (x0 == kExists) = false from n1,show (x0 == kList) = false from n2,show (x0 == kRead) = false from n3];rfl,if_neg (by simp),if_neg (by simp),if_neg (by simp)] at this
       exact this) (by omega) (Below.refl _ _)
      clear hcell1 CK BADR OKR kG kG' kF kF' kE
      go_wp2
      go_ret2
      exact R.out

open Go.RowKit
attribute [local go_sem] Oper.semAt_some
theorem Tryz.infoRule:(Tryz.prog.info? 248).map (fun i => (i.zero,i.size,i.bytes)) = some (some (.agg #[.string ⟨#[]⟩,.slice none 0 0,.slice none 0 0]),3,64):=by kernel_rfl
theorem Tryz.infoWords:(Tryz.prog.info? 48).map (fun i => (i.zero,i.size,i.bytes)) = some (some (.slice none 0 0),1,24):=by kernel_rfl
structure DRule where
 name:Str
 ws:List (List Str)
 ans:List Str
 qv:Value
 wv:List Value
 av:Value
structure DView where
 name:Str
 ws:List (List Str)
 ans:List Str
def DRule.view (d:DRule):DView:=⟨d.name,d.ws,d.ans⟩
def DRule.cells (d:DRule):List Value:=[SV d.name,d.qv,d.av]
def flatR (ds:List DRule):List Value:=ds.flatMap DRule.cells
theorem flatR_app (ds:List DRule) (d:DRule):flatR (ds ++ [d]) = flatR ds ++ d.cells:=by simp [flatR]
theorem flatR_get:∀ (ds:List DRule) (k:Nat) (h:k < ds.length),(flatR ds)[k * 3]? = some (SV ds[k].name)∧(flatR ds)[k * 3 + 1]? = some ds[k].qv∧(flatR ds)[k * 3 + 2]? = some ds[k].av
 | [],k,h => by simp at h
 | d :: ds,0,_ => ⟨rfl,rfl,rfl⟩
 | d :: ds,k + 1,h => by
  have ih:=flatR_get ds k (by simpa using h)
  have e:flatR (d :: ds) = SV d.name :: d.qv :: d.av :: flatR ds:=by simp [flatR,DRule.cells]
  rw [e,show (k + 1) * 3 = k * 3 + 1 + 1 + 1 from by omega,show k * 3 + 1 + 1 + 1 + 1 = (k * 3 + 1) + 1 + 1 + 1 from rfl,show k * 3 + 1 + 1 + 1 + 2 = (k * 3 + 2) + 1 + 1 + 1 from rfl]
  simp only [List.getElem?_cons_succ,List.getElem_cons_succ]
  exact ih
structure DRuleAt (w:World) (d:DRule):Prop where
 row:w.ownsRow 0 48 1 d.qv d.wv.length d.wv
 len:d.wv.length = d.ws.length
 wds:∀ k (h:k < d.wv.length) (h' : k < d.ws.length),WordsAt w d.wv[k] d.ws[k]
 ans:w.ownsRow 0 9 1 d.av d.ans.length (d.ans.map SV)
def Dfoot (d:DRule) (k:Nat):Prop:=d.qv.ownBlock = some k∨d.av.ownBlock = some k∨∃ x ∈ d.wv,x.ownBlock = some k
def WOk (x:List Str):Prop:=checkW x = 0∧(∀ y ∈ x,y.length ≤ 60)∧x.length ≤ 1000
structure DRulesAt (w:World) (vr:Value) (ds:List DRule):Prop where
 row:w.ownsRow 0 248 3 vr ds.length (flatR ds)
 each:∀ d ∈ ds,DRuleAt w d
 out:∀ k,vr.ownBlock = some k→∀ d ∈ ds,¬ Dfoot d k
 few:ds.length ≤ 8
 short:∀ d ∈ ds,d.name.length ≤ 8∧d.ws.length ≤ 6
 good:∀ d ∈ ds,∀ x ∈ d.ws,WOk x
def docR (vr:Value) (ds:List DRule) (k:Nat):Prop:=vr.ownBlock = some k∨∃ d ∈ ds,Dfoot d k
theorem WordsAt.frame {w w' : World} {v:Value} {xs:List Str} (h:WordsAt w v xs) (hs:w.heap.size ≤ w'.heap.size) (hb:∀ k,v.ownBlock = some k→w'.heap[k]? = w.heap[k]?):WordsAt w' v xs:=by
 obtain ⟨g,cap,rfl,h2,h3,h4,h5⟩:=h
 exact ⟨g,cap,rfl,h2,h3,by omega,fun k hk => (World.cell?_of_block (a:=⟨g,k,none⟩) (hb g rfl)).trans (h5 k hk)⟩
theorem WordsAt.lt {w:World} {v:Value} {xs:List Str} (h:WordsAt w v xs) {k:Nat} (hk:v.ownBlock = some k):k < w.heap.size:=by
 obtain ⟨g,cap,rfl,h2,h3,h4,h5⟩:=h
 simp [Value.ownBlock] at hk
 omega
theorem DRuleAt.frame {w w' : World} {d:DRule} (h:DRuleAt w d) (hs:w.heap.size ≤ w'.heap.size) (hb:∀ k,Dfoot d k→w'.heap[k]? = w.heap[k]?):DRuleAt w' d :=
 ⟨rowKept h.row fun k hk => hb k (.inl hk),h.len,fun k h1 h2 => (h.wds k h1 h2).frame hs fun j hj => hb j (.inr (.inr ⟨_,List.getElem_mem h1,hj⟩)),rowKept h.ans fun k hk => hb k (.inr (.inl hk))⟩
theorem DRuleAt.lt {w:World} {d:DRule} (h:DRuleAt w d) {k:Nat} (hk:Dfoot d k):k < w.heap.size:=by
 rcases hk with hk | hk | ⟨x,hx,hk⟩
 ·exact (h.row.lt k hk).2
 ·exact (h.ans.lt k hk).2
 ·obtain ⟨i,hi,rfl⟩:=List.getElem_of_mem hx
  exact (h.wds i hi (by rw [← h.len];exact hi)).lt hk
theorem DRulesAt.frame {w w' : World} {vr:Value} {ds:List DRule} (h:DRulesAt w vr ds) (hs:w.heap.size ≤ w'.heap.size) (hb:∀ k,docR vr ds k→w'.heap[k]? = w.heap[k]?):DRulesAt w' vr ds :=
 ⟨rowKept h.row fun k hk => hb k (.inl hk),fun d hd => (h.each d hd).frame hs fun k hk => hb k (.inr ⟨d,hd,hk⟩),h.out,h.few,h.short,h.good⟩
theorem DRulesAt.lt {w:World} {vr:Value} {ds:List DRule} (h:DRulesAt w vr ds) {k:Nat} (hk:docR vr ds k):k < w.heap.size:=by
 rcases hk with hk | ⟨d,hd,hk⟩
 ·exact (h.row.lt k hk).2
 ·exact (h.each d hd).lt hk
theorem DRulesAt.below {w w' : World} {vr:Value} {ds:List DRule} (h:DRulesAt w vr ds) (hb:Below w.heap.size w w'):DRulesAt w' vr ds:=h.frame hb.size fun _ hk => hb.block _ (h.lt hk)
theorem DRuleAt.below {w w' : World} {d:DRule} (h:DRuleAt w d) (hb:Below w.heap.size w w'):DRuleAt w' d:=h.frame hb.size fun _ hk => hb.block _ (h.lt hk)
theorem DRuleAt.forms {w:World} {d:DRule} (h:DRuleAt w d):(∃ ao cap,d.qv = .slice ao d.wv.length cap)∧∃ ao cap,d.av = .slice ao d.ans.length cap:=⟨row_form h.row,row_form h.ans⟩
theorem rule_cells {w:World} {base:Nat} {v:Value} {ds:List DRule} (h:w.ownsRow base 248 3 v ds.length (flatR ds)) :
  (v = .slice none 0 0∧ds = [])∨∃ g cap,v = .slice (some ⟨g,0,none⟩) ds.length cap∧g < w.heap.size∧base ≤ g∧ds.length ≤ cap∧cap ≤ maxLen∧∀ k (h:k < ds.length),w.cell? ⟨g,k * 3,none⟩ = some (SV ds[k].name)∧w.cell? ⟨g,k * 3 + 1,none⟩ = some ds[k].qv∧w.cell? ⟨g,k * 3 + 2,none⟩ = some ds[k].av:=by
 rcases row_cells h with ⟨h1,h2⟩ | ⟨g,cap,h1,h2,h2',h3,h4,h5⟩
 ·exact .inl ⟨h1,List.eq_nil_of_length_eq_zero h2⟩
 ·exact .inr ⟨g,cap,h1,h2,h2',h3,h4,fun k hk => ⟨h5 _ _ (flatR_get ds k hk).1,h5 _ _ (flatR_get ds k hk).2.1,h5 _ _ (flatR_get ds k hk).2.2⟩⟩
def restD (V:List DView) (n:Str):List DView:=V.filter fun d => !(d.name == n)
def ruleDE (V:List DView) (n:Str) (xs:List Str):Nat :=
 if isNameL n false then (if 6 < xs.length∨((restD V n).length = V.length∧8 ≤ (restD V n).length) then 7 else checkAll xs) else 3
def insStep {T:Type} (lt:T→Bool) (r:T) (st:List T × Bool) (d:T):List T × Bool:=if !st.2 && lt d then (st.1 ++ [r,d],true) else (st.1 ++ [d],st.2)
def insEnd {T:Type} (r:T) (st:List T × Bool):List T:=if st.2 then st.1 else st.1 ++ [r]
def insD {T:Type} (lt:T→Bool) (r:T):List T→List T
 | [] => [r]
 | d :: l => if lt d then r :: d :: l else d :: insD lt r l
theorem ins_done {T:Type} (lt:T→Bool) (r:T) (l:List T) (a:List T):l.foldl (insStep lt r) (a,true) = (a ++ l,true):=by
 induction l generalizing a with
 | nil => simp
 | cons d l ih => rw [List.foldl_cons,show insStep lt r (a,true) d = (a ++ [d],true) from rfl,ih];simp
theorem ins_all {T:Type} (lt:T→Bool) (r:T) (l:List T) (a:List T):insEnd r (l.foldl (insStep lt r) (a,false)) = a ++ insD lt r l:=by
 induction l generalizing a with
 | nil => simp [insEnd,insD]
 | cons d l ih =>
  rw [List.foldl_cons]
  cases h:lt d
  ·rw [show insStep lt r (a,false) d = (a ++ [d],false) from by simp [insStep,h],ih]
   simp [insD,h]
  ·rw [show insStep lt r (a,false) d = (a ++ [r,d],true) from by simp [insStep,h],ins_done]
   simp [insEnd,insD,h]
def ruleDV (V:List DView) (n:Str) (xs:List Str):List DView :=
 if ruleDE V n xs = 0 then (if xs = [] then restD V n else insD (fun d => Op.bytesLess n d.name) ⟨n,xs.map (splitL 32),[]⟩ (restD V n)) else V
def DRuleOut (w:World) (b:Nat) (c0 c1 va vr:Value) (ds:List DRule) (n:Str) (xs:List Str) (e:Ending) (w' : World):Prop :=
 e = .returned (.int .i64 (ruleDE (ds.map (·.view)) n xs))∧∃ vr' ds',w'.heap[b]? = some (.cells #[c0,c1,va,vr'] 193 (0,0))∧DRulesAt w' vr' ds'∧ds'.map (·.view) = ruleDV (ds.map (·.view)) n xs∧Turn (fun k => k = b) w w' (fun k => k = b)∧∀ k,docR vr' ds' k→docR vr ds k∨w.heap.size ≤ k
theorem drule_bad {w w' : World} {b:Nat} {c0 c1 va vr:Value} {ds:List DRule} {n:Str} {xs:List Str} {k:Nat} (hblk:w.heap[b]? = some (.cells #[c0,c1,va,vr] 193 (0,0))) (hR:DRulesAt w vr ds) (hb:Below w.heap.size w w') (he:ruleDE (ds.map (·.view)) n xs = k) (hk:k ≠ 0):DRuleOut w b c0 c1 va vr ds n xs (.returned (.int .i64 k)) w' :=
 ⟨by rw [he],vr,ds,(hb.block _ (Array.getElem?_eq_some_iff.1 hblk).1).trans hblk,hR.below hb,by rw [ruleDV,if_neg (by omega)],Turn.of_below hb,fun _ h => .inl h⟩
theorem rest_view (ds:List DRule) (n:Str):restD (ds.map (·.view)) n = (ds.filter fun d => !(d.name == n)).map (·.view):=by
 unfold restD
 rw [List.filter_map]
 rfl
theorem ins_view (lt:Str→Bool) (r:DRule) (l:List DRule):(insD (fun d:DRule => lt d.name) r l).map (·.view) = insD (fun d:DView => lt d.name) r.view (l.map (·.view)):=by
 induction l with
 | nil => rfl
 | cons d l ih =>
  simp only [insD,List.map_cons]
  have e:lt d.view.name = lt d.name:=rfl
  rw [e]
  by_cases h:lt d.name = true
  ·rw [if_pos h,if_pos h];rfl
  ·rw [if_neg h,if_neg h,List.map_cons,ih]
theorem ins_mem {T:Type} {lt:T→Bool} {r d:T}:∀ {l:List T},d ∈ insD lt r l→d = r∨d ∈ l
 | [],h => by simp [insD] at h;exact .inl h
 | x :: l,h => by
  simp only [insD] at h
  split at h
  ·simpa using h
  ·rw [List.mem_cons] at h
   rcases h with h | h
   ·exact .inr (by simp [h])
   ·exact (ins_mem h).imp id (fun h => List.mem_cons_of_mem _ h)
theorem ins_len {T:Type} (lt:T→Bool) (r:T) (l:List T):(insD lt r l).length = l.length + 1:=by
 induction l with
 | nil => rfl
 | cons d l ih => simp only [insD];split <;> simp [ih]
structure AccAt (b:Nat) (c0 c1 va:Value) (w8 W:World) (u:Value) (zs:List DRule):Prop where
 blk:W.heap[b]? = some (.cells #[c0,c1,va,u] 193 (0,0))
 row:W.ownsRow w8.heap.size 248 3 u zs.length (flatR zs)
 turn:Turn (fun k => k = b) w8 W (fun k => k = b)
theorem AccAt.nb {b:Nat} {c0 c1 va:Value} {w8 W:World} {u:Value} {zs:List DRule} (h:AccAt b c0 c1 va w8 W u zs) (hb:b < w8.heap.size):some b ≠ u.ownBlock:=fun e => by
 have:=(h.row.lt b e.symm).1
 omega
theorem acc_grow {b:Nat} {c0 c1 va:Value} {w8 W w' : World} {u:Value} {zs:List DRule} (h:AccAt b c0 c1 va w8 W u zs) (hb:b < w8.heap.size) (hg:W.grownBy w' u.ownBlock):w'.heap[b]? = some (.cells #[c0,c1,va,u] 193 (0,0)) :=
 (hg.block b (Array.getElem?_eq_some_iff.1 h.blk).1 (h.nb hb)).trans h.blk
theorem acc_push {b:Nat} {c0 c1 va:Value} {w8 W w' W2:World} {u v' : Value} {zs:List DRule} {d:DRule} (h:AccAt b c0 c1 va w8 W u zs) (hb:b < w8.heap.size) (hown:w'.ownsRow w8.heap.size 248 3 v' (zs.length + 1) (flatR zs ++ d.cells)) (hg:W.grownBy w' u.ownBlock) (hL:Like W2 (w'.setCell ⟨b,3,none⟩ v')):AccAt b c0 c1 va w8 W2 v' (zs ++ [d]):=by
 have hs:=setCell_set1 (i:=3) (acc_grow h hb hg) v'
 have hnv:∀ k,v'.ownBlock = some k→k ≠ b:=fun k hk e => by
  have:=(hown.lt k hk).1
  omega
 have hoth:∀ k,k ≠ b→W2.heap[k]? = w'.heap[k]?:=fun k hk => by rw [hL.heap];exact hs.other k hk
 refine ⟨by rw [hL.heap];exact hs.here,?_,?_⟩
 ·rw [flatR_app,List.length_append,List.length_singleton]
  exact rowKept hown fun k hk => hoth k (hnv k hk)
 ·refine ⟨hL.os.trans (hs.os.trans (hg.os.trans h.turn.os)),hL.tape.trans (hs.tape.trans (hg.tape.trans h.turn.tape)),hL.output.trans (hs.output.trans (hg.output.trans h.turn.output)),?_,?_,fun k hk => .inl hk⟩
  ·rw [hL.heap,hs.size];exact Nat.le_trans h.turn.size hg.size
  ·intro k hk hn
   have hnu:some k ≠ u.ownBlock:=fun e => by
    have:=(h.row.lt k e.symm).1
    omega
   exact (hoth k hn).trans ((hg.block k (Nat.lt_of_lt_of_le hk h.turn.size) hnu).trans (h.turn.blk k hk hn))
end Go.Proofs.YtdcbgfhkfmohiaaGreatDoor
