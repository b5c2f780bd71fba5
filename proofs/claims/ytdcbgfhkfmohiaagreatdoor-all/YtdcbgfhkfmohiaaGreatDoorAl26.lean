/- The law's step over stores with rules. -/
import Derived.Test.YtdcbgfhkfmohiaaGreatDoorAl25
import Derived.Deep.OwnRows
import Derived.Laws.CopyOwn
import Derived.Deep.RegionHeld3
namespace Go.Proofs.YtdcbgfhkfmohiaaGreatDoor
open Go.RowKit
def LawOutX (base:Nat) (w:World) (g:Nat) (m:Nat) (e:Ending) (w' : World):Prop:=e = .returned (.bool true)∧∃ v' Ds',LawAtX base w' g v' Ds' (m + 1)∧Ds' ≠ []∧Below base w w'
theorem LawAtX.turn {base:Nat} {w w' : World} {g:Nat} {v:Value} {Ds:List DuoX} {m k:Nat} {D' : DuoX} (h:LawAtX base w g v Ds m) (hk:k < Ds.length) (hD:DuoXAt w' D') (hS:DuoXStep w Ds[k] w' D'):LawAtX base w' g v (Ds.set k D') (m + 1)∧Below base w w':=by
 have hgl:g < w.heap.size:=(Array.getElem?_eq_some_iff.1 h.blk).1
 have hmem:Ds[k] ∈ Ds:=List.getElem_mem hk
 have hfr:=h.free _ hmem
 have hbase:base ≤ w.heap.size:=by have:=h.gb;omega
 have hoth:∀ j (hj:j < Ds.length),j ≠ k→∀ x,Ds[j].own x→¬ Ds[k].own x:=by
  intro j hj hne x h1 h2
  rcases Nat.lt_or_gt_of_ne hne with hlt | hgt
  ·exact (List.pairwise_iff_getElem.1 h.apart j k hj hk hlt) x h1 h2
  ·exact (List.pairwise_iff_getElem.1 h.apart k j hk hj hgt) x h2 h1
 have hnew:∀ x,D'.own x→x ≠ g∧v.ownBlock ≠ some x∧base ≤ x:=by
  intro x hx
  rcases hS.own x hx with h1 | h1
  ·exact hfr x h1
  ·exact ⟨by omega,fun e => by have:=(h.row.lt x e).2;omega,by omega⟩
 have hcross:∀ j (hj:j < Ds.length),j ≠ k→∀ x,Ds[j].own x→¬ D'.own x:=by
  intro j hj hne x h1 h2
  rcases hS.own x h2 with h3 | h3
  ·exact hoth j hj hne x h1 h3
  ·have:=(h.duos _ (List.getElem_mem hj)).own_lt h1;omega
 have hflat:flatX (Ds.set k D') = flatX Ds:=by
  unfold flatX
  have:(Ds.set k D').map (fun D:DuoX => [ptrV D.D.B.sb,ptrV D.D.b]) = Ds.map (fun D:DuoX => [ptrV D.D.B.sb,ptrV D.D.b]):=by
   rw [List.map_set]
   apply List.ext_getElem?
   intro i
   by_cases e:k = i
   ·subst e
    rw [List.getElem?_set_self (by simpa using hk),List.getElem?_map,List.getElem?_eq_getElem hk]
    simp [hS.sb,hS.b]
   ·rw [List.getElem?_set_ne e]
  rw [List.flatMap_def,List.flatMap_def,this]
 have hBel:Below base w w':=⟨hS.os,hS.tape,hS.output,hS.size,fun x hx => hS.blk x (by omega) (fun ho => by have:=(hfr x ho).2.2;omega)⟩
 refine ⟨⟨(hS.blk g hgl (fun ho => (hfr g ho).1 rfl)).trans h.blk,?_,?_,?_,?_,h.gb,?_,?_,h.mx.below hBel h.mb,h.mb⟩,hBel⟩
 ·rw [hflat,List.length_set]
  exact rowKept h.row (fun x hx => hS.blk x (h.row.lt x hx).2 (fun ho => (hfr x ho).2.1 hx))
 ·intro E hE
  obtain ⟨j,hj,rfl⟩:=List.getElem_of_mem hE
  rw [List.length_set] at hj
  by_cases e:k = j
  ·subst e;rw [List.getElem_set_self];exact hD
  ·rw [List.getElem_set_ne e]
   exact (h.duos _ (List.getElem_mem hj)).frame hS.size fun x hx => hS.blk x ((h.duos _ (List.getElem_mem hj)).own_lt hx) (hoth j hj (Ne.symm e) x hx)
 ·rw [List.pairwise_iff_getElem]
  intro i j hi hj hij x h1 h2
  rw [List.length_set] at hi hj
  by_cases e1:k = i
  ·subst e1
   rw [List.getElem_set_self] at h1
   rw [List.getElem_set_ne (by omega)] at h2
   exact hcross j hj (by omega) x h2 h1
  ·rw [List.getElem_set_ne e1] at h1
   by_cases e2:k = j
   ·subst e2
    rw [List.getElem_set_self] at h2
    exact hcross i hi (Ne.symm e1) x h1 h2
   ·rw [List.getElem_set_ne e2] at h2
    exact (List.pairwise_iff_getElem.1 h.apart i j hi hj hij) x h1 h2
 ·intro E hE x hx
  obtain ⟨j,hj,rfl⟩:=List.getElem_of_mem hE
  rw [List.length_set] at hj
  by_cases e:k = j
  ·subst e;rw [List.getElem_set_self] at hx;exact hnew x hx
  ·rw [List.getElem_set_ne e] at hx;exact h.free _ (List.getElem_mem hj) x hx
 ·intro E hE
  obtain ⟨j,hj,rfl⟩:=List.getElem_of_mem hE
  rw [List.length_set] at hj
  by_cases e:k = j
  ·subst e;rw [List.getElem_set_self];have:=hS.made;have:=h.made _ hmem;omega
  ·rw [List.getElem_set_ne e];have:=h.made _ (List.getElem_mem hj);omega
 ·rw [List.length_set];have:=h.len;omega
def AsksOkX (K Wn N M:Int) (S T:Str) (L:Value) (qs:List Str):Prop:=6 < K→K ≤ 11→∀ base D w,DuoXAt w D→D.D.r.made < 4611686018427387904→MaxOk w→base ≤ w.heap.size→(∀ k,D.own k→base ≤ k)→(∀ W,Below base w W→NamesAt W L qs)→Calls Tryz.prog 70 #[pairV D.D,opV K Wn N M S T L] w fun e w' => EditX w D e w'
set_option maxHeartbeats 4000000 in
set_option maxRecDepth 50000 in
theorem step_goX (base:Nat) (g:Nat) (v:Value) (Ds:List DuoX) (m:Nat) (K Wn N M:Int) (S T:Str) (L:Value) (w:World) (h:LawAtX base w g v Ds m) (hne:Ds ≠ []) (hm:m < 4000000000000) (hW:InI Wn) (hS:S.length + 1 < maxLen) (hT:T.length + 1 < maxLen) (h1:2 ≤ K) (h2:K ≤ 11) (qs:List Str) (hnm:∀ W,Below base w W→NamesAt W L qs) (hask:AsksOkX K Wn N M S T L qs) :
  Calls Tryz.prog 42 #[ptrV g,opV K Wn N M S T L] w fun e w' => LawOutX base w g m e w':=by
 have hpos:0 < Ds.length:=List.length_pos_iff.2 hne
 have hlen:=h.len
 have hpk:=pickN_lt Wn hpos
 obtain ⟨g',cap,rfl,hrowI⟩ : ∃ g' cap,v = .slice (some ⟨g',0,none⟩) Ds.length cap∧(∀ k (hk:k < Ds.length),w.cell? ⟨g',k * 2,none⟩ = some (ptrV Ds[k].D.B.sb)∧w.cell? ⟨g',k * 2 + 1,none⟩ = some (ptrV Ds[k].D.b)):=by
  rcases row_cells h.row with ⟨h3,h4⟩ | ⟨g',cap,h3,h4,_,h5,h6,h7⟩
  ·omega
  ·exact ⟨g',cap,h3,fun k hk => ⟨h7 _ _ (flatX_get Ds k hk).1,h7 _ _ (flatX_get Ds k hk).2⟩⟩
 have hcap:Ds.length ≤ cap∧cap ≤ maxLen∧g' < w.heap.size:=by
  rcases row_cells h.row with ⟨h3,h4⟩ | ⟨g2,cap2,h3,h4,_,h5,h6,h7⟩
  ·omega
  ·simp only [Value.slice.injEq,Option.some.injEq,Addr.mk.injEq] at h3
   obtain ⟨⟨rfl,_⟩,_,rfl⟩:=h3
   exact ⟨h5,h6,h4⟩
 obtain ⟨cp0,cp1⟩:=hrowI _ hpk
 have cg:w.cell? ⟨g,0,none⟩ = some (.slice (some ⟨g',0,none⟩) Ds.length cap):=(blk_cell h.blk 0).trans rfl
 have HNM0:Hid _:=hnm
 clear hnm
 have CP:Hid (∀ W,Calls Tryz.prog 41 #[.int .i64 Wn,.int .i64 (Ds.length:Int)] W fun e w' => e = .returned (.int .i64 (pickN Wn Ds.length:Int))∧w' = W):=fun W => pick_any Wn Ds.length W hW hpos (by omega)
 have HL:Hid _:=h
 have hgl:g < w.heap.size:=(Array.getElem?_eq_some_iff.1 h.blk).1
 have i1:¬ K = 1:=by omega
 have i2:¬ K < 2:=by omega
 have i3:¬ 11 < K:=by omega
 have i4:¬ (Ds.length:Int) = 0:=by omega
 have hi:(pickN Wn Ds.length:Int) < (Ds.length:Int):=by omega
 clear h hrowI
 generalize hkk:pickN Wn Ds.length = kk at *
 go_enter Tryz.func42,Tryz.ntmps42
 go_wp2_with fail
 go_cut [5] (fun pp wc => pp = ptrV (w.heap.size + 1)∧Below (w.heap.size + 1) (w.alloc (.cells #[.int .i64 K,.int .i64 Wn,.int .i64 N,.int .i64 M,SV S,SV T,L] 78)) wc∧wc.heap[w.heap.size + 1]? = some (.cells #[ptrV Ds[kk].D.B.sb,ptrV Ds[kk].D.b] 143 (0,0)))
 case first =>
  go_region_held3 (fun W:World => W.cell? ⟨g,0,none⟩ = some (.slice (some ⟨g',0,none⟩) Ds.length cap)∧W.cell? ⟨w.heap.size,1,none⟩ = some (.int .i64 Wn)∧W.cell? ⟨g',kk * 2,none⟩ = some (ptrV Ds[kk].D.B.sb)∧W.cell? ⟨g',kk * 2 + 1,none⟩ = some (ptrV Ds[kk].D.b)) (go_keep) (first | (go_at_call 41;refine (CP.out _).mono ?_;rintro e w2 ⟨rfl,rfl⟩))
  all_goals go_wp2_with fail
  all_goals go_meet
  all_goals
   refine ⟨rfl,⟨rfl,rfl,rfl,by simp,fun k hk => ?_⟩,?_⟩
   ·exact Below.heap_alloc (w.alloc _) _ _ (by simp;omega)
   ·have:=heap_alloc_new (w.alloc (.cells #[.int .i64 K,.int .i64 Wn,.int .i64 N,.int .i64 M,SV S,SV T,L] 78)) (.cells #[ptrV Ds[kk].D.B.sb,ptrV Ds[kk].D.b] 143)
    rw [show (w.alloc (.cells #[.int .i64 K,.int .i64 Wn,.int .i64 N,.int .i64 M,SV S,SV T,L] 78)).heap.size = w.heap.size + 1 from by simp] at this
    exact this
 case rest =>
  obtain ⟨rfl,hbc,hpc⟩:=hcut
  have hoc:wc.heap[w.heap.size]? = some (.cells #[.int .i64 K,.int .i64 Wn,.int .i64 N,.int .i64 M,SV S,SV T,L] 78 (0,0)):=(hbc.block _ (by omega)).trans (heap_alloc_new w _)
  have hbw:Below w.heap.size w wc:=((Below.refl w.heap.size w).alloc (Nat.le_refl _) _).trans (hbc.mono (by omega))
  have hLc:=HL.out.below hbw
  have hDk:=hLc.duos _ (List.getElem_mem hpk)
  have hmk:Ds[kk].D.r.made < 4611686018427387904:=by have:=hLc.made _ (List.getElem_mem hpk);omega
  have p0:wc.cell? ⟨w.heap.size + 1,0,none⟩ = some (ptrV Ds[kk].D.B.sb):=(blk_cell hpc 0).trans rfl
  have p1:wc.cell? ⟨w.heap.size + 1,1,none⟩ = some (ptrV Ds[kk].D.b):=(blk_cell hpc 1).trans rfl
  have o0:wc.cell? ⟨w.heap.size,0,none⟩ = some (.int .i64 K):=(blk_cell hoc 0).trans rfl
  have o1:wc.cell? ⟨w.heap.size,1,none⟩ = some (.int .i64 Wn):=(blk_cell hoc 1).trans rfl
  have o2:wc.cell? ⟨w.heap.size,2,none⟩ = some (.int .i64 N):=(blk_cell hoc 2).trans rfl
  have o3:wc.cell? ⟨w.heap.size,3,none⟩ = some (.int .i64 M):=(blk_cell hoc 3).trans rfl
  have o4:wc.cell? ⟨w.heap.size,4,none⟩ = some (SV S):=(blk_cell hoc 4).trans rfl
  have o5:wc.cell? ⟨w.heap.size,5,none⟩ = some (SV T):=(blk_cell hoc 5).trans rfl
  have o6:wc.cell? ⟨w.heap.size,6,none⟩ = some L:=(blk_cell hoc 6).trans rfl
  have HLc:Hid _:=hLc
  have HDk:Hid _:=hDk
  have HBW:Hid _:=hbw
  have HASK:Hid _:=hask
  have HNM:Hid (∀ W,Below base wc W→NamesAt W L qs):=fun W hW => HNM0.out W ((Below.mono hbw (by have:=HL.out.gb;omega)).trans hW)
  have HFR:Hid (∀ k,Ds[kk].own k→base ≤ k):=fun k hk => (HL.out.free _ (List.getElem_mem hpk) k hk).2.2
  have hbz:base ≤ wc.heap.size:=by have:=HL.out.gb;have:=hbw.size;omega
  clear hLc hDk hbw hbc hpc hoc cg cp0 cp1 hask
  have fin:Hid (∀ w3 D',DuoXAt w3 D'→DuoXStep wc Ds[kk] w3 D'→LawOutX base w g m (.returned (.bool true)) w3):=by
   intro w3 D' hD' hS'
   obtain ⟨h3,h4⟩:=HLc.out.turn hpk hD' hS'
   refine ⟨rfl,_,_,h3,?_,(Below.mono HBW.out (by have:=HL.out.gb;omega)).trans h4⟩
   intro e;have:=congrArg List.length e;rw [List.length_set] at this;simp at this;exact hne this
  by_cases h6:K ≤ 6
  ·have C:Hid (Calls Tryz.prog 69 #[pairV Ds[kk].D,opV K Wn N M S T L] wc fun e w' => EditX wc Ds[kk] e w'):=(edits_any Ds[kk].D K Wn N M S T L wc HDk.out.duo hmk hS hT).mono fun e w' h => EditX.of HDk.out h
   go_wp2_with fail
   refine C.out.mono ?_
   rintro e w3 ⟨rfl,D',hD',hS'⟩
   have R:=Hid.mk' (fin.out w3 D' hD' hS')
   clear hD' hS' C
   go_wp2
   go_ret
   exact R.out
  ·have C:Hid (Calls Tryz.prog 70 #[pairV Ds[kk].D,opV K Wn N M S T L] wc fun e w' => EditX wc Ds[kk] e w'):=HASK.out (by omega) h2 base Ds[kk] wc HDk.out hmk HLc.out.mx hbz HFR.out HNM.out
   go_wp2_with fail
   refine C.out.mono ?_
   rintro e w3 ⟨rfl,D',hD',hS'⟩
   have R:=Hid.mk' (fin.out w3 D' hD' hS')
   clear hD' hS' C
   go_wp2
   go_ret
   exact R.out
set_option maxHeartbeats 2000000 in
set_option maxRecDepth 50000 in
theorem step_madeX (base:Nat) (g:Nat) (v:Value) (Ds:List DuoX) (m:Nat) (Wn N M:Int) (S T:Str) (L:Value) (w:World) (h:LawAtX base w g v Ds m) (hne:Ds ≠ []) (hm:m < 4000000000000) :
  Calls Tryz.prog 42 #[ptrV g,opV 1 Wn N M S T L] w fun e w' => LawOutX base w g m e w':=by
 obtain ⟨w1,hw1⟩ : ∃ w1:World,w1 = w.alloc (.cells #[.int .i64 1,.int .i64 Wn,.int .i64 N,.int .i64 M,SV S,SV T,L] 78):=⟨_,rfl⟩
 have hb1:Below w.heap.size w w1:=by rw [hw1];exact (Below.refl _ _).alloc (Nat.le_refl _) _
 have hL1:=h.below hb1
 have hgb:=h.gb
 have hgl:g < w.heap.size:=(Array.getElem?_eq_some_iff.1 h.blk).1
 by_cases hN:N < 1∨200 < N
 ·have C:Hid (Calls Tryz.prog 40 #[ptrV g,.int .i64 N] w1 fun e w' => e = .returned (.bool true)∧w' = w1):=made_no g N w1 hN
  have R:Hid (LawOutX base w g m (.returned (.bool true)) w1):=⟨rfl,v,Ds,hL1.mono (Nat.le_succ _),hne,hb1.mono (by omega)⟩
  have HW:Hid _:=hw1
  clear h hb1 hL1 hN hw1
  go_enter Tryz.func42,Tryz.ntmps42
  go_wp2_with fail
  rw [← HW.out]
  refine C.out.mono ?_
  rintro e w2 ⟨rfl,rfl⟩
  clear HW C
  go_wp2
  go_ret
  exact R.out
 ·obtain ⟨c,rfl⟩ : ∃ c:Nat,N = (c:Int):=⟨N.toNat,by omega⟩
  have C:Hid (Calls Tryz.prog 40 #[ptrV g,.int .i64 (c:Int)] w1 fun e w' => MadeOutX base w1 g Ds m e w'):=made_yesX base g v Ds m c w1 hL1 (by omega) (by omega) (by have:=h.len;omega)
  have HB1:Hid (Below base w w1):=hb1.mono (by omega)
  have HW:Hid _:=hw1
  clear h hb1 hL1 hN hw1
  go_enter Tryz.func42,Tryz.ntmps42
  go_wp2_with fail
  rw [← HW.out]
  refine C.out.mono ?_
  rintro e w2 ⟨rfl,v',D,hL2,hb2⟩
  have R:Hid (LawOutX base w g m (.returned (.bool true)) w2):=⟨rfl,v',_,hL2,by simp,HB1.out.trans hb2⟩
  clear hL2 hb2 C HW
  go_wp2
  go_ret
  exact R.out
set_option maxHeartbeats 2000000 in
set_option maxRecDepth 50000 in
theorem step_noneX (base:Nat) (g:Nat) (v:Value) (Ds:List DuoX) (m:Nat) (K Wn N M:Int) (S T:Str) (L:Value) (w:World) (h:LawAtX base w g v Ds m) (hne:Ds ≠ []) (h1:K ≠ 1) (h2:K < 2∨11 < K) :
  Calls Tryz.prog 42 #[ptrV g,opV K Wn N M S T L] w fun e w' => LawOutX base w g m e w':=by
 have hb1:Below w.heap.size w (w.alloc (.cells #[.int .i64 K,.int .i64 Wn,.int .i64 N,.int .i64 M,SV S,SV T,L] 78)):=(Below.refl _ _).alloc (Nat.le_refl _) _
 have hgb:=h.gb
 have hgl:g < w.heap.size:=(Array.getElem?_eq_some_iff.1 h.blk).1
 have R:Hid (LawOutX base w g m (.returned (.bool true)) (w.alloc (.cells #[.int .i64 K,.int .i64 Wn,.int .i64 N,.int .i64 M,SV S,SV T,L] 78))):=⟨rfl,v,Ds,(h.below hb1).mono (Nat.le_succ _),hne,hb1.mono (by omega)⟩
 have hpos:0 < Ds.length:=List.length_pos_iff.2 hne
 have hlen:=h.len
 obtain ⟨g',cap,rfl⟩ : ∃ g' cap,v = .slice (some ⟨g',0,none⟩) Ds.length cap:=by
  rcases row_cells h.row with ⟨h3,h4⟩ | ⟨g',cap,h3,h4,_,h5,h6,h7⟩
  ·omega
  ·exact ⟨g',cap,h3⟩
 have cg:w.cell? ⟨g,0,none⟩ = some (.slice (some ⟨g',0,none⟩) Ds.length cap):=(blk_cell h.blk 0).trans rfl
 have i4:¬ (Ds.length:Int) = 0:=by omega
 clear h hb1
 by_cases h3:K < 2
 ·clear h2
  go_enter Tryz.func42,Tryz.ntmps42
  go_wp2
  go_ret
  exact R.out
 ·have h4:11 < K:=by omega
  clear h2
  go_enter Tryz.func42,Tryz.ntmps42
  go_wp2
  go_ret
  exact R.out
theorem step_anyX (base:Nat) (g:Nat) (v:Value) (Ds:List DuoX) (m:Nat) (K Wn N M:Int) (S T:Str) (L:Value) (w:World) (h:LawAtX base w g v Ds m) (hne:Ds ≠ []) (hm:m < 4000000000000) (hW:InI Wn) (hS:S.length + 1 < maxLen) (hT:T.length + 1 < maxLen) (qs:List Str) (hnm:∀ W,Below base w W→NamesAt W L qs) (hask:AsksOkX K Wn N M S T L qs) :
  Calls Tryz.prog 42 #[ptrV g,opV K Wn N M S T L] w fun e w' => LawOutX base w g m e w':=by
 by_cases h1:K = 1
 ·subst h1;exact step_madeX base g v Ds m Wn N M S T L w h hne hm
 ·by_cases h2:K < 2∨11 < K
  ·exact step_noneX base g v Ds m K Wn N M S T L w h hne h1 h2
  ·exact step_goX base g v Ds m K Wn N M S T L w h hne hm hW hS hT (by omega) (by omega) qs hnm hask

open Go.RowKit
theorem law_startX {w w1:World} (hm:MaxOk w) (hb:Below w.heap.size w w1) (h:w1.heap[w.heap.size]? = some (.cells #[.slice none 0 0] 75 (0,0))):LawAtX w.heap.size w1 w.heap.size (.slice none 0 0) [] 0 :=
 ⟨h,World.ownsRow_nil _ _ _ _,by simp,by simp,by simp,Nat.le_refl _,by simp,by simp,hm.later hb,hm.lt⟩
theorem LawAtX.slice {base:Nat} {w:World} {g:Nat} {v:Value} {Ds:List DuoX} {m:Nat} (h:LawAtX base w g v Ds m) (hne:Ds ≠ []):∃ g' cap,v = .slice (some ⟨g',0,none⟩) Ds.length cap:=by
 have hpos:0 < Ds.length:=List.length_pos_iff.2 hne
 rcases row_cells h.row with ⟨h3,h4⟩ | ⟨g',cap,h3,h4,_,h5,h6,h7⟩
 ·omega
 ·exact ⟨g',cap,h3⟩
set_option maxHeartbeats 4000000 in
set_option maxRecDepth 50000 in
theorem plays_someX (a:Addr) (len cap:Nat) (O:Nat→OpD) (c hi:Int) (w:World) (hmx:MaxOk w) (hO:∀ i,i < len→∀ j v,(O i).cells[j]? = some v→w.cell? ((a.add (i * 7)).add j) = some v) (hbl:0 < len→a.block < w.heap.size)
  (hok:∀ i,i < len→(O i).Ok) (hlen:len ≤ 2000000000000) (hc:InI c) (Q:Nat→List Str) (hnm:∀ i,i < len→NamesAt w (O i).L (Q i)) (hask:∀ i,i < len→(O i).K ≤ hi→AsksOkX (O i).K (O i).W (O i).N (O i).M (O i).S (O i).T (O i).L (Q i)) :
  Calls Tryz.prog 13 #[.slice (some a) len cap,.int .i64 c,.int .i64 hi] w fun e w' => e = .returned (.bool true)∧Below w.heap.size w w':=by
 have hpk:=pickN_lt c (n:=200) (by omega)
 have CP:Hid (∀ W,Calls Tryz.prog 41 #[.int .i64 c,.int .i64 200] W fun e w' => e = .returned (.int .i64 (pickN c 200:Int))∧w' = W):=fun W => pick_any c 200 W hc (by omega) (by omega)
 have HO:Hid _:=hO
 have HOK:Hid _:=hok
 have HASK:Hid _:=hask
 have HNM:Hid _:=hnm
 clear hO hok hask hnm
 obtain ⟨w1,hw1⟩ : ∃ w1:World,w1 = w.alloc (.cells #[.slice none 0 0] 75):=⟨_,rfl⟩
 have hL1:LawAtX w.heap.size w1 w.heap.size (.slice none 0 0) [] 0:=law_startX hmx (by rw [hw1];exact (Below.refl _ _).alloc (Nat.le_refl _) _) (by rw [hw1];exact heap_alloc_new _ _)
 have HB1:Hid (Below w.heap.size w w1):=by rw [Hid,hw1];exact (Below.refl _ _).alloc (Nat.le_refl _) _
 have CM:Hid (Calls Tryz.prog 40 #[ptrV w.heap.size,.int .i64 ((pickN c 200 + 1:Nat):Int)] w1 fun e w' => MadeOutX w.heap.size w1 w.heap.size [] 0 e w'):=made_yesX w.heap.size w.heap.size (.slice none 0 0) [] 0 (pickN c 200 + 1) w1 hL1 (by omega) (by omega) (by simp)
 have HW1:Hid _:=hw1
 clear hL1 hw1
 generalize pickN c 200 = pk at *
 go_enter Tryz.func13,Tryz.ntmps13
 go_wp2_with fail
 refine (CP.out _).mono ?_
 rintro e w2 ⟨rfl,rfl⟩
 go_wp2_with fail
 rw [← HW1.out,show (1 + (pk:Int)) = ((pk + 1:Nat):Int) from by omega]
 refine CM.out.mono ?_
 rintro e w3 ⟨rfl,v',D,hL3,hb3⟩
 rw [List.nil_append] at hL3
 obtain ⟨g3,cap3,rfl⟩:=hL3.slice (by simp)
 have cg3:w3.cell? ⟨w.heap.size,0,none⟩ = some (.slice (some ⟨g3,0,none⟩) 1 cap3):=(blk_cell hL3.blk 0).trans rfl
 have HL3:Hid _:=hL3
 have HB3:Hid (Below w.heap.size w w3):=HB1.out.trans hb3
 clear hL3 hb3 CM HW1 HB1 CP
 go_wp2
 go_loopw [9] (fun i wr => ∃ (k:Nat) (v:Value) (Ds:List DuoX),k ≤ len∧i = .int .i64 k∧LawAtX w.heap.size wr w.heap.size v Ds (k + 1)∧Ds ≠ []∧Below w.heap.size w wr) (fun i _ => len - (intOf i).toNat)
 case atStart => exact ⟨0,_,_,Nat.zero_le _,rfl,HL3.out,by simp,HB3.out⟩
 case round =>
  obtain ⟨k,v,Ds,hk,rfl,hL,hne,hb⟩:=hrel
  by_cases hlt:k < len
  ·have hidx:(k:Int) < (len:Int):=by omega
   have hcell:=HO.out k hlt
   have hw:=fun j v hv => (hb.cell (p:=(a.add (k * 7)).add j) (by rw [add_block,add_block];exact hbl (by omega))).trans (hcell j v hv)
   have HWc:Hid (∀ j v,(O k).cells[j]? = some v→wr.cell? ((a.add (k * 7)).add j) = some v):=hw
   have hc0:wr.cell? (a.add (k * 7)) = some (.int .i64 (O k).K):=by have:=hw 0 _ rfl;simpa [Addr.add] using this
   have hOk:=HOK.out k hlt
   have hsz:(Tryz.prog.info? 78).map (·.size) = some (O k).cells.length:=Tryz.sizeOp
   have HSZ:Hid _:=hsz
   by_cases hK:(O k).K ≤ hi
   ·have hAs:=HASK.out k hlt hK
    have C:Hid (Calls Tryz.prog 42 #[ptrV w.heap.size,.agg (O k).cells.toArray] wr fun e w' => LawOutX w.heap.size wr w.heap.size (k + 1) e w'):=step_anyX w.heap.size w.heap.size v Ds (k + 1) (O k).K (O k).W (O k).N (O k).M (O k).S (O k).T (O k).L wr hL hne (by omega) hOk.w hOk.s hOk.t (Q k) (fun W hW => names_below (HNM.out k hlt) (hb.trans hW) (Nat.le_refl _)) hAs
    have HB:Hid _:=hb
    clear hcell hw hAs hL hb hOk hsz cg3 HL3
    go_wp2_with (first | (refine wpList_load_cells rfl 78 (.tmp 44) rfl (a.add (k * 7)) rfl (O k).cells _ HWc.out Tryz.underlying78 rfl HSZ.out ?_;generalize hcs:(O k).cells.toArray = CS at *) | (go_at_call 42;refine C.out.mono ?_;rintro e w5 ⟨rfl,v5,D5,hL5,hne5,hb5⟩;have HL5:=Hid.mk' hL5;have HB5:=Hid.mk' hb5;clear hL5 hb5))
    go_round
    case rel => exact ⟨k + 1,v5,D5,by omega,by go_num,HL5.out,hne5,HB.out.trans HB5.out⟩
    case measure => simp [intOf];omega
   ·have HL:Hid _:=hL
    have HB:Hid _:=hb
    clear hcell hw hL hb hOk hsz cg3 HL3
    go_wp2
    go_round
    case rel => exact ⟨k + 1,v,Ds,by omega,by go_num,HL.out.mono (by omega),hne,HB.out⟩
    case measure => simp [intOf];omega
  ·have HB:Hid _:=hb
   clear hL hb cg3 HL3
   go_wp2
   go_ret
   exact ⟨rfl,HB.out⟩
set_option maxHeartbeats 1000000 in
theorem all_law {v0:Value} {c:Int} {w:World} (h:Calls Tryz.prog 13 #[v0,.int .i64 c,.int .i64 11] w fun e w' => e = .returned (.bool true)∧Below w.heap.size w w') :
  Calls Tryz.prog 12 #[v0,.int .i64 c] w fun e w' => e = .returned (.bool true)∧Below w.heap.size w w':=by
 have C:Hid _:=h
 clear h
 go_enter Tryz.func12,Tryz.ntmps12
 go_wp2_with fail
 refine Calls.mono (show Calls _ _ _ _ _ from C.out) ?_
 rintro e w1 ⟨rfl,hb⟩
 have HB:Hid _:=hb
 clear hb C
 go_wp2
 go_ret
 exact ⟨rfl,HB.out⟩

open Go.RowKit
def StrsIn (w:World) (g:Nat) (ys:List Str):Prop:=w.heap[g]? = some (.cells (ys.map SV).toArray 9 (0,0))
theorem StrsIn.lt {w:World} {g:Nat} {ys:List Str} (h:StrsIn w g ys):g < w.heap.size:=(Array.getElem?_eq_some_iff.1 h).1
theorem StrsIn.free {w:World} {g:Nat} {ys:List Str} (h:StrsIn w g ys) (k:Nat):w.frozen? ⟨g,k,none⟩ = false:=blk_free h k
theorem StrsIn.cell {w:World} {g:Nat} {ys:List Str} (h:StrsIn w g ys) {k:Nat} {x:Str} (hk:ys[k]? = some x):w.cell? ⟨g,k,none⟩ = some (SV x):=by
 rw [blk_cell h k]
 simp [hk]
theorem StrsIn.set {w:World} {g:Nat} {ys:List Str} (h:StrsIn w g ys) (k:Nat) (x:Str):StrsIn (w.setCell ⟨g,k,none⟩ (SV x)) g (ys.set k x):=by
 have:=(setCell_set1 (i:=k) h (SV x)).here
 unfold StrsIn
 rw [this]
 simp [List.map_set]
theorem StrsIn.kept {w w' : World} {g:Nat} {ys:List Str} (h:StrsIn w g ys) (hb:w'.heap[g]? = w.heap[g]?):StrsIn w' g ys:=hb.trans h
theorem StrsIn.names {w:World} {g n m:Nat} {ys xs:List Str} (h:StrsIn w g ys) (hx:ys.take n = xs) (hn:xs.length = n) (hm:ys.length = m) (hl:m ≤ maxLen):NamesAt w (.slice (some ⟨g,0,none⟩) n m) xs:=by
 have hle:n ≤ m:=by
  have:=congrArg List.length hx
  rw [List.length_take] at this
  omega
 subst hn
 refine ⟨some ⟨g,0,none⟩,m,rfl,hle,hl,fun k hk => ⟨g,0,rfl,h.lt,?_⟩⟩
 rw [Nat.zero_add]
 refine h.cell ?_
 have h1:(ys.take xs.length)[k]? = some xs[k]:=by rw [hx];exact List.getElem?_eq_getElem hk
 rw [List.getElem?_take_of_lt hk] at h1
 exact h1
theorem make_strs (n m:Nat) (hm:m = n + 8) (hn:n ≤ 9000000000000) (W:World):∃ W',(Instr.makeSlice 48 (.int .i64 ((n:Int) + 8)) (.int .i64 ((n:Int) + 8))).run Tryz.prog W = .ok (.slice (some ⟨W.heap.size,0,none⟩) m m) W'∧W'.heap[W.heap.size]? = some (.cells (List.replicate m (SV [])).toArray 9 (0,0))∧Below W.heap.size W W':=by
 have h:=run_make_row' (P:=Tryz.prog) 48 9 (SV []) 16 Tryz.underlying48 Tryz.infoStr rfl .i64 .i64 m (by omega) (by omega) W
 have e:((n:Int) + 8) = (m:Int):=by omega
 rw [e]
 refine ⟨_,h,?_,(Below.refl _ W).alloc (Nat.le_refl _) _⟩
 rw [heap_alloc_new]
 have e2:madeCells #[SV []] m = (List.replicate m (SV [])).toArray:=by
  apply Array.ext'
  simp [madeCells,Nat.mod_one,List.map_const']
 rw [e2]
theorem names_copy {w:World} {ao:Option Addr} {n cap:Nat} {qs:List Str} (h:NamesAt w (.slice ao n cap) qs) (h0:0 < (qs.map SV).length):∃ ad,ao = some ad∧∀ j v,(qs.map SV)[j]? = some v→w.cell? (ad.add j) = some v:=by
 obtain ⟨ao',cap',he,_,_,hc⟩:=h
 simp only [Value.slice.injEq] at he
 obtain ⟨rfl,-,-⟩:=he
 rw [List.length_map] at h0
 obtain ⟨g,o,e,_,_⟩:=hc 0 h0
 refine ⟨⟨g,o,none⟩,e,fun j v hv => ?_⟩
 rw [List.getElem?_map] at hv
 have hj:j < qs.length:=by
  by_cases hj:j < qs.length
  ·exact hj
  ·rw [List.getElem?_eq_none (by omega)] at hv;simp at hv
 rw [List.getElem?_eq_getElem hj] at hv
 obtain ⟨g2,o2,e2,_,h2⟩:=hc j hj
 rw [e] at e2
 simp only [Option.some.injEq,Addr.mk.injEq] at e2
 obtain ⟨rfl,rfl,-⟩:=e2
 have ha:(⟨g,o,none⟩ : Addr).add j = ⟨g,o + j,none⟩:=by
  unfold Addr.add
  by_cases h:j = 0
  ·rw [if_pos h,h,Nat.add_zero]
  ·rw [if_neg h]
 rw [ha,h2]
 simpa using hv
abbrev beyS:Str:=[98,101,121,111,110,100]
abbrev mineS:Str:=[114,101,97,100,32,109,105,110,101]
def rowB (qs:List Str) (k:Nat):List Str:=qs ++ (List.replicate k beyS ++ List.replicate (8 - k) [])
theorem rowB_len {qs:List Str} {k:Nat} (hk:k ≤ 8):(rowB qs k).length = qs.length + 8:=by simp [rowB];omega
theorem rowB_set {qs:List Str} {k:Nat} (hk:k < 8):(rowB qs k).set (qs.length + k) beyS = rowB qs (k + 1):=by
 unfold rowB
 rw [List.set_append_right _ _ (by omega),show qs.length + k - qs.length = k from by omega,List.set_append_right _ _ (by simp),List.length_replicate,Nat.sub_self,show 8 - k = (8 - (k + 1)) + 1 from by omega,List.replicate_succ,List.set_cons_zero,List.replicate_succ' (n:=k),List.append_assoc]
 rfl
theorem rowB_at {qs:List Str} {k:Nat} (hk:k < 8):(rowB qs k)[qs.length + k]? = some []:=by
 unfold rowB
 rw [List.getElem?_append_right (by omega),show qs.length + k - qs.length = k from by omega,List.getElem?_append_right (by simp),List.length_replicate,Nat.sub_self,List.getElem?_replicate_of_lt (by omega)]
theorem rowB_take {qs:List Str} {k:Nat}:(rowB qs k).take qs.length = qs:=by unfold rowB;rw [List.take_left' rfl]
theorem rowB_low {qs:List Str} {j k:Nat} (hj:j < qs.length):(rowB qs k)[j]? = some qs[j]:=by
 unfold rowB
 rw [List.getElem?_append_left hj,List.getElem?_eq_getElem hj]
theorem rowB_high {qs:List Str} {j:Nat} (h1:qs.length ≤ j) (h2:j < qs.length + 8):(rowB qs 8)[j]? = some beyS:=by
 unfold rowB
 rw [List.getElem?_append_right h1,List.getElem?_append_left (by simp;omega),List.getElem?_replicate_of_lt (by omega)]
def rowM (qs:List Str) (k:Nat):List Str:=List.replicate k mineS ++ (rowB qs 8).drop k
theorem rowM_at {qs:List Str} {k:Nat}:(rowM qs k)[k]? = (rowB qs 8)[k]?:=by
 unfold rowM
 rw [List.getElem?_append_right (by simp),List.length_replicate,Nat.sub_self,List.getElem?_drop,Nat.add_zero]
theorem rowM_set {qs:List Str} {k:Nat} (hk:k < qs.length + 8):(rowM qs k).set k mineS = rowM qs (k + 1):=by
 have hl:k < (rowB qs 8).length:=by rw [rowB_len (Nat.le_refl _)];exact hk
 unfold rowM
 rw [List.set_append_right _ _ (by simp),List.length_replicate,Nat.sub_self,List.drop_eq_getElem_cons hl,List.set_cons_zero,List.replicate_succ' (n:=k),List.append_assoc]
 rfl
theorem splice_row {qs:List Str} {m:Nat} (hm:m = qs.length + 8):splice (List.replicate m (SV [])) 0 (qs.map SV) = (rowB qs 0).map SV:=by
 subst hm
 simp [splice,rowB]
theorem DuoXStep.after {w w7 w8:World} {X X' : DuoX} {g:Nat} (hs:DuoXStep w X w7 X') (hX:DuoXAt w7 X') (hg:w.heap.size ≤ g) (hn:¬ X'.own g) (hT:Turn (fun k => k = g) w7 w8 (fun k => k = g)):DuoXAt w8 X'∧DuoXStep w X w8 X' :=
 ⟨hX.frame hT.size fun k hk => hT.blk k (hX.own_lt hk) fun e => hn (e ▸ hk),⟨hT.os.trans hs.os,hT.tape.trans hs.tape,hT.output.trans hs.output,Nat.le_trans hs.size hT.size,fun k h1 h2 => (hT.blk k (Nat.lt_of_lt_of_le h1 hs.size) (by omega)).trans (hs.blk k h1 h2),hs.own,hs.sb,hs.b,hs.made⟩⟩
theorem Turn.setCell {W w:World} {g k:Nat} {v:Value} (h:Turn (fun j => j = g) w W (fun j => j = g)):Turn (fun j => j = g) w (W.setCell ⟨g,k,none⟩ v) (fun j => j = g) :=
 ⟨h.os,h.tape,h.output,by simpa [World.setCell] using h.size,fun j h1 h2 => (Below.heap_setCell _ _ _ _ h2).trans (h.blk j h1 h2),h.own⟩

open Go.RowKit
theorem docRule {w w2:World} {X:DuoX} {Rs' : List RuleP} {nm:Str} {qs:List Str} {qv:Value} (h:DuoXAt w X) (hp:ProgTurn w X w2 Rs' (ruleDV (X.ds.map (·.view)) nm qs)) (hN:NamesAt w2 qv qs) (hl:nm.length ≤ maxLen) (hq:∀ x ∈ qs,x.length + 1 < maxLen) :
  Calls Tryz.prog 141 #[.pointer (some ⟨X.D.b,0,none⟩),SV nm,qv] w2 fun e w3 => e = .returned (.int .i64 (ruleDE (X.ds.map (·.view)) nm qs))∧∃ X',DuoXAt w3 X'∧DuoXStep w X w3 X' :=
 (refRule_any X.D.b (.int .i64 X.D.r.limit) (.int .i64 X.D.r.made) X.D.va X.D.vr X.ds nm qs qv w2 (hp.ref h).blk (hp.doc h) (fun hb => h.outD _ (.inr hb) (.inr (.inl rfl))) hN hl hq).mono fun _ _ hO => docRule_of h hp hO

open Go.RowKit
attribute [local go_sem] Oper.semAt_some
def QOk (qs:List Str):Prop:=qs.length ≤ 9000000000000∧∀ q ∈ qs,q.length + 1 < maxLen
set_option maxHeartbeats 2000000 in
set_option maxRecDepth 50000 in
theorem ruled_any (X:DuoX) (Wn N M:Int) (S T:Str) (L:Value) (qs:List Str) (base:Nat) (w:World) (hX:DuoXAt w X) (hmx:MaxOk w) (hbz:base ≤ w.heap.size) (hfr:∀ k,X.own k→base ≤ k) (hnm:∀ W,Below base w W→NamesAt W L qs) (hS:S.length ≤ maxLen) (hQ:QOk qs) :
  Calls Tryz.prog 105 #[pairV X.D,opV 10 Wn N M S T L] w fun e w' => EditX w X e w':=by
 obtain ⟨w1,hw1,hA1,hb1,hsz1⟩:=args_box w X.D 10 Wn N M S T L
 obtain ⟨ao,cap,rfl,hcl,hcm,-⟩:=id (hnm w (Below.refl _ _))
 obtain ⟨n,hn⟩ : ∃ n,qs.length = n:=⟨_,rfl⟩
 obtain ⟨m,hm⟩ : ∃ m,m = n + 8:=⟨_,rfl⟩
 have HQ:=Hid.mk' hQ.2
 have hq1:n ≤ 9000000000000:=hn ▸ hQ.1
 rw [hn] at hnm hcl hA1 hw1 ⊢
 obtain ⟨w2,mk1,hg2,hb2⟩:=make_strs n m hm hq1 w1
 obtain ⟨g,hg⟩ : ∃ g,w1.heap.size = g:=⟨_,rfl⟩
 have HG:=Hid.mk' (show g = w.heap.size + 2 by rw [← hg];exact hsz1)
 rw [hg] at mk1 hg2 hb2 hsz1
 have HB2:Hid (Below g w1 w2):=hb2
 have HG2:=Hid.mk' hg2
 have HX:=Hid.mk' hX
 have HMX:=Hid.mk' hmx
 have HFR:=Hid.mk' hfr
 have HNM:=Hid.mk' hnm
 have HA1:=Hid.mk' hA1
 have HB1:=Hid.mk' hb1
 have HW1:=Hid.mk' hw1
 have HN:=Hid.mk' hn
 have HM:=Hid.mk' hm
 have hmi:(n:Int) ≤ (m:Int):=by omega
 have hm0:¬ m = 0:=by omega
 have o6:w1.cell? ⟨w.heap.size + 1,6,none⟩ = some (.slice ao n cap):=(blk_cell hA1.op 6).trans rfl
 have o6' : w2.cell? ⟨w.heap.size + 1,6,none⟩ = some (.slice ao n cap):=(hb2.cell (p:=⟨w.heap.size + 1,6,none⟩) (by show w.heap.size + 1 < g;omega)).trans o6
 have NC:Hid (0 < (qs.map SV).length→(some (⟨g,0,none⟩ : Addr)) = some ⟨g,0,none⟩∧∃ ad,ao = some ad∧∀ j v,(qs.map SV)[j]? = some v→w2.cell? (ad.add j) = some v):=fun h0 => ⟨rfl,names_copy (hnm w2 ((hb1.mono hbz).trans (hb2.mono (by omega)))) h0⟩
 have HLE:Hid ((qs.map SV).length = Nat.min n m):=by rw [Hid,List.length_map,hn];exact (Nat.min_eq_left (by omega)).symm
 have HFIT:Hid (0 + (qs.map SV).length ≤ (List.replicate m (SV [])).length):=by rw [Hid,List.length_map,List.length_replicate,hn];omega
 have HONE:Hid (∀ v ∈ qs.map SV,v.oneCell' = true):=by
  intro v hv
  obtain ⟨x,-,rfl⟩:=List.mem_map.1 hv
  rfl
 clear hX hmx hfr hnm hA1 hb1 hw1 hn hm hb2 hg2 hQ hg hsz1
 go_enter Tryz.func105,Tryz.ntmps105
 go_upto_region 1 with fail
 rw [← HW1.out]
 go_wp2_with (refine wpList_copy_splice rfl (.tmp 16) (.tmp 18) 48 48 rfl 9 Tryz.underlying48 (by kernel_rfl) (some ⟨g,0,none⟩) ao m m n cap rfl rfl g 0 (List.replicate m (SV [])) 9 HG2.out (qs.map SV) HLE.out NC.out HFIT.out HONE.out g w1 HB2.out (Nat.le_refl _) ?_;intro w3 hg3 hb3;have HB3:=Hid.mk' hb3;clear hb3)
 have HR3:Hid (StrsIn w3 g (rowB qs 0)):=by
  have h:=hg3.out
  rw [splice_row (by rw [HN.out];exact HM.out)] at h
  exact h
 clear hg3 mk1 o6'
 go_loopw [6] (fun i wr => ∃ k:Nat,k ≤ 8∧i = .int .i64 k∧StrsIn wr g (rowB qs k)∧Below g w1 wr) (fun i _ => 8 - (intOf i).toNat)
 case atStart => exact ⟨0,Nat.zero_le _,rfl,HR3.out,HB3.out⟩
 case round =>
  obtain ⟨k,hk,rfl,hr,hb⟩:=hrel
  have o6r:wr.cell? ⟨w.heap.size + 1,6,none⟩ = some (.slice ao n cap):=(hb.cell (p:=⟨w.heap.size + 1,6,none⟩) (by show w.heap.size + 1 < g;have:=HG.out;omega)).trans o6
  clear HR3 HB3
  by_cases hlt:k < 8
  ·have hki:(k:Int) < 8:=by omega
   have hnk:(n:Int) + (k:Int) < (m:Int):=by have:=HM.out;omega
   have hc:wr.cell? ⟨g,n + k,none⟩ = some (SV []):=hr.cell (by rw [← HN.out];exact rowB_at hlt)
   have hf:wr.frozen? ⟨g,n + k,none⟩ = false:=hr.free _
   have HS:Hid (StrsIn (wr.setCell ⟨g,n + k,none⟩ (SV beyS)) g (rowB qs (k + 1))):=by
    have h:=hr.set (n + k) beyS
    rw [← HN.out,rowB_set hlt,HN.out] at h
    exact h
   have HBs:Hid (Below g w1 (wr.setCell ⟨g,n + k,none⟩ (SV beyS))):=hb.setCell (p:=⟨g,n + k,none⟩) (Nat.le_refl _) _
   clear hr hb
   go_wp2
   go_roundw
   case rel => exact ⟨k + 1,by omega,by go_num,HS.out,HBs.out⟩
   case measure => simp [intOf];omega
  ·obtain rfl:k = 8:=by omega
   clear hlt hk o6
   have hsg:g < wr.heap.size:=hr.lt
   have hgw:=HG.out
   have hb5d:Below w.heap.size w wr.drew:=(HB1.out.trans (hb.mono (by omega))).trans ((⟨rfl,rfl,rfl,rfl⟩ : Like wr.drew wr).below _)
   have HXD:=Hid.mk' (HX.out.below hb5d)
   have hNd:NamesAt wr.drew (.slice (some ⟨g,0,none⟩) n m) qs:=StrsIn.names (show StrsIn wr.drew g (rowB qs 8) from hr) (by rw [← HN.out];exact rowB_take) HN.out (by rw [rowB_len (Nat.le_refl _),HN.out,HM.out]) (by have:=HM.out;unfold maxLen;omega)
   have C:=Hid.mk' (progRule HXD.out hNd (HMX.out.later hb5d) hS)
   obtain ⟨rv,hrv⟩ : ∃ rv,ruleDE (X.ds.map (·.view)) S qs = rv:=⟨_,rfl⟩
   have HRV:=Hid.mk' hrv
   rw [hrv] at C
   clear hrv
   have hp0:=(hb.block w.heap.size (by omega)).trans HA1.out.pair
   have ho0:=(hb.block (w.heap.size + 1) (by omega)).trans HA1.out.op
   have p0:wr.cell? ⟨w.heap.size,0,none⟩ = some (ptrV X.D.B.sb):=(blk_cell hp0 0).trans rfl
   have o4:wr.cell? ⟨w.heap.size + 1,4,none⟩ = some (SV S):=(blk_cell ho0 4).trans rfl
   -- what a turn of the pair alone leaves standing
   have KEEP:Hid (∀ W,wr.heap.size ≤ W.heap.size→(∀ j,j < wr.heap.size→¬ X.own j→W.heap[j]? = wr.heap[j]?)→StrsIn W g (rowB qs 8)∧W.heap[w.heap.size]? = some (.cells #[ptrV X.D.B.sb,ptrV X.D.b] 143 (0,0))∧W.heap[w.heap.size + 1]? = some (.cells #[.int .i64 10,.int .i64 Wn,.int .i64 N,.int .i64 M,SV S,SV T,.slice ao n cap] 78 (0,0))∧w.heap.size + 2 < W.heap.size):=fun W h1 h2 => by
    have ho:∀ j,w.heap.size ≤ j→¬ X.own j:=fun j hj h => by have:=HX.out.own_lt h;omega
    exact ⟨hr.kept (h2 g hsg (ho g (by omega))),(h2 _ (by omega) (ho _ (by omega))).trans hp0,(h2 _ (by omega) (ho _ (by omega))).trans ho0,by omega⟩
   have KP:Hid (∀ W Rs' D',ProgTurn wr.drew X W Rs' D'→W.cell? ⟨w.heap.size,0,none⟩ = some (ptrV X.D.B.sb)∧W.cell? ⟨w.heap.size + 1,4,none⟩ = some (SV S)∧W.cell? ⟨w.heap.size + 1,6,none⟩ = some (.slice ao n cap)):=fun W Rs' D' hp => by
    obtain ⟨-,h1,h2,-⟩:=KEEP.out W hp.turn.size (fun j h1 h2 => hp.turn.blk j h1 fun h3 => h2 (.inr (.inl (.inl h3))))
    exact ⟨(blk_cell h1 0).trans rfl,(blk_cell h2 4).trans rfl,(blk_cell h2 6).trans rfl⟩
   have HBD:=Hid.mk' hb5d
   clear hr hb hb5d hNd hp0 ho0 hgw
   go_upto_region 7 with fail
   go_region_held3 (fun W:World => W.cell? ⟨w.heap.size,0,none⟩ = some (ptrV X.D.B.sb)∧W.cell? ⟨w.heap.size + 1,4,none⟩ = some (SV S)∧W.cell? ⟨w.heap.size + 1,6,none⟩ = some (.slice ao n cap)) (first | assumption | go_keep) (first | (go_at_call 37;refine Calls.mono (show Calls _ _ _ _ _ from C.out) ?_;rintro e w6 ⟨rfl,Rs',hp⟩;have hS6:=KP.out _ _ _ hp;have HP:=Hid.mk' hp;clear hp))
   obtain ⟨-,hp6,ho6,hz6⟩:=KEEP.out w6 HP.out.turn.size (fun j h1 h2 => HP.out.turn.blk j h1 fun h3 => h2 (.inr (.inl (.inl h3))))
   have p1:w6.cell? ⟨w.heap.size,1,none⟩ = some (ptrV X.D.b):=(blk_cell hp6 1).trans rfl
   have BEL6:Below base w w6:=(HBD.out.mono hbz).trans ⟨HP.out.turn.os,HP.out.turn.tape,HP.out.turn.output,HP.out.turn.size,fun j hj => HP.out.turn.blk j (by show j < wr.heap.size;have:=HG.out;omega) fun h3 => by have:=HFR.out j (.inr (.inl (.inl h3)));omega⟩
   have CR:=Hid.mk' (docRule HXD.out HP.out (HNM.out w6 BEL6) hS HQ.out)
   rw [HRV.out] at CR
   obtain ⟨-,q4,q6⟩:=hS6
   clear hp6 ho6 C KP p0 o4 o6r BEL6
   go_wp2_with fail
   refine Calls.mono (show Calls _ _ _ _ _ from CR.out) ?_
   rintro e w7 ⟨rfl,X',h1,h2⟩
   obtain ⟨hr7,-,ho7,hz7⟩:=KEEP.out w7 h2.size h2.blk
   have HN7:Hid (¬ X'.own g):=fun h => (h2.own g h).elim (fun h3 => by have:=HX.out.own_lt h3;have:=HG.out;omega) (fun h3 => by have h3:wr.heap.size ≤ g:=h3;omega)
   have HB7:Hid (Below base w w7):=(HBD.out.mono hbz).trans ⟨h2.os,h2.tape,h2.output,h2.size,fun j hj => h2.blk j (by show j < wr.heap.size;have:=HG.out;omega) fun h3 => by have:=HFR.out j h3;omega⟩
   have HX7:=Hid.mk' h1
   have HS7:=Hid.mk' (DuoXStep.before HBD.out h2)
   have HR7:=Hid.mk' hr7
   have HO7:=Hid.mk' ho7
   have hgb:base ≤ g:=by have:=HG.out;omega
   clear h1 h2 CR hr7 ho7 p1 q4 q6 KEEP HP HXD HBD
   go_wp2
   go_loopw [9] (fun i wr => ∃ k:Nat,k ≤ m∧i = .int .i64 k∧StrsIn wr g (rowM qs k)∧Turn (fun j => j = g) w7 wr (fun j => j = g)) (fun i _ => m - (intOf i).toNat)
   case atStart => exact ⟨0,Nat.zero_le _,rfl,HR7.out,Turn.refl _ _⟩
   case round =>
    obtain ⟨k,hk,rfl,hr,hT⟩:=hrel
    have o6r:wr.cell? ⟨w.heap.size + 1,6,none⟩ = some (.slice ao n cap):=(blk_cell ((hT.blk (w.heap.size + 1) (by omega) (by have:=HG.out;omega)).trans HO7.out) 6).trans rfl
    have hsw:w.heap.size + 2 < wr.heap.size:=by have:=hT.size;omega
    by_cases hlt:k < m
    ·have hki:(k:Int) < (m:Int):=by omega
     have hkb:k < 9000000000009:=by have:=HM.out;omega
     have HSE:Hid (StrsIn (wr.setCell ⟨g,k,none⟩ (SV mineS)) g (rowM qs (k + 1))):=by
      have h:=hr.set k mineS
      rw [rowM_set (by rw [HN.out,← HM.out];exact hlt)] at h
      exact h
     have HTE:=Hid.mk' (hT.setCell (k:=k) (v:=SV mineS))
     have hf:wr.frozen? ⟨g,k,none⟩ = false:=hr.free _
     by_cases hln:k < n
     ·have hli:(k:Int) < (n:Int):=by omega
      have BW:Below base w wr:=HB7.out.trans ⟨hT.os,hT.tape,hT.output,hT.size,fun j hj => hT.blk j (by omega) (by omega)⟩
      obtain ⟨ao',cap',he,_,_,hcc⟩:=HNM.out wr BW
      simp only [Value.slice.injEq] at he
      obtain ⟨rfl,-,rfl⟩:=he
      obtain ⟨gq,oq,rfl,hgq,hcq⟩:=hcc k (by rw [HN.out];exact hln)
      have cl:wr.cell? ⟨g,k,none⟩ = some (SV (qs[k]'(by rw [HN.out];exact hln))):=hr.cell (by rw [rowM_at,rowB_low])
      obtain ⟨x,hx⟩ : ∃ x,qs[k]'(by rw [HN.out];exact hln) = x:=⟨_,rfl⟩
      rw [hx] at cl hcq
      clear hx hcc BW hr hT hln
      go_wp2
      go_roundw
      case rel => exact ⟨k + 1,by omega,by go_num,HSE.out,HTE.out⟩
      case measure => simp [intOf];omega
     ·have hli:¬ (k:Int) < (n:Int):=by omega
      have cl:wr.cell? ⟨g,k,none⟩ = some (SV beyS):=hr.cell (by rw [rowM_at,rowB_high (by rw [HN.out];omega) (by rw [HN.out,← HM.out];exact hlt)])
      clear hr hT hln
      go_wp2
      go_roundw
      case rel => exact ⟨k + 1,by omega,by go_num,HSE.out,HTE.out⟩
      case measure => simp [intOf];omega
    ·have hki:¬ (k:Int) < (m:Int):=by omega
     have RR:=Hid.mk' (HS7.out.after HX7.out (by have:=HG.out;omega) HN7.out hT)
     clear hr hT HS7 HX7
     go_wp2_with (go_at_call 68;refine (num_any _ _).mono ?_;rintro e w9 ⟨rfl,rfl⟩)
     go_ret
     exact ⟨by first | rfl | simp,X',RR.out⟩
end Go.Proofs.YtdcbgfhkfmohiaaGreatDoor

namespace Go.Proofs.YtdcbgfhkfmohiaaGreatDoor
open Go.RowKit
set_option maxHeartbeats 4000000 in
set_option maxRecDepth 50000 in
theorem asks_rule (X:DuoX) (Wn N M:Int) (S T:Str) (L:Value) (qs:List Str) (base:Nat) (w:World) (hX:DuoXAt w X) (hmx:MaxOk w) (hbz:base ≤ w.heap.size) (hfr:∀ k,X.own k→base ≤ k) (hnm:∀ W,Below base w W→NamesAt W L qs) (hS:S.length ≤ maxLen) (hQ:QOk qs) :
  Calls Tryz.prog 70 #[pairV X.D,opV 10 Wn N M S T L] w fun e w' => EditX w X e w':=by
 obtain ⟨w1,hw1,hA1,hb1,hsz1⟩:=args_box w X.D 10 Wn N M S T L
 have C:Hid (Calls Tryz.prog 105 #[pairV X.D,opV 10 Wn N M S T L] w1 fun e w' => EditX w1 X e w'):=ruled_any X Wn N M S T L qs base w1 (hX.below hb1) (hmx.later hb1) (Nat.le_trans hbz hb1.size) hfr (fun W hW => hnm W ((hb1.mono hbz).trans hW)) hS hQ
 have HB1:=Hid.mk' hb1
 have HW1:=Hid.mk' hw1
 clear hA1 hb1 hw1 hX hmx hfr hnm hQ
 go_enter Tryz.func70,Tryz.ntmps70
 go_wp2_with fail
 rw [← HW1.out]
 refine Calls.mono (show Calls _ _ _ _ _ from C.out) ?_
 rintro e w2 ⟨rfl,X',h1,h2⟩
 have RR:Hid (EditX w X (.returned (.bool true)) w2):=⟨rfl,X',h1,DuoXStep.before HB1.out h2⟩
 clear h1 h2 C
 go_wp2
 go_ret
 exact RR.out
theorem asks_okX {K Wn N M:Int} {S T:Str} {L:Value} {qs:List Str} (hS:S.length + 1 < maxLen) (hQ:QOk qs):AsksOkX K Wn N M S T L qs:=by
 intro h6 h11 base D w hD hm hmx hbz hfr hnm
 by_cases h9:K ≤ 9
 ·exact (asks_ok9 h9 hS h6 h11 D.D w hD.duo hm hmx).mono fun _ _ h => EditX.of hD h
 ·by_cases h10:K = 10
  ·subst h10
   exact asks_rule D Wn N M S T L qs base w hD hmx hbz hfr hnm (by omega) hQ
  ·obtain rfl:K = 11:=by omega
   exact asks_plan D Wn N M S T L w hD
end Go.Proofs.YtdcbgfhkfmohiaaGreatDoor
