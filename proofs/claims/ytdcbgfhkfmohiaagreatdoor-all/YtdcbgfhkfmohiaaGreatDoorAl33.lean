/- Contracts of the library's strings.Split at one byte. -/
import Derived.Test.YtdcbgfhkfmohiaaGreatDoorAl01
import Derived.Test.YtdcbgfhkfmohiaaGreatDoorAl05
import Derived.Test.YtdcbgfhkfmohiaaGreatDoorAl06
import Derived.Test.YtdcbgfhkfmohiaaGreatDoorAl31
import Derived.Shelf.Strings.OnBuilder
import Derived.Shelf.Strings.Search3
import Derived.Shelf.Slices.Turned
import Derived.Ground.Names2Prog
import Derived.Shelf.Slices.Clone
import Derived.Test.YtdcbgfhkfmohiaaGreatDoorProg
import Derived.Lib.ConvBytes
import Derived.Shelf.SlIter.Nil
import Derived.Shelf.SortM.Plain
import Derived.Shelf.SortM.SortNone
import Derived.Ground.GgzProg
import Derived.Ground.SlgmProg
namespace Go.Proofs.YtdcbgfhkfmohiaaGreatDoor
open Go.RowKit
theorem splitL_count (c:UInt8) (s:Str):(splitL c s).length = Lib.countByte s c + 1:=by
 unfold Lib.countByte
 induction s with
 | nil => simp [splitL]
 | cons b t ih =>
  unfold splitL
  by_cases h:b = c
  ·rw [if_pos h,List.length_cons,ih,h,List.count_cons_self]
  ·rw [if_neg h,List.count_cons_of_ne h]
   have:=splitL_ne c t
   split
   ·rename_i e;rw [e] at ih;simpa using ih
   ·rename_i e;exact absurd e this
set_option maxHeartbeats 1000000 in
set_option maxRecDepth 100000 in
theorem count_any (s:Str) (c:UInt8) (w:World) :
  Calls Tryz.prog 146 #[SV s,SV [c]] w fun e w' => e = .returned (.int .i64 (Lib.countByte s c:Nat))∧w' = w:=by
 have hG:=get_list
 go_enter Tryz.func146,Tryz.ntmps146
 go_wp2
 rw [run_callFunc_extern Tryz.func174 (by kernel_rfl) (by kernel_rfl) (by kernel_rfl) (e:=Extern.BytealgCount.count) (by kernel_rfl),Lib.run_countString]
 simp only [Result.andThen]
 rw [Oper.upon_value]
 go_wp2
 go_ret
 exact ⟨ret_int (by simp),rfl⟩
set_option maxHeartbeats 2000000 in
set_option maxRecDepth 100000 in
theorem genSplitAll_any (s:Str) (c:UInt8) (w:World) (hs:s.length ≤ 1000) :
  Calls Tryz.prog 115 #[SV s,SV [c],.int .i64 0,.int .i64 (-1)] w fun e w' => ∃ v,e = .returned v∧w'.ownsRow w.heap.size 9 1 v (splitL c s).length ((splitL c s).map SV)∧Below w.heap.size w w':=by
 obtain ⟨i0,hi,hz0,hz1,hz2⟩:=info_parts Tryz.infoStr
 have hX:=extract_list
 obtain ⟨n,hn⟩ : ∃ n,n = Lib.countByte s c:=⟨_,rfl⟩
 have hlen:=splitL_count c s
 have Hn:Hid (splitNL c n s = splitL c s):=splitNL_all (by omega)
 have hn2:n ≤ s.length:=by have:=splitL_len c s;omega
 have hmin:(min (n:Int) (s.length:Int)) = (n:Int):=by omega
 have hn1:n ≤ 1000:=by omega
 have CC:=count_any s c w
 rw [← hn] at CC
 clear hn hlen
 go_enter Tryz.func115,Tryz.ntmps115
 go_wp2_with (first | (go_at_call 146;refine CC.mono ?_;rintro e w ⟨rfl,rfl⟩) | (at_make;go_loud (refine wpList_make_full _ rfl (.tmp 30) (.tmp 30) 48 rfl w.heap.size 9 i0 _ 1 Tryz.underlying48 hi hz0 hz1 _ _ _ _ (n + 1) rfl rfl ?_ ?_ ?_ ?_ ?_ ?_)))
 ·first | omega | (split <;> omega)
 ·first | omega | (split <;> omega)
 ·rw [hz2];omega
 ·unfold maxLen;omega
 ·exact Nat.le_refl _
 intro w1 hown1 hg1
 have hb1:Below w.heap.size w w1:=(Below.refl _ _).grown hg1 (Nat.le_refl _) (fun k hk => by simp at hk)
 obtain ⟨zs0,hzs⟩ : ∃ zs0,w1.ownsRow w.heap.size 9 1 (.slice (some ⟨w.heap.size,0,none⟩) (n + 1) (n + 1)) (n + 1) zs0:=⟨_,hown1⟩
 clear hown1 hg1 CC
 go_wp2
 clear hmin
 go_loopw [0,10,11] (fun sv i _ wr => ∃ (xs:List Str) (rest:Str) (q:Nat) (zs:List Value),i = .int .i64 xs.length∧sv = SV rest∧CutAt c n s xs rest q∧wr.ownsRow w.heap.size 9 1 (.slice (some ⟨w.heap.size,0,none⟩) (n + 1) (n + 1)) (n + 1) zs∧zs.take xs.length = xs.map SV∧Below w.heap.size w wr) (fun _ i _ _ => n - (intOf i).toNat)
 case atStart => exact ⟨[],s,n,zs0,rfl,rfl,⟨by simp,rfl,Nat.le_refl _⟩,hzs,by simp,hb1⟩
 case round =>
  clear hzs hb1
  obtain ⟨xs,rest,q,zs,rfl,rfl,hC,hown,htk,hbel⟩:=hrel
  have hcnt:=hC.cnt
  have hrl:=hC.len
  have hzl:zs.length = n + 1:=by have:=hown.1;omega
  have hcell:=hown.cellAt xs.length (by omega)
  have hfz:=hown.frozenAt xs.length
  obtain ⟨u0,hu0⟩ : ∃ u,zs[xs.length]? = some u:=⟨_,List.getElem?_eq_getElem (by omega)⟩
  rw [hu0] at hcell
  have hml:rest.length ≤ maxLen:=by unfold maxLen;omega
  have hge:=Lib.indexByte_ge rest c
  cases q with
  | zero =>
   have R:Hid _:=hC.ends (.inl rfl)
   have hxn:n ≤ xs.length:=by omega
   have hst:=set_take (t:=rest) (by omega) htk
   have hos:=hown.stored xs.length (SV rest)
   clear hC
   go_wp2
   go_ret
   rw [← Hn.out]
   exact cut_end (by omega) hst hbel R.out (fun m hm => row_take hos.1 hm)
  | succ q =>
   have hxn:xs.length < n:=by omega
   by_cases hneg:Lib.indexByte rest c < 0
   ·have R:Hid _:=hC.ends (.inr hneg)
    have hst:=set_take (t:=rest) (by omega) htk
    have hos:=hown.stored xs.length (SV rest)
    clear hC
    go_wp2_with (go_at_call 147;refine (index_any rest c _ hml).mono ?_;rintro e w' ⟨rfl,rfl⟩)
    go_ret
    rw [← Hn.out]
    exact cut_end (by omega) hst hbel R.out (fun m hm => row_take hos.1 hm)
   ·obtain ⟨m,hm⟩:=Int.eq_ofNat_of_zero_le (show 0 ≤ Lib.indexByte rest c by omega)
    have R:=hC.step hm
    have hsp:=(indexByte_split hm).1
    have hst:=set_take (t:=rest.take m) (by omega) htk
    have hos:=hown.stored xs.length (SV (rest.take m))
    clear hC
    go_wp2_with (go_at_call 147;refine (index_any rest c _ hml).mono ?_;rintro e w' ⟨rfl,rfl⟩)
    go_roundw
    case rel => exact ⟨xs ++ [rest.take m],rest.drop (m + 1),q,_,by simp,by simp [List.take_of_length_le],R,hos.1,by simpa using hst,hbel.grown hos.2 hbel.size (fun k hk => by simp at hk;omega)⟩
    case measure => simp [intOf];omega
set_option maxHeartbeats 1000000 in
theorem prgSplit_any (s:Str) (c:UInt8) (w:World) (hs:s.length ≤ 1000) :
  Calls Tryz.prog 79 #[SV s,SV [c]] w fun e w' => ∃ v,e = .returned v∧w'.ownsRow w.heap.size 9 1 v (splitL c s).length ((splitL c s).map SV)∧Below w.heap.size w w':=by
 go_enter Tryz.func79,Tryz.ntmps79
 go_wp2_with (go_at_call 115;refine (genSplitAll_any s c _ hs).mono ?_;rintro e w' ⟨v,rfl,hown,hbel⟩)
 go_ret
 exact ⟨_,rfl,hown,hbel⟩
end Go.Proofs.YtdcbgfhkfmohiaaGreatDoor

namespace Go.Proofs.YtdcbgfhkfmohiaaGreatDoor
open Go.Shelf
def Tryz.lays156_ren:Go.Shelf.Ren:=⟨fun | 156 => 116 | 165 => 148 | 166 => 48 | 169 => 49 | 240 => 76 | 241 => 176 | 276 => 109 | 277 => 192 | n => n,fun | 31 => 48 | 9 => 9 | 3 => 3 | 4 => 4 | 0 => 0 | 20 => 20 | 72 => 94 | 76 => 106 | 70 => 91 | 37 => 92 | 75 => 104 | 127 => 158 | 164 => 210 | 5 => 5 | 80 => 108 | n => n,fun | n => n⟩
theorem Tryz.lays156:Go.Proofs.Lays.n156 Tryz.prog Tryz.lays156_ren:={
 mixed:=by kernel_rfl
 f156:=Tryz.func116.trans (congrArg some (by kernel_rfl))
 f165:=Tryz.func148.trans (congrArg some (by kernel_rfl))
 f166:=Tryz.func48.trans (congrArg some (by kernel_rfl))
 f169:=Tryz.func49.trans (congrArg some (by kernel_rfl))
 f240:=Tryz.func76.trans (congrArg some (by kernel_rfl))
 f241:=Tryz.func176.trans (congrArg some (by kernel_rfl))
 f276:=Tryz.func109.trans (congrArg some (by kernel_rfl))
 f277:=Tryz.func192.trans (congrArg some (by kernel_rfl))
 t0:=Tryz.underlying0
 a0:=Tryz.isAgg0
 z0:=Tryz.sizeOf0
 v0:=Tryz.zeroValue0
 t3:=Tryz.underlying3
 a3:=Tryz.isAgg3
 z3:=Tryz.sizeOf3
 v3:=Tryz.zeroValue3
 t4:=Tryz.underlying4
 a4:=Tryz.isAgg4
 z4:=Tryz.sizeOf4
 v4:=Tryz.zeroValue4
 t9:=Tryz.underlying9
 a9:=Tryz.isAgg9
 z9:=Tryz.sizeOf9
 v9:=Tryz.zeroValue9
 t20:=Tryz.underlying20
 a20:=Tryz.isAgg20
 z20:=Tryz.sizeOf20
 v20:=Tryz.zeroValue20
 t31:=Tryz.underlying48
 a31:=Tryz.isAgg48
 z31:=Tryz.sizeOf48
 v31:=Tryz.zeroValue48
 t37:=Tryz.underlying92
 a37:=Tryz.isAgg92
 z37:=Tryz.sizeOf92
 v37:=Tryz.zeroValue92
 t70:=Tryz.underlying91
 a70:=Tryz.isAgg91
 z70:=Tryz.sizeOf91
 v70:=Tryz.zeroValue91
 t72:=Tryz.underlying94
 a72:=Tryz.isAgg94
 z72:=Tryz.sizeOf94
 v72:=Tryz.zeroValue94
 t75:=Tryz.underlying104
 a75:=Tryz.isAgg104
 z75:=Tryz.sizeOf104
 v75:=Tryz.zeroValue104
 t76:=Tryz.underlying106
 a76:=Tryz.isAgg106
 z76:=Tryz.sizeOf106
 v76:=Tryz.zeroValue106
 t127:=Tryz.underlying158
 a127:=Tryz.isAgg158
 z127:=Tryz.sizeOf158
 v127:=Tryz.zeroValue158
 t164:=Tryz.underlying210
 a164:=Tryz.isAgg210
 z164:=Tryz.sizeOf210
 v164:=Tryz.zeroValue210 }
theorem Tryz.Builder_Extra_156:Builder.Extra Tryz.prog Tryz.lays156_ren:={
 sizeBuilder:=by kernel_rfl
 liesBuilder:=by kernel_rfl
 t5:=Tryz.underlying5
 a5:=Tryz.isAgg5
 z5:=Tryz.sizeOf5
 v5:=Tryz.zeroValue5
 infoByte:=by kernel_rfl
 cellsByte:=by kernel_rfl
 sizeByte:=by kernel_rfl
 neB5:=by decide }
open Go.RowKit in
theorem Tryz.strings_Join_none (a:Option Addr) (c:Nat) (sep:ByteArray) (w:World) :
  Calls Tryz.prog 116 #[.slice a 0 c,.string sep] w fun e w' => e = .returned (.string ⟨#[]⟩)∧w' = w:=Any.strings_Join_none Tryz.lays156 Tryz.Builder_Extra_156 a c sep w
open Go.RowKit in
theorem Tryz.strings_Join (bk o c:Nat) (xs:List ByteArray) (sep:ByteArray) (w:World) (hcells:∀ (j:Nat) x,xs[j]? = some x→w.cell? ⟨bk,o + j,none⟩ = some (.string x)) (hbk:bk < w.heap.size) (hN:xs.length ≤ 140737488355328) (hcap:xs.length ≤ c) (hlen:(Lib.join (xs.map (·.data.toList)) sep.data.toList).length ≤ 140737488355328) :
  Calls Tryz.prog 116 #[.slice (some ⟨bk,o,none⟩) xs.length c,.string sep] w fun e w' => e = .returned (.string ⟨(Lib.join (xs.map (·.data.toList)) sep.data.toList).toArray⟩)∧Below w.heap.size w w':=Any.strings_Join Tryz.lays156 Tryz.Builder_Extra_156 bk o c xs sep w hcells hbk hN hcap hlen
def Tryz.lays144_ren:Go.Shelf.Ren:=⟨fun | 144 => 171 | 143 => 147 | 219 => 175 | 217 => 188 | 225 => 189 | 224 => 190 | 267 => 191 | 266 => 194 | 314 => 195 | n => n,fun | 9 => 9 | 4 => 4 | 3 => 3 | 5 => 5 | 46 => 225 | 146 => 287 | 51 => 262 | n => n,fun | 1 => 0 | n => n⟩
theorem Tryz.lays144:Go.Proofs.Lays.n144 Tryz.prog Tryz.lays144_ren:={
 mixed:=by kernel_rfl
 f143:=Tryz.func147.trans (congrArg some (by kernel_rfl))
 f144:=Tryz.func171.trans (congrArg some (by kernel_rfl))
 f217:=Tryz.func188.trans (congrArg some (by kernel_rfl))
 f219:=Tryz.func175.trans (congrArg some (by kernel_rfl))
 f224:=Tryz.func190.trans (congrArg some (by kernel_rfl))
 f225:=Tryz.func189.trans (congrArg some (by kernel_rfl))
 f266:=Tryz.func194.trans (congrArg some (by kernel_rfl))
 f267:=Tryz.func191.trans (congrArg some (by kernel_rfl))
 f314:=Tryz.func195.trans (congrArg some (by kernel_rfl))
 t3:=Tryz.underlying3
 a3:=Tryz.isAgg3
 z3:=Tryz.sizeOf3
 v3:=Tryz.zeroValue3
 t4:=Tryz.underlying4
 a4:=Tryz.isAgg4
 z4:=Tryz.sizeOf4
 v4:=Tryz.zeroValue4
 t5:=Tryz.underlying5
 a5:=Tryz.isAgg5
 z5:=Tryz.sizeOf5
 v5:=Tryz.zeroValue5
 t9:=Tryz.underlying9
 a9:=Tryz.isAgg9
 z9:=Tryz.sizeOf9
 v9:=Tryz.zeroValue9
 t46:=Tryz.underlying225
 a46:=Tryz.isAgg225
 z46:=Tryz.sizeOf225
 v46:=Tryz.zeroValue225
 t51:=Tryz.underlying262
 a51:=Tryz.isAgg262
 z51:=Tryz.sizeOf262
 v51:=Tryz.zeroValue262
 t146:=Tryz.underlying287
 a146:=Tryz.isAgg287
 z146:=Tryz.sizeOf287
 v146:=Tryz.zeroValue287
 g1:=by kernel_rfl }
open Go.RowKit Go.Lib in
theorem Tryz.strings_Contains (s sub:ByteArray) (m:Int) (w:World) (hs:s.size < 4294967281) (hm:w.cell? ⟨0,0,none⟩ = some (.int .i64 m)) :
  Calls Tryz.prog 171 #[.string s,.string sub] w fun e w' => e = .returned (.bool (Lib.contains s.data.toList sub.data.toList))∧w' = w:=Any.strings_Contains Tryz.lays144 s sub m w hs hm
def Tryz.lays110_ren:Go.Shelf.Ren:=⟨fun | 110 => 111 | 109 => 143 | n => n,fun | 31 => 48 | 9 => 9 | 4 => 4 | 3 => 3 | 0 => 0 | n => n,fun | n => n⟩
theorem Tryz.lays110:Go.Proofs.Lays.n110 Tryz.prog Tryz.lays110_ren:={
 mixed:=by kernel_rfl
 f109:=Tryz.func143.trans (congrArg some (by kernel_rfl))
 f110:=Tryz.func111.trans (congrArg some (by kernel_rfl))
 t0:=Tryz.underlying0
 a0:=Tryz.isAgg0
 z0:=Tryz.sizeOf0
 v0:=Tryz.zeroValue0
 t3:=Tryz.underlying3
 a3:=Tryz.isAgg3
 z3:=Tryz.sizeOf3
 v3:=Tryz.zeroValue3
 t4:=Tryz.underlying4
 a4:=Tryz.isAgg4
 z4:=Tryz.sizeOf4
 v4:=Tryz.zeroValue4
 t9:=Tryz.underlying9
 a9:=Tryz.isAgg9
 z9:=Tryz.sizeOf9
 v9:=Tryz.zeroValue9
 t31:=Tryz.underlying48
 a31:=Tryz.isAgg48
 z31:=Tryz.sizeOf48
 v31:=Tryz.zeroValue48 }
open Go.Lib in
theorem Tryz.slices_Contains_string (b off n c:Nat) (zs:List ByteArray) (x:ByteArray) (w:World) (hz:n ≤ zs.length) (hbig:n ≤ 9223372036854775807) (hc:∀ j,j < zs.length→w.cell? ⟨b,off + j,none⟩ = some (.string (zs.getD j ByteArray.empty))) :
  Calls Tryz.prog 111 #[.slice (some ⟨b,off,none⟩) n c,.string x] w fun e w' => e = .returned (.bool (Lib.containsS (zs.take n) x))∧w' = w:=Any.slices_Contains_string Tryz.lays110 b off n c zs x w hz hbig hc
open Go.Lib in
theorem Tryz.slices_Contains_string_empty (a:Option Addr) (c:Nat) (x:ByteArray) (w:World) :
  Calls Tryz.prog 111 #[.slice a 0 c,.string x] w fun e w' => e = .returned (.bool false)∧w' = w:=Any.slices_Contains_string_empty Tryz.lays110 a c x w
def Tryz.laysNm216_ren:Go.Shelf.Ren:=⟨fun | 16 => 119 | n => n,fun | 24 => 48 | 9 => 9 | 4 => 4 | n => n,fun | n => n⟩
theorem Tryz.laysNm216:Go.Proofs.Lays2.n16 Tryz.prog Tryz.laysNm216_ren:={
 mixed:=by kernel_rfl
 f16:=Tryz.func119.trans (congrArg some (by kernel_rfl))
 t4:=Tryz.underlying4
 a4:=Tryz.isAgg4
 z4:=Tryz.sizeOf4
 v4:=Tryz.zeroValue4
 t9:=Tryz.underlying9
 a9:=Tryz.isAgg9
 z9:=Tryz.sizeOf9
 v9:=Tryz.zeroValue9
 t24:=Tryz.underlying48
 a24:=Tryz.isAgg48
 z24:=Tryz.sizeOf48
 v24:=Tryz.zeroValue48
 i9:=by kernel_rfl }
open Go.RowKit Go.Lib in
theorem Tryz.slices_Clone_string (b off n c:Nat) (zs:List ByteArray) (w:World) (hz:n ≤ zs.length) (hbig:n * 16 ≤ 140737488355328) (hc:∀ j,j < zs.length→w.cell? ⟨b,off + j,none⟩ = some (.string (zs.getD j ByteArray.empty))) :
  Calls Tryz.prog 119 #[.slice (some ⟨b,off,none⟩) n c] w fun e w' => ∃ v',e = .returned v'∧w'.ownsRow w.heap.size 9 1 v' n ((zs.take n).map (Value.string))∧v' ≠ .slice none 0 0∧Below w.heap.size w w':=Any.slices_Clone_string Tryz.laysNm216 b off n c zs w hz hbig hc
open Go.RowKit Go.Lib in
open Go.RowKit Go.Lib in
theorem Tryz.slices_Clone_string_zero (a:Addr) (c:Nat) (w:World) :
  Calls Tryz.prog 119 #[.slice (some a) 0 c] w fun e w' => ∃ v',e = .returned v'∧w'.ownsRow w.heap.size 9 1 v' 0 []∧v' ≠ .slice none 0 0∧Below w.heap.size w w':=Any.slices_Clone_string_zero Tryz.laysNm216 a c w
end Go.Proofs.YtdcbgfhkfmohiaaGreatDoor

namespace Go.Proofs.YtdcbgfhkfmohiaaGreatDoor
open Go.RowKit
set_option maxHeartbeats 1000000 in
theorem isPartByte_any (c:UInt8) (w:World) :
  Calls Tryz.prog 170 #[.int .u8 c.toNat] w fun e w' => e = .returned (.bool (okByte true c))∧w' = w:=by
 have hlt:c.toNat < 256:=c.toNat_lt
 have C:=isNameByte_any c w
 have HB:Hid (okByte true c = (okByte false c || decide (c.toNat = 42∨c.toNat = 63))):=by rw [Hid];unfold okByte;simp [Bool.or_assoc]
 cases hn:okByte false c
 ·rw [hn] at C
  go_enter Tryz.func170,Tryz.ntmps170
  go_wp2_with (go_at_call 89;refine C.mono ?_;rintro e w ⟨rfl,rfl⟩)
  all_goals
   go_ret
   refine ⟨ret_bool ?_,rfl⟩
   rw [HB.out,hn,Bool.eq_iff_iff]
   simp
   omega
 ·rw [hn] at C
  go_enter Tryz.func170,Tryz.ntmps170
  go_wp2_with (go_at_call 89;refine C.mono ?_;rintro e w ⟨rfl,rfl⟩)
  all_goals
   go_ret
   refine ⟨ret_bool ?_,rfl⟩
   rw [HB.out,hn];rfl
theorem tells_partByte:TellsByte 170 (okByte true):=⟨enters_of Tryz.func170 (by kernel_rfl) rfl,isPartByte_any⟩
theorem stars_iff (s:Str):hasStars s = true ↔ ∃ i:Nat,s[i]? = some (42:UInt8)∧s[i + 1]? = some (42:UInt8):=by
 unfold hasStars
 rw [List.any_eq_true]
 constructor
 ·rintro ⟨k,hk,h⟩
  simp only [Bool.and_eq_true,decide_eq_true_eq,starsAt,beq_iff_eq] at h
  obtain ⟨h1,h2,h3⟩:=h
  exact ⟨k - 1,h3,by rw [show k - 1 + 1 = k by omega];exact h2⟩
 ·rintro ⟨i,h1,h2⟩
  refine ⟨i + 1,?_,?_⟩
  ·rw [List.mem_range];exact (List.getElem?_eq_some_iff.1 h2).1
  ·simp [starsAt,h1,h2]
theorem contains_stars (s:Str):Lib.contains s [42,42] = hasStars s:=by
 rw [Bool.eq_iff_iff,stars_iff]
 unfold Lib.contains
 rw [decide_eq_true_iff]
 induction s with
 | nil => simp [Lib.index]
 | cons b l ih =>
  rw [Lib.index]
  by_cases hp:List.isPrefixOf [42,42] (b :: l) = true
  ·rw [if_pos hp]
   refine ⟨fun _ => ⟨0,?_⟩,fun _ => Int.le_refl _⟩
   cases l with
   | nil => simp [List.isPrefixOf] at hp
   | cons c l => simp [List.isPrefixOf] at hp;simp [← hp.1,← hp.2]
  ·rw [if_neg hp]
   have hge : -1 ≤ Lib.index l [42,42]:=by
    clear ih hp
    induction l with
    | nil => simp [Lib.index]
    | cons c l ih2 =>
     rw [Lib.index]
     split
     ·omega
     ·split
      ·omega
      ·omega
   have hiff:(∃ i:Nat,(b :: l)[i]? = some (42:UInt8)∧(b :: l)[i + 1]? = some (42:UInt8)) ↔ ∃ i:Nat,l[i]? = some (42:UInt8)∧l[i + 1]? = some (42:UInt8):=by
    constructor
    ·rintro ⟨i,h1,h2⟩
     cases i with
     | zero =>
      refine absurd ?_ hp
      cases l with
      | nil => simp at h2
      | cons c l => simp at h1 h2;subst h1 h2;simp [List.isPrefixOf]
     | succ i => exact ⟨i,by simpa using h1,by simpa using h2⟩
    ·rintro ⟨i,h1,h2⟩;exact ⟨i + 1,by simpa using h1,by simpa using h2⟩
   rw [hiff,← ih]
   by_cases he:(Lib.index l [42,42] == -1) = true
   ·rw [if_pos he];simp at he;omega
   ·rw [if_neg he];simp at he;omega
theorem prgContains_any (s:Str) (w:World) (hmx:MaxOk w) (hs:s.length < 1000) :
  Calls Tryz.prog 171 #[SV s,SV [42,42]] w fun e w' => e = .returned (.bool (hasStars s))∧w' = w:=by
 obtain ⟨m,hm⟩:=hmx
 have:=Tryz.strings_Contains ⟨s.toArray⟩ ⟨#[42,42]⟩ m w (by simp [ByteArray.size];omega) hm
 simp only at this
 rw [contains_stars] at this
 exact this
set_option maxHeartbeats 1000000 in
theorem isPart_any (s:Str) (w:World) (hmx:MaxOk w) (hs:s.length ≤ maxLen) :
  Calls Tryz.prog 144 #[SV s] w fun e w' => e = .returned (.bool (partOkL s))∧w' = w:=by
 have C:=isMadeOf_any _ _ tells_partByte s w hs
 rw [← isNameL_madeOf] at C
 cases hss:(s == [42,42])
 ·cases hn:isNameL s true
  ·have R:Hid (partOkL s = false):=by unfold partOkL;rw [Hid,hss,hn];rfl
   rw [hn] at C
   go_enter Tryz.func144,Tryz.ntmps144
   go_wp2_with (go_at_call 88;refine C.mono ?_;rintro e w ⟨rfl,rfl⟩)
   go_ret
   exact ⟨by rw [R.out];rfl,rfl⟩
  ·have hl:=isNameL_len hn
   have C2:=prgContains_any s w hmx (by omega)
   have R:Hid (partOkL s = !hasStars s):=by unfold partOkL;rw [Hid,hss,hn];rfl
   rw [hn] at C
   cases ht:hasStars s
   all_goals
    rw [ht] at C2 R
    go_enter Tryz.func144,Tryz.ntmps144
    go_wp2_with (first | (go_at_call 88;refine C.mono ?_;rintro e w1 ⟨rfl,hw1⟩;cases hw1) | (go_at_call 171;refine C2.mono ?_;rintro e w1 ⟨rfl,hw1⟩;cases hw1))
    go_ret
    exact ⟨by rw [R.out];rfl,rfl⟩
 ·have R:Hid (partOkL s = true):=by unfold partOkL;rw [Hid,hss];rfl
  clear C
  go_enter Tryz.func144,Tryz.ntmps144
  go_wp2
  go_ret
  exact ⟨by rw [R.out];rfl,rfl⟩
def NamesO (base:Nat) (w:World) (v:Value):Option (List Str)→Prop
 | none => v = .slice none 0 0
 | some xs => ∃ g n c,v = .slice (some ⟨g,0,none⟩) n c∧base ≤ g∧g < w.heap.size∧NamesAt w v xs
theorem NamesO.below {base:Nat} {w w' : World} {v:Value} {o:Option (List Str)} (h:NamesO base w v o) (hb:Below w.heap.size w w'):NamesO base w' v o:=by
 cases o with
 | none => exact h
 | some xs =>
  obtain ⟨g,n,c,h1,h2,h3,h4⟩:=h
  exact ⟨g,n,c,h1,h2,Nat.lt_of_lt_of_le h3 hb.size,names_below h4 hb (Nat.le_refl _)⟩
theorem NamesO.form {base:Nat} {w:World} {v:Value} {o:Option (List Str)} (h:NamesO base w v o):∃ ao n c,v = .slice ao n c:=by
 cases o with
 | none => exact ⟨_,_,_,h⟩
 | some xs => obtain ⟨g,n,c,h1,_⟩:=h;exact ⟨_,_,_,h1⟩
theorem NamesO.mono {base base' : Nat} {w:World} {v:Value} {o:Option (List Str)} (h:NamesO base w v o) (hb:base' ≤ base):NamesO base' w v o:=by
 cases o with
 | none => exact h
 | some xs => obtain ⟨g,n,c,h1,h2,h3,h4⟩:=h;exact ⟨g,n,c,h1,Nat.le_trans hb h2,h3,h4⟩
def patO (p:Str):Option (List Str):=if isPatternL p then some (splitL 47 p) else none
def placeL (p:Str):List Str:=if p = [47] then [] else splitL 47 p
def placeO (p:Str):Option (List Str):=if isPlaceL p then some (placeL p) else none
def NamesRet (w:World) (o:Option (List Str)) (e:Ending) (w' : World):Prop:=Below w.heap.size w w'∧∃ v,e = .returned v∧NamesO w.heap.size w' v o
set_option maxHeartbeats 1000000 in
theorem partsOf_any (p:Str) (w:World) (hmx:MaxOk w) (hp:p.length + 1 < maxLen) :
  Calls Tryz.prog 114 #[SV p] w fun e w' => NamesRet w (patO p) e w':=by
 have C:=pieces_in 144 partOkL p w (enters_of Tryz.func144 (by kernel_rfl) rfl) (fun s W hb hs => isPart_any s W (hmx.later hb) hs) hp
 have HN:Hid (∀ e w',PiecesOwn w partOkL p e w'→NamesRet w (patO p) e w'):=fun e w' h => by
  obtain ⟨hb,⟨h0,rfl⟩ | ⟨h1,g,n,c,rfl,hg,hn⟩⟩:=h
  ·have h0' : isPatternL p = false:=h0
   exact ⟨hb,_,rfl,by unfold patO;rw [h0'];rfl⟩
  ·have h1' : isPatternL p = true:=h1
   refine ⟨hb,_,rfl,?_⟩
   unfold patO;rw [h1',if_pos rfl]
   have hlt:g < w'.heap.size:=by
    obtain ⟨ao,cap,e1,_,_,h5⟩:=hn
    obtain ⟨g',o',e2,h6,_⟩:=h5 0 (List.length_pos_iff.2 (splitL_ne 47 p))
    simp only [Value.slice.injEq] at e1
    rw [← e1.1] at e2
    simp only [Option.some.injEq,Addr.mk.injEq] at e2
    omega
   exact ⟨g,n,c,rfl,hg,hlt,hn⟩
 go_enter Tryz.func114,Tryz.ntmps114
 go_wp2_with (go_at_call 90;refine C.mono ?_)
 intro e w1 h1
 obtain ⟨hb,v,rfl,hv⟩:=HN.out e w1 h1
 obtain ⟨ao,n,c,rfl⟩:=hv.form
 have HR:Hid (NamesRet w (patO p) (.returned (.slice ao n c)) w1):=⟨hb,_,rfl,hv⟩
 clear h1 hv
 go_wp2
 go_ret
 exact HR.out
set_option maxHeartbeats 1000000 in
theorem namesOrRoot_own (p:Str) (w:World) (hp:p.length + 1 < maxLen) :
  Calls Tryz.prog 50 #[SV p] w fun e w' => NamesRet w (placeO p) e w':=by
 cases hr:(p == [47])
 ·have hne:p ≠ [47]:=by simpa using hr
  have C:=namesOf_own p w hp
  have HN:Hid (∀ e w',NamesOwn w p e w'→NamesRet w (placeO p) e w'):=fun e w' h => by
   have hpl:isPlaceL p = isPathL p:=by unfold isPlaceL;rw [hr,Bool.or_false]
   obtain ⟨hb,⟨h0,rfl⟩ | ⟨h1,g,n,c,rfl,hg,hn⟩⟩:=h
   ·exact ⟨hb,_,rfl,by unfold placeO;rw [hpl,h0];rfl⟩
   ·refine ⟨hb,_,rfl,?_⟩
    unfold placeO placeL;rw [hpl,h1,if_pos rfl,if_neg hne]
    have hlt:g < w'.heap.size:=by
     obtain ⟨ao,cap,e1,_,_,h5⟩:=hn
     obtain ⟨g',o',e2,h6,_⟩:=h5 0 (List.length_pos_iff.2 (splitL_ne 47 p))
     simp only [Value.slice.injEq] at e1
     rw [← e1.1] at e2
     simp only [Option.some.injEq,Addr.mk.injEq] at e2
     omega
    exact ⟨g,n,c,rfl,hg,hlt,hn⟩
  go_enter Tryz.func50,Tryz.ntmps50
  go_wp2_with (go_at_call 61;refine C.mono ?_)
  intro e w1 h1
  obtain ⟨hb,v,rfl,hv⟩:=HN.out e w1 h1
  obtain ⟨ao,n,c,rfl⟩:=hv.form
  have HR:Hid (NamesRet w (placeO p) (.returned (.slice ao n c)) w1):=⟨hb,_,rfl,hv⟩
  clear h1 hv
  go_wp2
  go_ret
  exact HR.out
 ·have hpe:p = [47]:=by simpa using hr
  subst hpe
  have HN:Hid (∀ w' : World,Below w.heap.size w w'→w.heap.size < w'.heap.size→NamesRet w (placeO [47]) (.returned (.slice (some ⟨w.heap.size,0,none⟩) 0 0)) w'):=fun w' hb hlt =>
   ⟨hb,_,rfl,by
    unfold placeO
    rw [show isPlaceL [47] = true from rfl,if_pos rfl]
    exact ⟨w.heap.size,0,0,rfl,Nat.le_refl _,hlt,⟨_,_,rfl,Nat.le_refl _,by unfold maxLen;omega,fun k hk => by simp [placeL] at hk⟩⟩⟩
  go_enter Tryz.func50,Tryz.ntmps50
  go_wp2
  go_ret
  exact HN.out _ ((Below.refl _ _).alloc (Nat.le_refl _) _) (by simp)

open Go.RowKit
set_option maxHeartbeats 1000000 in
theorem spellsByte_any (p c:UInt8) (w:World) :
  Calls Tryz.prog 178 #[.int .u8 p.toNat,.int .u8 c.toNat] w fun e w' => e = .returned (.bool (takesB p c))∧w' = w:=by
 have hp:p.toNat < 256:=p.toNat_lt
 have hc:c.toNat < 256:=c.toNat_lt
 have HB:Hid (takesB p c = (decide (p.toNat = 63) || decide (p.toNat = c.toNat))):=by
  unfold takesB
  rw [Hid,Bool.eq_iff_iff]
  simp only [Bool.or_eq_true,beq_iff_eq,decide_eq_true_eq,← UInt8.toNat_inj]
  rfl
 generalize p.toNat = a at *
 generalize c.toNat = b at *
 go_enter Tryz.func178,Tryz.ntmps178
 go_wp2
 all_goals
  go_ret
  refine ⟨ret_bool ?_,rfl⟩
  rw [HB.out,Bool.eq_iff_iff]
  simp
  omega
def BytesIn (w:World) (g o:Nat) (xs:List UInt8):Prop:=∀ k (h:k < xs.length),w.cell? ⟨g,o + k,none⟩ = some (.int .u8 (xs[k].toNat:Nat))
theorem BytesIn.drop {w:World} {g o:Nat} {xs:List UInt8} (h:BytesIn w g o xs) (k:Nat):BytesIn w g (o + k) (xs.drop k):=by
 intro j hj
 have hj' : j + k < xs.length:=by simp at hj;omega
 have:=h (j + k) hj'
 rw [List.getElem_drop,show o + k + j = o + (j + k) by omega,this]
 congr 4
 simp [Nat.add_comm]
theorem BytesIn.tail {w:World} {g o:Nat} {x:UInt8} {xs:List UInt8} (h:BytesIn w g o (x :: xs)):BytesIn w g (o + 1) xs:=h.drop 1
theorem BytesIn.cut {w:World} {g o:Nat} {xs:List UInt8} (h:BytesIn w g o xs) (k:Nat) (c:Prop) [Decidable c] (hc:c→xs.length ≤ k):∃ o',(if c then some (⟨g,o,none⟩ : Addr) else some ⟨g,o + k,none⟩) = some ⟨g,o',none⟩∧BytesIn w g o' (xs.drop k):=by
 by_cases h0:c
 ·exact ⟨o,by rw [if_pos h0],by rw [List.drop_eq_nil_of_le (hc h0)];exact fun j hj => by simp at hj⟩
 ·exact ⟨o + k,by rw [if_neg h0],h.drop k⟩
theorem BytesIn.head {w:World} {g o:Nat} {x:UInt8} {xs:List UInt8} (h:BytesIn w g o (x :: xs)):w.cell? ⟨g,o,none⟩ = some (.int .u8 (x.toNat:Nat)):=h 0 (by simp)
theorem BytesIn.drewN {w:World} {g o:Nat} {xs:List UInt8} (h:BytesIn w g o xs) (n:Nat):BytesIn (w.drewN n) g o xs:=h
theorem drewN_more (w:World) (n m:Nat):(w.drewN n).drewN m = w.drewN (n + m):=by simp
theorem laid_nilB (xs:List UInt8):laidL starB takesB [] xs = decide (xs.length = 0):=by cases xs <;> simp [laidL]
theorem laid_consB {p x:UInt8} {ps xs:List UInt8} (h:starB p = false):laidL starB takesB (p :: ps) (x :: xs) = (takesB p x && laidL starB takesB ps xs):=by simp [laidL,h]
theorem laid_endB {p:UInt8} {ps:List UInt8} (h:starB p = false):laidL starB takesB (p :: ps) [] = false:=by simp [laidL,h]
theorem laid_hitB {p:UInt8} {ps xs:List UInt8} {k:Nat} (h:starB p = true) (hk:k ≤ xs.length) (hl:laidL starB takesB ps (xs.drop k) = true):laidL starB takesB (p :: ps) xs = true:=by
 simp only [laidL,h,if_true]
 exact List.any_eq_true.2 ⟨k,by simp;omega,hl⟩
theorem laid_missB {p:UInt8} {ps xs:List UInt8} (h:starB p = true) (hl:∀ k,k ≤ xs.length→laidL starB takesB ps (xs.drop k) = false):laidL starB takesB (p :: ps) xs = false:=by
 simp only [laidL,h,if_true]
 exact List.any_eq_false.2 fun k hk => by simp at hk;rw [hl k (by omega)];simp
theorem star_int {p:UInt8}:starB p = ((p.toNat:Int) == 42):=by
 unfold starB
 rw [Bool.eq_iff_iff]
 simp only [beq_iff_eq,← UInt8.toNat_inj]
 constructor
 ·intro h;rw [h];rfl
 ·intro h;have:p.toNat = 42:=by omega
  exact this
set_option maxHeartbeats 8000000 in
set_option maxRecDepth 50000 in
theorem isLaidB_any:∀ (ps xs:List UInt8) (gp op cp gi oi ci:Nat) (w:World),BytesIn w gp op ps→BytesIn w gi oi xs→ps.length ≤ cp→cp ≤ 9223372036854775807→xs.length ≤ ci→ci ≤ 9223372036854775807→ps.length ≤ 1000→xs.length ≤ 1000 →
  Calls Tryz.prog 177 #[.slice (some ⟨gi,oi,none⟩) xs.length ci,.slice (some ⟨gp,op,none⟩) ps.length cp,.int .u8 42,.func (.func 178) #[] #[]] w fun e w' => e = .returned (.bool (laidL starB takesB ps xs))∧∃ m,w' = w.drewN m:=by
 intro ps
 induction ps with
 | nil =>
  intro xs gp op cp gi oi ci w hp hx h1 h2 h3 h4 h5 h6
  have R:Hid _:=laid_nilB xs
  clear hp hx
  cases xs with
  | nil =>
   go_enter Tryz.func177,Tryz.ntmps177
   go_wp2
   go_ret
   exact ⟨by rw [R.out];rfl,0,rfl⟩
  | cons x xs =>
   have hne:¬ ((xs.length:Int) + 1) = 0:=by omega
   go_enter Tryz.func177,Tryz.ntmps177
   go_wp2
   go_ret
   exact ⟨by rw [R.out];simp;omega,0,rfl⟩
 | cons p ps ih =>
  intro xs gp op cp gi oi ci w hp hx h1 h2 h3 h4 h5 h6
  obtain ⟨cp',hcp⟩ : ∃ c,cp = c + 1:=⟨cp - 1,by simp at h1;omega⟩
  subst hcp
  simp only [List.length_cons] at h1 h5 ⊢
  have c0:=hp.head
  have hpi:((ps.length:Int) + 1) ≤ ((cp' : Int) + 1):=by omega
  cases hs:starB p
  ·have hs' : ((p.toNat:Int) == 42) = false:=by rw [← star_int];exact hs
   cases xs with
   | nil =>
    have R:Hid _:=laid_endB (ps:=ps) hs
    clear ih hp hx
    go_enter Tryz.func177,Tryz.ntmps177
    go_wp2_with fail
    go_quiet (fail)
    go_wp2
    go_ret
    exact ⟨by rw [R.out];rfl,_,rfl⟩
   | cons x xs =>
    obtain ⟨ci',hci⟩ : ∃ c,ci = c + 1:=⟨ci - 1,by simp at h3;omega⟩
    subst hci
    simp only [List.length_cons] at h3 h6 ⊢
    have cx:=hx.head
    have hxi:(0:Int) < ((xs.length:Int) + 1):=by omega
    have hxc:((xs.length:Int) + 1) ≤ ((ci' : Int) + 1):=by omega
    have hx1:(1:Int) ≤ ((xs.length:Int) + 1):=by omega
    have hp1:(1:Int) ≤ ((ps.length:Int) + 1):=by omega
    have hx2:(xs.length:Int) ≤ (ci' : Int):=by omega
    have hp2:(ps.length:Int) ≤ (cp' : Int):=by omega
    have R:Hid _:=laid_consB (ps:=ps) (xs:=xs) (x:=x) hs
    have CS:=fun W => spellsByte_any p x W
    obtain ⟨oi1,ei1,hx1'⟩:=BytesIn.cut hx 1 (ci' = 0) (fun h => by simp only [List.length_cons];omega)
    obtain ⟨op1,ep1,hp1'⟩:=BytesIn.cut hp 1 (cp' = 0) (fun h => by simp only [List.length_cons];omega)
    have CI:Hid (∀ n,Calls Tryz.prog 177 #[.slice (some ⟨gi,oi1,none⟩) xs.length ci',.slice (some ⟨gp,op1,none⟩) ps.length cp',.int .u8 42,.func (.func 178) #[] #[]] (w.drewN n) fun e w' => e = .returned (.bool (laidL starB takesB ps xs))∧∃ m,w' = (w.drewN n).drewN m):=fun n => ih xs gp op1 cp' gi oi1 ci' (w.drewN n) (hp1'.drewN n) (hx1'.drewN n) (by omega) (by omega) (by omega) (by omega) (by omega) (by omega)
    clear ih hp hx hx1' hp1'
    cases ht:takesB p x
    ·rw [ht] at CS R
     go_enter Tryz.func177,Tryz.ntmps177
     go_wp2_with fail
     go_quiet (first | (go_at_call 178;exact Calls.quiet_of_same (CS _)))
     go_wp2
     go_ret
     exact ⟨by rw [R.out];rfl,_,rfl⟩
    ·rw [ht] at CS R
     have hE:∀ args W,(callFunc 177 args).run Tryz.prog W = .ok (.enter 177 args) W:=enters_of Tryz.func177 (by kernel_rfl) rfl
     generalize laidL starB takesB ps xs = b at *
     go_enter Tryz.func177,Tryz.ntmps177
     go_wp2_with fail
     go_quiet (first | (go_at_call 178;exact Calls.quiet_of_same (CS _)) | (go_at_call 177;exact Calls.quiet_of (CI.out _)))
     go_wp2
     go_ret
     exact ⟨by rw [R.out];simp,_,rfl⟩
  ·have hs' : ((p.toNat:Int) == 42) = true:=by rw [← star_int];exact hs
   have HIT:Hid (∀ k,k ≤ xs.length→laidL starB takesB ps (xs.drop k) = true→laidL starB takesB (p :: ps) xs = true):=fun k hk h => laid_hitB hs hk h
   have MISS:Hid ((∀ k,k ≤ xs.length→laidL starB takesB ps (xs.drop k) = false)→laidL starB takesB (p :: ps) xs = false):=fun h => laid_missB hs h
   obtain ⟨op1,ep1,hp1'⟩:=BytesIn.cut hp 1 (cp' = 0) (fun h => by simp only [List.length_cons];omega)
   have hp1:(1:Int) ≤ ((ps.length:Int) + 1):=by omega
   have hp2:(ps.length:Int) ≤ (cp' : Int):=by omega
   have CUT:Hid (∀ k,k ≤ xs.length→∃ o',(if ci = k then some (⟨gi,oi,none⟩ : Addr) else some ⟨gi,oi + k,none⟩) = some ⟨gi,o',none⟩∧BytesIn w gi o' (xs.drop k)):=fun k hk => BytesIn.cut hx k (ci = k) (fun h => by omega)
   have CI:Hid (∀ k (W:World) o',(∃ n,W = w.drewN n)→k ≤ xs.length→BytesIn w gi o' (xs.drop k)→Calls Tryz.prog 177 #[.slice (some ⟨gi,o',none⟩) (xs.length - k) (ci - k),.slice (some ⟨gp,op1,none⟩) ps.length cp',.int .u8 42,.func (.func 178) #[] #[]] W fun e w' => e = .returned (.bool (laidL starB takesB ps (xs.drop k)))∧∃ m,w' = W.drewN m):=fun k W o' hW hk hB => by
    obtain ⟨n,rfl⟩:=hW
    have:=ih (xs.drop k) gp op1 cp' gi o' (ci - k) (w.drewN n) (hp1'.drewN n) (hB.drewN n) (by omega) (by omega) (by simp;omega) (by omega) (by omega) (by simp;omega)
    rw [List.length_drop] at this
    exact this
   clear ih hp hx hp1'
   go_enter Tryz.func177,Tryz.ntmps177
   go_wp2
   go_loopw [46] (fun i wr => ∃ k n:Nat,k ≤ xs.length + 1∧i = .int .i64 k∧wr = w.drewN n∧∀ j,j < k→j ≤ xs.length→laidL starB takesB ps (xs.drop j) = false) (fun i _ => xs.length + 1 - (intOf i).toNat)
   case atStart => exact ⟨0,0,Nat.zero_le _,rfl,rfl,fun j h => by omega⟩
   case round =>
    obtain ⟨k,n,hk,rfl,hwr,hall⟩:=hrel
    have HWR:Hid _:=hwr
    clear c0 hwr
    by_cases hlt:k ≤ xs.length
    ·have hki:(k:Int) < ((xs.length:Int) + 1):=by omega
     have hki2:(k:Int) ≤ (xs.length:Int):=by omega
     have hkc:(xs.length:Int) ≤ (ci:Int):=by omega
     obtain ⟨oi2,ei2,hx2⟩:=CUT.out k hlt
     have CK:Hid _:=fun m => CI.out k (wr.drewN m) oi2 ⟨n + m,by rw [HWR.out];exact drewN_more w n m⟩ hlt hx2
     clear hx2
     have HA:Hid _:=hall
     have HH:Hid _:=HIT.out k hlt
     clear hall HIT CI
     cases hb:laidL starB takesB ps (xs.drop k)
     ·rw [hb] at CK
      go_wp2_with fail
      go_quiet (first | (go_at_call 177;exact Calls.quiet_of (CK.out _)))
      go_wp2
      go_roundw
      case rel => exact ⟨k + 1,n + nq,by omega,by go_num,by rw [HWR.out];exact drewN_more w n nq,fun j hj hjl => by
       by_cases e:j = k
       ·subst e;exact hb
       ·exact HA.out j (by omega) hjl⟩
      case measure => simp [intOf];omega
     ·have R:Hid _:=HH.out hb
      rw [hb] at CK
      go_wp2_with fail
      go_quiet (first | (go_at_call 177;exact Calls.quiet_of (CK.out _)))
      go_wp2
      go_ret
      exact ⟨by rw [R.out];rfl,n + nq,by rw [HWR.out];exact drewN_more w n nq⟩
    ·have R:Hid _:=MISS.out (fun j hj => hall j (by omega) hj)
     have hki:¬ (k:Int) < ((xs.length:Int) + 1):=by omega
     clear hall HIT MISS CI
     go_wp2
     go_ret
     exact ⟨by rw [R.out];rfl,n,HWR.out⟩

open Go.RowKit
theorem bytes_below (w:World) (e:TypeId) (s:ByteArray):Below w.heap.size w (Lib.bytesWorld w e s):=by
 refine ⟨?_,?_,?_,?_,fun k hk => Lib.bytesWorld_at_old w e s k hk⟩
 ·simp [Lib.bytesWorld,World.freeze,World.alloc,World.drew,-World.alloc_eq,-World.drew_eq]
 ·simp [Lib.bytesWorld,World.freeze,World.alloc,World.drew,-World.alloc_eq,-World.drew_eq]
 ·simp [Lib.bytesWorld,World.freeze,World.alloc,World.drew,-World.alloc_eq,-World.drew_eq]
 ·rw [Lib.bytesWorld_size];omega
theorem bytes_in (w:World) (e:TypeId) (s:Str):BytesIn (Lib.bytesWorld w e ⟨s.toArray⟩) w.heap.size 0 s:=by
 intro k hk
 rw [Nat.zero_add,Lib.bytesWorld_cell w e ⟨s.toArray⟩ k (by simpa [ByteArray.size] using hk)]
 simp [List.getD,hk]
theorem BytesIn.below {w w' : World} {g o:Nat} {xs:List UInt8} (h:BytesIn w g o xs) (hg:g < w.heap.size) (hb:Below w.heap.size w w'):BytesIn w' g o xs :=
 fun k hk => (hb.cell (p:=⟨g,o + k,none⟩) hg).trans (h k hk)
set_option maxHeartbeats 2000000 in
set_option maxRecDepth 50000 in
theorem spells_any (part name:Str) (w:World) (hp:part.length ≤ 1000) (hn:name.length ≤ 1000) :
  Calls Tryz.prog 150 #[SV part,SV name] w fun e w' => e = .returned (.bool (spelledL part name))∧Below w.heap.size w w':=by
 have h1:=Lib.run_convert_string_bytes (P:=Tryz.prog) w 9 92 5 ⟨name.toArray⟩ (u:=.string) Tryz.underlying9 Tryz.underlying92 Tryz.underlying5
 have b1:=bytes_below w 5 ⟨name.toArray⟩
 have i1:=bytes_in w 5 name
 have z1:=Lib.bytesWorld_size w 5 ⟨name.toArray⟩
 have g1:=grownCap_ge w name.length 0 5
 have m1:=grownCap_le_maxLen w name.length 0 5 (by unfold maxLen;omega)
 rw [show (ByteArray.mk name.toArray).size = name.length by simp [ByteArray.size]] at h1
 generalize grownCap w name.length 0 5 = k1 at *
 generalize Lib.bytesWorld w 5 ⟨name.toArray⟩ = w1 at *
 have h2:=Lib.run_convert_string_bytes (P:=Tryz.prog) w1 9 92 5 ⟨part.toArray⟩ (u:=.string) Tryz.underlying9 Tryz.underlying92 Tryz.underlying5
 have b2:=bytes_below w1 5 ⟨part.toArray⟩
 have i2:=bytes_in w1 5 part
 have g2:=grownCap_ge w1 part.length 0 5
 have m2:=grownCap_le_maxLen w1 part.length 0 5 (by unfold maxLen;omega)
 rw [show (ByteArray.mk part.toArray).size = part.length by simp [ByteArray.size]] at h2
 generalize grownCap w1 part.length 0 5 = k2 at *
 generalize Lib.bytesWorld w1 5 ⟨part.toArray⟩ = w2 at *
 unfold maxLen at m1 m2
 have C:=isLaidB_any part name w1.heap.size 0 k2 w.heap.size 0 k1 w2 i2 (i1.below (by omega) b2) g2 m2 g1 m1 hp hn
 rw [z1] at C
 have HB:Hid (Below w.heap.size w w2):=b1.trans (b2.mono b1.size)
 have HS:Hid (spelledL part name = laidL starB takesB part name):=rfl
 generalize laidL starB takesB part name = b at *
 clear i1 i2 b1 b2 g1 g2
 go_enter Tryz.func150,Tryz.ntmps150
 go_wp2_with (go_at_call 177;refine C.mono ?_;rintro e w3 ⟨rfl,n,rfl⟩)
 go_ret
 exact ⟨by rw [HS.out];rfl,below_drewN HB.out _⟩
end Go.Proofs.YtdcbgfhkfmohiaaGreatDoor

namespace Go.Proofs.YtdcbgfhkfmohiaaGreatDoor
open Go.RowKit Go.Maps Go.Sort Go.Shelf
def Tryz.keysR_ren:Go.Shelf.Ren:=⟨fun | 7 => 56 | 10 => 87 | n => n,fun | 23 => 85 | 26 => 9 | 3 => 122 | 28 => 120 | 0 => 0 | 27 => 119 | 33 => 124 | 4 => 4 | n => n,fun | n => n⟩
theorem Tryz.keysR:Go.Proofs.SlLaysZ.n7 Tryz.prog Tryz.keysR_ren:={
 mixed:=by kernel_rfl
 f7:=⟨Tryz.f56.name,by decide,Tryz.func56.trans (congrArg some (by kernel_rfl))⟩
 f10:=⟨Tryz.f87.name,by decide,Tryz.func87.trans (congrArg some (by kernel_rfl))⟩
 t0:=Tryz.underlying0
 a0:=Tryz.isAgg0
 z0:=Tryz.sizeOf0
 v0:=Tryz.zeroValue0
 t4:=Tryz.underlying4
 a4:=Tryz.isAgg4
 z4:=Tryz.sizeOf4
 v4:=Tryz.zeroValue4
 t23:=Tryz.underlying85
 a23:=Tryz.isAgg85
 z23:=Tryz.sizeOf85
 v23:=Tryz.zeroValue85
 t26:=Tryz.underlying9
 a26:=Tryz.isAgg9
 z26:=Tryz.sizeOf9
 v26:=Tryz.zeroValue9
 t27:=Tryz.underlying119
 a27:=Tryz.isAgg119
 z27:=Tryz.sizeOf119
 v27:=Tryz.zeroValue119
 t28:=Tryz.underlying120
 a28:=Tryz.isAgg120
 z28:=Tryz.sizeOf120
 v28:=Tryz.zeroValue120
 t33:=Tryz.underlying124
 a33:=Tryz.isAgg124
 z33:=Tryz.sizeOf124
 v33:=Tryz.zeroValue124 }
def Tryz.sortedR_ren:Go.Shelf.Ren:=⟨fun | 6 => 55 | 8 => 85 | 9 => 86 | 11 => 120 | 13 => 122 | 12 => 121 | 23 => 160 | 24 => 161 | 14 => 151 | 15 => 152 | 16 => 153 | 17 => 154 | 18 => 155 | 19 => 156 | 20 => 157 | 21 => 158 | 22 => 159 | 25 => 179 | 26 => 180 | 27 => 181 | 28 => 182 | 29 => 183 | 30 => 184 | 31 => 193 | n => n,fun | 26 => 9 | 28 => 120 | 24 => 48 | 0 => 0 | 3 => 3 | 37 => 225 | 48 => 262 | 50 => 264 | 4 => 4 | 40 => 256 | 39 => 255 | 45 => 212 | 5 => 5 | 9 => 9 | 51 => 274 | 55 => 278 | 57 => 281 | 58 => 197 | 33 => 124 | n => n,fun | n => n⟩
theorem Tryz.sortedR:Go.Proofs.SlLaysZ.n6 Tryz.prog Tryz.sortedR_ren:={
 mixed:=by kernel_rfl
 f6:=⟨Tryz.f55.name,by decide,Tryz.func55.trans (congrArg some (by kernel_rfl))⟩
 f8:=⟨Tryz.f85.name,by decide,Tryz.func85.trans (congrArg some (by kernel_rfl))⟩
 f11:=⟨Tryz.f120.name,by decide,Tryz.func120.trans (congrArg some (by kernel_rfl))⟩
 t0:=Tryz.underlying0
 a0:=Tryz.isAgg0
 z0:=Tryz.sizeOf0
 v0:=Tryz.zeroValue0
 t24:=Tryz.underlying48
 a24:=Tryz.isAgg48
 z24:=Tryz.sizeOf48
 v24:=Tryz.zeroValue48
 t26:=Tryz.underlying9
 a26:=Tryz.isAgg9
 z26:=Tryz.sizeOf9
 v26:=Tryz.zeroValue9
 t28:=Tryz.underlying120
 a28:=Tryz.isAgg120
 z28:=Tryz.sizeOf120
 v28:=Tryz.zeroValue120
 i26:=by kernel_rfl }
def Tryz.sortR_ren:Go.Shelf.Ren:=⟨fun | 6 => 86 | 8 => 122 | 9 => 121 | 19 => 160 | 20 => 161 | 21 => 151 | 22 => 152 | 23 => 153 | 24 => 154 | 25 => 155 | 26 => 156 | 27 => 157 | 28 => 158 | 29 => 159 | 36 => 179 | 31 => 180 | 32 => 181 | 37 => 182 | 38 => 183 | 39 => 184 | 41 => 193 | n => n,fun | 27 => 48 | 29 => 9 | 3 => 3 | 32 => 225 | 26 => 48 | 0 => 0 | 44 => 262 | 46 => 264 | 4 => 4 | 36 => 256 | 35 => 255 | 41 => 212 | 5 => 5 | 9 => 9 | 53 => 274 | 57 => 278 | 63 => 281 | 64 => 197 | n => n,fun | n => n⟩
theorem Tryz.sortR:Go.Proofs.SlLaysM.n6 Tryz.prog Tryz.sortR_ren:={
 mixed:=by kernel_rfl
 f6:=⟨Tryz.f86.name,by decide,Tryz.func86.trans (congrArg some (by kernel_rfl))⟩
 f8:=Tryz.func122.trans (congrArg some (by kernel_rfl))
 f9:=⟨Tryz.f121.name,by decide,Tryz.func121.trans (congrArg some (by kernel_rfl))⟩
 f19:=Tryz.func160.trans (congrArg some (by kernel_rfl))
 f20:=Tryz.func161.trans (congrArg some (by kernel_rfl))
 f21:=⟨Tryz.f151.name,by decide,Tryz.func151.trans (congrArg some (by kernel_rfl))⟩
 f22:=⟨Tryz.f152.name,by decide,Tryz.func152.trans (congrArg some (by kernel_rfl))⟩
 f23:=⟨Tryz.f153.name,by decide,Tryz.func153.trans (congrArg some (by kernel_rfl))⟩
 f24:=⟨Tryz.f154.name,by decide,Tryz.func154.trans (congrArg some (by kernel_rfl))⟩
 f25:=⟨Tryz.f155.name,by decide,Tryz.func155.trans (congrArg some (by kernel_rfl))⟩
 f26:=⟨Tryz.f156.name,by decide,Tryz.func156.trans (congrArg some (by kernel_rfl))⟩
 f27:=⟨Tryz.f157.name,by decide,Tryz.func157.trans (congrArg some (by kernel_rfl))⟩
 f28:=⟨Tryz.f158.name,by decide,Tryz.func158.trans (congrArg some (by kernel_rfl))⟩
 f29:=⟨Tryz.f159.name,by decide,Tryz.func159.trans (congrArg some (by kernel_rfl))⟩
 f31:=Tryz.func180.trans (congrArg some (by kernel_rfl))
 f32:=Tryz.func181.trans (congrArg some (by kernel_rfl))
 f36:=⟨Tryz.f179.name,by decide,Tryz.func179.trans (congrArg some (by kernel_rfl))⟩
 f37:=⟨Tryz.f182.name,by decide,Tryz.func182.trans (congrArg some (by kernel_rfl))⟩
 f38:=⟨Tryz.f183.name,by decide,Tryz.func183.trans (congrArg some (by kernel_rfl))⟩
 f39:=⟨Tryz.f184.name,by decide,Tryz.func184.trans (congrArg some (by kernel_rfl))⟩
 f41:=⟨Tryz.f193.name,by decide,Tryz.func193.trans (congrArg some (by kernel_rfl))⟩
 t0:=Tryz.underlying0
 a0:=Tryz.isAgg0
 z0:=Tryz.sizeOf0
 v0:=Tryz.zeroValue0
 t3:=Tryz.underlying3
 a3:=Tryz.isAgg3
 z3:=Tryz.sizeOf3
 v3:=Tryz.zeroValue3
 t4:=Tryz.underlying4
 a4:=Tryz.isAgg4
 z4:=Tryz.sizeOf4
 v4:=Tryz.zeroValue4
 t5:=Tryz.underlying5
 a5:=Tryz.isAgg5
 z5:=Tryz.sizeOf5
 v5:=Tryz.zeroValue5
 t9:=Tryz.underlying9
 a9:=Tryz.isAgg9
 z9:=Tryz.sizeOf9
 v9:=Tryz.zeroValue9
 t26:=Tryz.underlying48
 a26:=Tryz.isAgg48
 z26:=Tryz.sizeOf48
 v26:=Tryz.zeroValue48
 t27:=Tryz.underlying48
 a27:=Tryz.isAgg48
 z27:=Tryz.sizeOf48
 v27:=Tryz.zeroValue48
 t29:=Tryz.underlying9
 a29:=Tryz.isAgg9
 z29:=Tryz.sizeOf9
 v29:=Tryz.zeroValue9
 t32:=Tryz.underlying225
 a32:=Tryz.isAgg225
 z32:=Tryz.sizeOf225
 v32:=Tryz.zeroValue225
 t35:=Tryz.underlying255
 a35:=Tryz.isAgg255
 z35:=Tryz.sizeOf255
 v35:=Tryz.zeroValue255
 t36:=Tryz.underlying256
 a36:=Tryz.isAgg256
 z36:=Tryz.sizeOf256
 v36:=Tryz.zeroValue256
 t41:=Tryz.underlying212
 a41:=Tryz.isAgg212
 z41:=Tryz.sizeOf212
 v41:=Tryz.zeroValue212
 t44:=Tryz.underlying262
 a44:=Tryz.isAgg262
 z44:=Tryz.sizeOf262
 v44:=Tryz.zeroValue262
 t46:=Tryz.underlying264
 a46:=Tryz.isAgg264
 z46:=Tryz.sizeOf264
 v46:=Tryz.zeroValue264
 t53:=Tryz.underlying274
 a53:=Tryz.isAgg274
 z53:=Tryz.sizeOf274
 v53:=Tryz.zeroValue274
 t57:=Tryz.underlying278
 a57:=Tryz.isAgg278
 z57:=Tryz.sizeOf278
 v57:=Tryz.zeroValue278
 t63:=Tryz.underlying281
 a63:=Tryz.isAgg281
 z63:=Tryz.sizeOf281
 v63:=Tryz.zeroValue281
 t64:=Tryz.underlying197
 a64:=Tryz.isAgg197
 z64:=Tryz.sizeOf197
 v64:=Tryz.zeroValue197 }
theorem Tryz.sortsR (m:Nat):AnyZ.SortsIn Tryz.prog Tryz.sortedR_ren Fence.wide m :=
 ⟨fun blk off cap ss W hH hblk hsz => callsIn_wide.2 (AnyM.slices_Sort_string Tryz.sortR blk off cap ss W hH hblk hsz),
  fun p cap W => callsIn_wide.2 (AnyM.slices_Sort_string_none Tryz.sortR p cap W)⟩
theorem prgKeys_any (mb:Option Nat) (w:World):Calls Tryz.prog 56 #[.map mb] w fun e w' => e = .returned (.func (.func 87) #[] #[.pointer (some ⟨w.heap.size,0,none⟩)])∧w' = w.alloc (.cells #[.map mb] 85) :=
 callsIn_wide.1 (AnyZ.keys_in Tryz.keysR Fence.wide 5 trivial rfl mb w)
set_option maxHeartbeats 1000000 in
theorem prgSorted_any {H:Type} (b nn:Nat) (D0:DataW H) (R:Value→Option (DataW H × List MemPlace)) (w:World) (hown:w.ownsMap Tryz.prog 9 R b nn D0) (hmax:Maps.size D0 ≤ maxLen) (hbytes:Maps.size D0 * 16 ≤ 140737488355328) :
  Calls Tryz.prog 55 #[.func (.func 87) #[] #[.pointer (some ⟨w.heap.size,0,none⟩)]] (w.alloc (.cells #[.map (some b)] 85)) fun e w' => ∃ (v:Value) (ss:List (List UInt8)),e = .returned v∧ss.Perm (strKeys D0) ∧
   w'.ownsRow (w.alloc (.cells #[.map (some b)] 85)).heap.size 9 1 v ss.length ((ss.mergeSort (fun x y => decide (x ≤ y))).map encStr)∧(v = .slice none 0 0 ↔ ss = [])∧Below (w.alloc (.cells #[.map (some b)] 85)).heap.size (w.alloc (.cells #[.map (some b)] 85)) w':=by
 have hbl:=hown.lt
 have hseq:SeqGives Fence.wide 2 Tryz.prog 87 #[.pointer (some ⟨w.heap.size,0,none⟩)] encStr (fun ss => ss.Perm (strKeys D0)) (Maps.size D0) (w.alloc (.cells #[.map (some b)] 85)) :=
  AnyZ.keys_gives (ρ:=Tryz.keysR_ren) { Tryz.keysR with } Fence.wide _ trivial rfl (by omega) w.heap.size b nn D0 _ (by simp) (by simp) (by
   obtain ⟨es,clock,hb,Ft,hs,hD⟩:=hown
   exact ⟨es,clock,(Below.heap_alloc _ _ b hbl).trans hb,Ft,hs,hD⟩)
 exact callsIn_wide.1 (AnyZ.sorted_in Tryz.sortedR Fence.wide 5 trivial trivial trivial trivial rfl (by omega) (Tryz.sortsR _) (enters_of Tryz.func86 (by kernel_rfl) rfl) 87 #[.pointer (some ⟨w.heap.size,0,none⟩)] trivial (enters_of Tryz.func87 (by kernel_rfl) rfl) _ _ hmax hbytes _ hseq)
end Go.Proofs.YtdcbgfhkfmohiaaGreatDoor
