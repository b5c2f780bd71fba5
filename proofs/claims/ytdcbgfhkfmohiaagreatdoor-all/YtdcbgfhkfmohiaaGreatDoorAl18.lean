/- Contracts of the library's strings.Split at one byte. -/
import Derived.Test.YtdcbgfhkfmohiaaGreatDoorAl17
import Derived.Shelf.Strings.OnBuilder
import Derived.Shelf.Strings.Search3
import Derived.Shelf.Slices.Turned
import Derived.Ground.Names2Prog
import Derived.Shelf.Slices.Clone
import Derived.Test.YtdcbgfhkfmohiaaGreatDoorProg
import Derived.Lib.Join
namespace Go.Proofs.YtdcbgfhkfmohiaaGreatDoor
open Go.RowKit
theorem splitL_count (c:UInt8) (s:Str):(splitL c s).length = Lib.countByte s c + 1:=by
 unfold Lib.countByte
 induction s with
 | nil => simp [splitL]
 | cons b t ih =>
  unfold splitL
  by_cases h:b = c
  ·rw [if_pos h,List.length_cons,ih,h,List.count_cons_self]
  ·rw [if_neg h,List.count_cons_of_ne h]
   have:=splitL_ne c t
   split
   ·rename_i e;rw [e] at ih;simpa using ih
   ·rename_i e;exact absurd e this
set_option maxHeartbeats 1000000 in
set_option maxRecDepth 100000 in
theorem count_any (s:Str) (c:UInt8) (w:World) :
  Calls Tryz.prog 146 #[SV s,SV [c]] w fun e w' => e = .returned (.int .i64 (Lib.countByte s c:Nat))∧w' = w:=by
 have hG:=get_list
 go_enter Tryz.func146,Tryz.ntmps146
 go_wp2
 rw [run_callFunc_extern Tryz.func174 (by kernel_rfl) (by kernel_rfl) (by kernel_rfl) (e:=Extern.BytealgCount.count) (by kernel_rfl),Lib.run_countString]
 simp only [Result.andThen]
 rw [Oper.upon_value]
 go_wp2
 go_ret
 exact ⟨ret_int (by simp),rfl⟩
set_option maxHeartbeats 2000000 in
set_option maxRecDepth 100000 in
theorem genSplitAll_any (s:Str) (c:UInt8) (w:World) (hs:s.length ≤ 1000) :
  Calls Tryz.prog 115 #[SV s,SV [c],.int .i64 0,.int .i64 (-1)] w fun e w' => ∃ v,e = .returned v∧w'.ownsRow w.heap.size 9 1 v (splitL c s).length ((splitL c s).map SV)∧Below w.heap.size w w':=by
 obtain ⟨i0,hi,hz0,hz1,hz2⟩:=info_parts Tryz.infoStr
 have hX:=extract_list
 obtain ⟨n,hn⟩ : ∃ n,n = Lib.countByte s c:=⟨_,rfl⟩
 have hlen:=splitL_count c s
 have Hn:Hid (splitNL c n s = splitL c s):=splitNL_all (by omega)
 have hn2:n ≤ s.length:=by have:=splitL_len c s;omega
 have hmin:(min (n:Int) (s.length:Int)) = (n:Int):=by omega
 have hn1:n ≤ 1000:=by omega
 have CC:=count_any s c w
 rw [← hn] at CC
 clear hn hlen
 go_enter Tryz.func115,Tryz.ntmps115
 go_wp2_with (first | (go_at_call 146;refine CC.mono ?_;rintro e w ⟨rfl,rfl⟩) | (at_make;go_loud (refine wpList_make_full _ rfl (.tmp 30) (.tmp 30) 48 rfl w.heap.size 9 i0 _ 1 Tryz.underlying48 hi hz0 hz1 _ _ _ _ (n + 1) rfl rfl ?_ ?_ ?_ ?_ ?_ ?_)))
 ·first | omega | (split <;> omega)
 ·first | omega | (split <;> omega)
 ·rw [hz2];omega
 ·unfold maxLen;omega
 ·exact Nat.le_refl _
 intro w1 hown1 hg1
 have hb1:Below w.heap.size w w1:=(Below.refl _ _).grown hg1 (Nat.le_refl _) (fun k hk => by simp at hk)
 obtain ⟨zs0,hzs⟩ : ∃ zs0,w1.ownsRow w.heap.size 9 1 (.slice (some ⟨w.heap.size,0,none⟩) (n + 1) (n + 1)) (n + 1) zs0:=⟨_,hown1⟩
 clear hown1 hg1 CC
 go_wp2
 clear hmin
 go_loopw [0,10,11] (fun sv i _ wr => ∃ (xs:List Str) (rest:Str) (q:Nat) (zs:List Value),i = .int .i64 xs.length∧sv = SV rest∧CutAt c n s xs rest q∧wr.ownsRow w.heap.size 9 1 (.slice (some ⟨w.heap.size,0,none⟩) (n + 1) (n + 1)) (n + 1) zs∧zs.take xs.length = xs.map SV∧Below w.heap.size w wr) (fun _ i _ _ => n - (intOf i).toNat)
 case atStart => exact ⟨[],s,n,zs0,rfl,rfl,⟨by simp,rfl,Nat.le_refl _⟩,hzs,by simp,hb1⟩
 case round =>
  clear hzs hb1
  obtain ⟨xs,rest,q,zs,rfl,rfl,hC,hown,htk,hbel⟩:=hrel
  have hcnt:=hC.cnt
  have hrl:=hC.len
  have hzl:zs.length = n + 1:=by have:=hown.1;omega
  have hcell:=hown.cellAt xs.length (by omega)
  have hfz:=hown.frozenAt xs.length
  obtain ⟨u0,hu0⟩ : ∃ u,zs[xs.length]? = some u:=⟨_,List.getElem?_eq_getElem (by omega)⟩
  rw [hu0] at hcell
  have hml:rest.length ≤ maxLen:=by unfold maxLen;omega
  have hge:=Lib.indexByte_ge rest c
  cases q with
  | zero =>
   have R:Hid _:=hC.ends (.inl rfl)
   have hxn:n ≤ xs.length:=by omega
   have hst:=set_take (t:=rest) (by omega) htk
   have hos:=hown.stored xs.length (SV rest)
   clear hC
   go_wp2
   go_ret
   rw [← Hn.out]
   exact cut_end (by omega) hst hbel R.out (fun m hm => row_take hos.1 hm)
  | succ q =>
   have hxn:xs.length < n:=by omega
   by_cases hneg:Lib.indexByte rest c < 0
   ·have R:Hid _:=hC.ends (.inr hneg)
    have hst:=set_take (t:=rest) (by omega) htk
    have hos:=hown.stored xs.length (SV rest)
    clear hC
    go_wp2_with (go_at_call 147;refine (index_any rest c _ hml).mono ?_;rintro e w' ⟨rfl,rfl⟩)
    go_ret
    rw [← Hn.out]
    exact cut_end (by omega) hst hbel R.out (fun m hm => row_take hos.1 hm)
   ·obtain ⟨m,hm⟩:=Int.eq_ofNat_of_zero_le (show 0 ≤ Lib.indexByte rest c by omega)
    have R:=hC.step hm
    have hsp:=(indexByte_split hm).1
    have hst:=set_take (t:=rest.take m) (by omega) htk
    have hos:=hown.stored xs.length (SV (rest.take m))
    clear hC
    go_wp2_with (go_at_call 147;refine (index_any rest c _ hml).mono ?_;rintro e w' ⟨rfl,rfl⟩)
    go_roundw
    case rel => exact ⟨xs ++ [rest.take m],rest.drop (m + 1),q,_,by simp,by simp [List.take_of_length_le],R,hos.1,by simpa using hst,hbel.grown hos.2 hbel.size (fun k hk => by simp at hk;omega)⟩
    case measure => simp [intOf];omega
set_option maxHeartbeats 1000000 in
theorem prgSplit_any (s:Str) (c:UInt8) (w:World) (hs:s.length ≤ 1000) :
  Calls Tryz.prog 79 #[SV s,SV [c]] w fun e w' => ∃ v,e = .returned v∧w'.ownsRow w.heap.size 9 1 v (splitL c s).length ((splitL c s).map SV)∧Below w.heap.size w w':=by
 go_enter Tryz.func79,Tryz.ntmps79
 go_wp2_with (go_at_call 115;refine (genSplitAll_any s c _ hs).mono ?_;rintro e w' ⟨v,rfl,hown,hbel⟩)
 go_ret
 exact ⟨_,rfl,hown,hbel⟩
end Go.Proofs.YtdcbgfhkfmohiaaGreatDoor

namespace Go.Proofs.YtdcbgfhkfmohiaaGreatDoor
open Go.Shelf
def Tryz.lays156_ren:Go.Shelf.Ren:=⟨fun | 156 => 116 | 165 => 148 | 166 => 48 | 169 => 49 | 240 => 76 | 241 => 176 | 276 => 109 | 277 => 192 | n => n,fun | 31 => 48 | 9 => 9 | 3 => 3 | 4 => 4 | 0 => 0 | 20 => 20 | 72 => 94 | 76 => 106 | 70 => 91 | 37 => 92 | 75 => 104 | 127 => 158 | 164 => 210 | 5 => 5 | 80 => 108 | n => n,fun | n => n⟩
theorem Tryz.lays156:Go.Proofs.Lays.n156 Tryz.prog Tryz.lays156_ren:={
 mixed:=by kernel_rfl
 f156:=Tryz.func116.trans (congrArg some (by kernel_rfl))
 f165:=Tryz.func148.trans (congrArg some (by kernel_rfl))
 f166:=Tryz.func48.trans (congrArg some (by kernel_rfl))
 f169:=Tryz.func49.trans (congrArg some (by kernel_rfl))
 f240:=Tryz.func76.trans (congrArg some (by kernel_rfl))
 f241:=Tryz.func176.trans (congrArg some (by kernel_rfl))
 f276:=Tryz.func109.trans (congrArg some (by kernel_rfl))
 f277:=Tryz.func192.trans (congrArg some (by kernel_rfl))
 t0:=Tryz.underlying0
 a0:=Tryz.isAgg0
 z0:=Tryz.sizeOf0
 v0:=Tryz.zeroValue0
 t3:=Tryz.underlying3
 a3:=Tryz.isAgg3
 z3:=Tryz.sizeOf3
 v3:=Tryz.zeroValue3
 t4:=Tryz.underlying4
 a4:=Tryz.isAgg4
 z4:=Tryz.sizeOf4
 v4:=Tryz.zeroValue4
 t9:=Tryz.underlying9
 a9:=Tryz.isAgg9
 z9:=Tryz.sizeOf9
 v9:=Tryz.zeroValue9
 t20:=Tryz.underlying20
 a20:=Tryz.isAgg20
 z20:=Tryz.sizeOf20
 v20:=Tryz.zeroValue20
 t31:=Tryz.underlying48
 a31:=Tryz.isAgg48
 z31:=Tryz.sizeOf48
 v31:=Tryz.zeroValue48
 t37:=Tryz.underlying92
 a37:=Tryz.isAgg92
 z37:=Tryz.sizeOf92
 v37:=Tryz.zeroValue92
 t70:=Tryz.underlying91
 a70:=Tryz.isAgg91
 z70:=Tryz.sizeOf91
 v70:=Tryz.zeroValue91
 t72:=Tryz.underlying94
 a72:=Tryz.isAgg94
 z72:=Tryz.sizeOf94
 v72:=Tryz.zeroValue94
 t75:=Tryz.underlying104
 a75:=Tryz.isAgg104
 z75:=Tryz.sizeOf104
 v75:=Tryz.zeroValue104
 t76:=Tryz.underlying106
 a76:=Tryz.isAgg106
 z76:=Tryz.sizeOf106
 v76:=Tryz.zeroValue106
 t127:=Tryz.underlying158
 a127:=Tryz.isAgg158
 z127:=Tryz.sizeOf158
 v127:=Tryz.zeroValue158
 t164:=Tryz.underlying210
 a164:=Tryz.isAgg210
 z164:=Tryz.sizeOf210
 v164:=Tryz.zeroValue210 }
theorem Tryz.Builder_Extra_156:Builder.Extra Tryz.prog Tryz.lays156_ren:={
 sizeBuilder:=by kernel_rfl
 liesBuilder:=by kernel_rfl
 t5:=Tryz.underlying5
 a5:=Tryz.isAgg5
 z5:=Tryz.sizeOf5
 v5:=Tryz.zeroValue5
 infoByte:=by kernel_rfl
 cellsByte:=by kernel_rfl
 sizeByte:=by kernel_rfl
 neB5:=by decide }
open Go.RowKit in
theorem Tryz.strings_Join_none (a:Option Addr) (c:Nat) (sep:ByteArray) (w:World) :
  Calls Tryz.prog 116 #[.slice a 0 c,.string sep] w fun e w' => e = .returned (.string ⟨#[]⟩)∧w' = w:=Any.strings_Join_none Tryz.lays156 Tryz.Builder_Extra_156 a c sep w
open Go.RowKit in
theorem Tryz.strings_Join (bk o c:Nat) (xs:List ByteArray) (sep:ByteArray) (w:World) (hcells:∀ (j:Nat) x,xs[j]? = some x→w.cell? ⟨bk,o + j,none⟩ = some (.string x)) (hbk:bk < w.heap.size) (hN:xs.length ≤ 140737488355328) (hcap:xs.length ≤ c) (hlen:(Lib.join (xs.map (·.data.toList)) sep.data.toList).length ≤ 140737488355328) :
  Calls Tryz.prog 116 #[.slice (some ⟨bk,o,none⟩) xs.length c,.string sep] w fun e w' => e = .returned (.string ⟨(Lib.join (xs.map (·.data.toList)) sep.data.toList).toArray⟩)∧Below w.heap.size w w':=Any.strings_Join Tryz.lays156 Tryz.Builder_Extra_156 bk o c xs sep w hcells hbk hN hcap hlen
def Tryz.lays144_ren:Go.Shelf.Ren:=⟨fun | 144 => 171 | 143 => 147 | 219 => 175 | 217 => 188 | 225 => 189 | 224 => 190 | 267 => 191 | 266 => 194 | 314 => 195 | n => n,fun | 9 => 9 | 4 => 4 | 3 => 3 | 5 => 5 | 46 => 225 | 146 => 287 | 51 => 262 | n => n,fun | 1 => 0 | n => n⟩
theorem Tryz.lays144:Go.Proofs.Lays.n144 Tryz.prog Tryz.lays144_ren:={
 mixed:=by kernel_rfl
 f143:=Tryz.func147.trans (congrArg some (by kernel_rfl))
 f144:=Tryz.func171.trans (congrArg some (by kernel_rfl))
 f217:=Tryz.func188.trans (congrArg some (by kernel_rfl))
 f219:=Tryz.func175.trans (congrArg some (by kernel_rfl))
 f224:=Tryz.func190.trans (congrArg some (by kernel_rfl))
 f225:=Tryz.func189.trans (congrArg some (by kernel_rfl))
 f266:=Tryz.func194.trans (congrArg some (by kernel_rfl))
 f267:=Tryz.func191.trans (congrArg some (by kernel_rfl))
 f314:=Tryz.func195.trans (congrArg some (by kernel_rfl))
 t3:=Tryz.underlying3
 a3:=Tryz.isAgg3
 z3:=Tryz.sizeOf3
 v3:=Tryz.zeroValue3
 t4:=Tryz.underlying4
 a4:=Tryz.isAgg4
 z4:=Tryz.sizeOf4
 v4:=Tryz.zeroValue4
 t5:=Tryz.underlying5
 a5:=Tryz.isAgg5
 z5:=Tryz.sizeOf5
 v5:=Tryz.zeroValue5
 t9:=Tryz.underlying9
 a9:=Tryz.isAgg9
 z9:=Tryz.sizeOf9
 v9:=Tryz.zeroValue9
 t46:=Tryz.underlying225
 a46:=Tryz.isAgg225
 z46:=Tryz.sizeOf225
 v46:=Tryz.zeroValue225
 t51:=Tryz.underlying262
 a51:=Tryz.isAgg262
 z51:=Tryz.sizeOf262
 v51:=Tryz.zeroValue262
 t146:=Tryz.underlying287
 a146:=Tryz.isAgg287
 z146:=Tryz.sizeOf287
 v146:=Tryz.zeroValue287
 g1:=by kernel_rfl }
open Go.RowKit Go.Lib in
theorem Tryz.strings_Contains (s sub:ByteArray) (m:Int) (w:World) (hs:s.size < 4294967281) (hm:w.cell? ⟨0,0,none⟩ = some (.int .i64 m)) :
  Calls Tryz.prog 171 #[.string s,.string sub] w fun e w' => e = .returned (.bool (Lib.contains s.data.toList sub.data.toList))∧w' = w:=Any.strings_Contains Tryz.lays144 s sub m w hs hm
def Tryz.lays110_ren:Go.Shelf.Ren:=⟨fun | 110 => 111 | 109 => 143 | n => n,fun | 31 => 48 | 9 => 9 | 4 => 4 | 3 => 3 | 0 => 0 | n => n,fun | n => n⟩
theorem Tryz.lays110:Go.Proofs.Lays.n110 Tryz.prog Tryz.lays110_ren:={
 mixed:=by kernel_rfl
 f109:=Tryz.func143.trans (congrArg some (by kernel_rfl))
 f110:=Tryz.func111.trans (congrArg some (by kernel_rfl))
 t0:=Tryz.underlying0
 a0:=Tryz.isAgg0
 z0:=Tryz.sizeOf0
 v0:=Tryz.zeroValue0
 t3:=Tryz.underlying3
 a3:=Tryz.isAgg3
 z3:=Tryz.sizeOf3
 v3:=Tryz.zeroValue3
 t4:=Tryz.underlying4
 a4:=Tryz.isAgg4
 z4:=Tryz.sizeOf4
 v4:=Tryz.zeroValue4
 t9:=Tryz.underlying9
 a9:=Tryz.isAgg9
 z9:=Tryz.sizeOf9
 v9:=Tryz.zeroValue9
 t31:=Tryz.underlying48
 a31:=Tryz.isAgg48
 z31:=Tryz.sizeOf48
 v31:=Tryz.zeroValue48 }
open Go.Lib in
theorem Tryz.slices_Contains_string (b off n c:Nat) (zs:List ByteArray) (x:ByteArray) (w:World) (hz:n ≤ zs.length) (hbig:n ≤ 9223372036854775807) (hc:∀ j,j < zs.length→w.cell? ⟨b,off + j,none⟩ = some (.string (zs.getD j ByteArray.empty))) :
  Calls Tryz.prog 111 #[.slice (some ⟨b,off,none⟩) n c,.string x] w fun e w' => e = .returned (.bool (Lib.containsS (zs.take n) x))∧w' = w:=Any.slices_Contains_string Tryz.lays110 b off n c zs x w hz hbig hc
open Go.Lib in
theorem Tryz.slices_Contains_string_empty (a:Option Addr) (c:Nat) (x:ByteArray) (w:World) :
  Calls Tryz.prog 111 #[.slice a 0 c,.string x] w fun e w' => e = .returned (.bool false)∧w' = w:=Any.slices_Contains_string_empty Tryz.lays110 a c x w
def Tryz.laysNm216_ren:Go.Shelf.Ren:=⟨fun | 16 => 119 | n => n,fun | 24 => 48 | 9 => 9 | 4 => 4 | n => n,fun | n => n⟩
theorem Tryz.laysNm216:Go.Proofs.Lays2.n16 Tryz.prog Tryz.laysNm216_ren:={
 mixed:=by kernel_rfl
 f16:=Tryz.func119.trans (congrArg some (by kernel_rfl))
 t4:=Tryz.underlying4
 a4:=Tryz.isAgg4
 z4:=Tryz.sizeOf4
 v4:=Tryz.zeroValue4
 t9:=Tryz.underlying9
 a9:=Tryz.isAgg9
 z9:=Tryz.sizeOf9
 v9:=Tryz.zeroValue9
 t24:=Tryz.underlying48
 a24:=Tryz.isAgg48
 z24:=Tryz.sizeOf48
 v24:=Tryz.zeroValue48
 i9:=by kernel_rfl }
open Go.RowKit Go.Lib in
theorem Tryz.slices_Clone_string (b off n c:Nat) (zs:List ByteArray) (w:World) (hz:n ≤ zs.length) (hbig:n * 16 ≤ 140737488355328) (hc:∀ j,j < zs.length→w.cell? ⟨b,off + j,none⟩ = some (.string (zs.getD j ByteArray.empty))) :
  Calls Tryz.prog 119 #[.slice (some ⟨b,off,none⟩) n c] w fun e w' => ∃ v',e = .returned v'∧w'.ownsRow w.heap.size 9 1 v' n ((zs.take n).map (Value.string))∧v' ≠ .slice none 0 0∧Below w.heap.size w w':=Any.slices_Clone_string Tryz.laysNm216 b off n c zs w hz hbig hc
open Go.RowKit Go.Lib in
open Go.RowKit Go.Lib in
theorem Tryz.slices_Clone_string_zero (a:Addr) (c:Nat) (w:World) :
  Calls Tryz.prog 119 #[.slice (some a) 0 c] w fun e w' => ∃ v',e = .returned v'∧w'.ownsRow w.heap.size 9 1 v' 0 []∧v' ≠ .slice none 0 0∧Below w.heap.size w w':=Any.slices_Clone_string_zero Tryz.laysNm216 a c w
end Go.Proofs.YtdcbgfhkfmohiaaGreatDoor

namespace Go.Proofs.YtdcbgfhkfmohiaaGreatDoor
open Go.RowKit
set_option maxHeartbeats 1000000 in
theorem isPartByte_any (c:UInt8) (w:World) :
  Calls Tryz.prog 170 #[.int .u8 c.toNat] w fun e w' => e = .returned (.bool (okByte true c))∧w' = w:=by
 have hlt:c.toNat < 256:=c.toNat_lt
 have C:=isNameByte_any c w
 have HB:Hid (okByte true c = (okByte false c || decide (c.toNat = 42∨c.toNat = 63))):=by rw [Hid];unfold okByte;simp [Bool.or_assoc]
 cases hn:okByte false c
 ·rw [hn] at C
  go_enter Tryz.func170,Tryz.ntmps170
  go_wp2_with (go_at_call 89;refine C.mono ?_;rintro e w ⟨rfl,rfl⟩)
  all_goals
   go_ret
   refine ⟨ret_bool ?_,rfl⟩
   rw [HB.out,hn,Bool.eq_iff_iff]
   simp
   omega
 ·rw [hn] at C
  go_enter Tryz.func170,Tryz.ntmps170
  go_wp2_with (go_at_call 89;refine C.mono ?_;rintro e w ⟨rfl,rfl⟩)
  all_goals
   go_ret
   refine ⟨ret_bool ?_,rfl⟩
   rw [HB.out,hn];rfl
theorem tells_partByte:TellsByte 170 (okByte true):=⟨enters_of Tryz.func170 (by kernel_rfl) rfl,isPartByte_any⟩
theorem stars_iff (s:Str):hasStars s = true ↔ ∃ i:Nat,s[i]? = some (42:UInt8)∧s[i + 1]? = some (42:UInt8):=by
 unfold hasStars
 rw [List.any_eq_true]
 constructor
 ·rintro ⟨k,hk,h⟩
  simp only [Bool.and_eq_true,decide_eq_true_eq,starsAt,beq_iff_eq] at h
  obtain ⟨h1,h2,h3⟩:=h
  exact ⟨k - 1,h3,by rw [show k - 1 + 1 = k by omega];exact h2⟩
 ·rintro ⟨i,h1,h2⟩
  refine ⟨i + 1,?_,?_⟩
  ·rw [List.mem_range];exact (List.getElem?_eq_some_iff.1 h2).1
  ·simp [starsAt,h1,h2]
theorem contains_stars (s:Str):Lib.contains s [42,42] = hasStars s:=by
 rw [Bool.eq_iff_iff,stars_iff]
 unfold Lib.contains
 rw [decide_eq_true_iff]
 induction s with
 | nil => simp [Lib.index]
 | cons b l ih =>
  rw [Lib.index]
  by_cases hp:List.isPrefixOf [42,42] (b :: l) = true
  ·rw [if_pos hp]
   refine ⟨fun _ => ⟨0,?_⟩,fun _ => Int.le_refl _⟩
   cases l with
   | nil => simp [List.isPrefixOf] at hp
   | cons c l => simp [List.isPrefixOf] at hp;simp [← hp.1,← hp.2]
  ·rw [if_neg hp]
   have hge : -1 ≤ Lib.index l [42,42]:=by
    clear ih hp
    induction l with
    | nil => simp [Lib.index]
    | cons c l ih2 =>
     rw [Lib.index]
     split
     ·omega
     ·split
      ·omega
      ·omega
   have hiff:(∃ i:Nat,(b :: l)[i]? = some (42:UInt8)∧(b :: l)[i + 1]? = some (42:UInt8)) ↔ ∃ i:Nat,l[i]? = some (42:UInt8)∧l[i + 1]? = some (42:UInt8):=by
    constructor
    ·rintro ⟨i,h1,h2⟩
     cases i with
     | zero =>
      refine absurd ?_ hp
      cases l with
      | nil => simp at h2
      | cons c l => simp at h1 h2;subst h1 h2;simp [List.isPrefixOf]
     | succ i => exact ⟨i,by simpa using h1,by simpa using h2⟩
    ·rintro ⟨i,h1,h2⟩;exact ⟨i + 1,by simpa using h1,by simpa using h2⟩
   rw [hiff,← ih]
   by_cases he:(Lib.index l [42,42] == -1) = true
   ·rw [if_pos he];simp at he;omega
   ·rw [if_neg he];simp at he;omega
theorem prgContains_any (s:Str) (w:World) (hmx:MaxOk w) (hs:s.length < 1000) :
  Calls Tryz.prog 171 #[SV s,SV [42,42]] w fun e w' => e = .returned (.bool (hasStars s))∧w' = w:=by
 obtain ⟨m,hm⟩:=hmx
 have:=Tryz.strings_Contains ⟨s.toArray⟩ ⟨#[42,42]⟩ m w (by simp [ByteArray.size];omega) hm
 simp only at this
 rw [contains_stars] at this
 exact this
set_option maxHeartbeats 1000000 in
theorem isPart_any (s:Str) (w:World) (hmx:MaxOk w) (hs:s.length ≤ maxLen) :
  Calls Tryz.prog 144 #[SV s] w fun e w' => e = .returned (.bool (partOkL s))∧w' = w:=by
 have C:=isMadeOf_any _ _ tells_partByte s w hs
 rw [← isNameL_madeOf] at C
 cases hss:(s == [42,42])
 ·cases hn:isNameL s true
  ·have R:Hid (partOkL s = false):=by unfold partOkL;rw [Hid,hss,hn];rfl
   rw [hn] at C
   go_enter Tryz.func144,Tryz.ntmps144
   go_wp2_with (go_at_call 88;refine C.mono ?_;rintro e w ⟨rfl,rfl⟩)
   go_ret
   exact ⟨by rw [R.out];rfl,rfl⟩
  ·have hl:=isNameL_len hn
   have C2:=prgContains_any s w hmx (by omega)
   have R:Hid (partOkL s = !hasStars s):=by unfold partOkL;rw [Hid,hss,hn];rfl
   rw [hn] at C
   cases ht:hasStars s
   all_goals
    rw [ht] at C2 R
    go_enter Tryz.func144,Tryz.ntmps144
    go_wp2_with (first | (go_at_call 88;refine C.mono ?_;rintro e w1 ⟨rfl,hw1⟩;cases hw1) | (go_at_call 171;refine C2.mono ?_;rintro e w1 ⟨rfl,hw1⟩;cases hw1))
    go_ret
    exact ⟨by rw [R.out];rfl,rfl⟩
 ·have R:Hid (partOkL s = true):=by unfold partOkL;rw [Hid,hss];rfl
  clear C
  go_enter Tryz.func144,Tryz.ntmps144
  go_wp2
  go_ret
  exact ⟨by rw [R.out];rfl,rfl⟩
def NamesO (base:Nat) (w:World) (v:Value):Option (List Str)→Prop
 | none => v = .slice none 0 0
 | some xs => ∃ g n c,v = .slice (some ⟨g,0,none⟩) n c∧base ≤ g∧g < w.heap.size∧NamesAt w v xs
theorem NamesO.below {base:Nat} {w w' : World} {v:Value} {o:Option (List Str)} (h:NamesO base w v o) (hb:Below w.heap.size w w'):NamesO base w' v o:=by
 cases o with
 | none => exact h
 | some xs =>
  obtain ⟨g,n,c,h1,h2,h3,h4⟩:=h
  exact ⟨g,n,c,h1,h2,Nat.lt_of_lt_of_le h3 hb.size,names_below h4 hb (Nat.le_refl _)⟩
theorem NamesO.form {base:Nat} {w:World} {v:Value} {o:Option (List Str)} (h:NamesO base w v o):∃ ao n c,v = .slice ao n c:=by
 cases o with
 | none => exact ⟨_,_,_,h⟩
 | some xs => obtain ⟨g,n,c,h1,_⟩:=h;exact ⟨_,_,_,h1⟩
theorem NamesO.mono {base base' : Nat} {w:World} {v:Value} {o:Option (List Str)} (h:NamesO base w v o) (hb:base' ≤ base):NamesO base' w v o:=by
 cases o with
 | none => exact h
 | some xs => obtain ⟨g,n,c,h1,h2,h3,h4⟩:=h;exact ⟨g,n,c,h1,Nat.le_trans hb h2,h3,h4⟩
def patO (p:Str):Option (List Str):=if isPatternL p then some (splitL 47 p) else none
def placeL (p:Str):List Str:=if p = [47] then [] else splitL 47 p
def placeO (p:Str):Option (List Str):=if isPlaceL p then some (placeL p) else none
def NamesRet (w:World) (o:Option (List Str)) (e:Ending) (w' : World):Prop:=Below w.heap.size w w'∧∃ v,e = .returned v∧NamesO w.heap.size w' v o
set_option maxHeartbeats 1000000 in
theorem partsOf_any (p:Str) (w:World) (hmx:MaxOk w) (hp:p.length + 1 < maxLen) :
  Calls Tryz.prog 114 #[SV p] w fun e w' => NamesRet w (patO p) e w':=by
 have C:=pieces_in 144 partOkL p w (enters_of Tryz.func144 (by kernel_rfl) rfl) (fun s W hb hs => isPart_any s W (hmx.later hb) hs) hp
 have HN:Hid (∀ e w',PiecesOwn w partOkL p e w'→NamesRet w (patO p) e w'):=fun e w' h => by
  obtain ⟨hb,⟨h0,rfl⟩ | ⟨h1,g,n,c,rfl,hg,hn⟩⟩:=h
  ·have h0' : isPatternL p = false:=h0
   exact ⟨hb,_,rfl,by unfold patO;rw [h0'];rfl⟩
  ·have h1' : isPatternL p = true:=h1
   refine ⟨hb,_,rfl,?_⟩
   unfold patO;rw [h1',if_pos rfl]
   have hlt:g < w'.heap.size:=by
    obtain ⟨ao,cap,e1,_,_,h5⟩:=hn
    obtain ⟨g',o',e2,h6,_⟩:=h5 0 (List.length_pos_iff.2 (splitL_ne 47 p))
    simp only [Value.slice.injEq] at e1
    rw [← e1.1] at e2
    simp only [Option.some.injEq,Addr.mk.injEq] at e2
    omega
   exact ⟨g,n,c,rfl,hg,hlt,hn⟩
 go_enter Tryz.func114,Tryz.ntmps114
 go_wp2_with (go_at_call 90;refine C.mono ?_)
 intro e w1 h1
 obtain ⟨hb,v,rfl,hv⟩:=HN.out e w1 h1
 obtain ⟨ao,n,c,rfl⟩:=hv.form
 have HR:Hid (NamesRet w (patO p) (.returned (.slice ao n c)) w1):=⟨hb,_,rfl,hv⟩
 clear h1 hv
 go_wp2
 go_ret
 exact HR.out
set_option maxHeartbeats 1000000 in
theorem namesOrRoot_own (p:Str) (w:World) (hp:p.length + 1 < maxLen) :
  Calls Tryz.prog 50 #[SV p] w fun e w' => NamesRet w (placeO p) e w':=by
 cases hr:(p == [47])
 ·have hne:p ≠ [47]:=by simpa using hr
  have C:=namesOf_own p w hp
  have HN:Hid (∀ e w',NamesOwn w p e w'→NamesRet w (placeO p) e w'):=fun e w' h => by
   have hpl:isPlaceL p = isPathL p:=by unfold isPlaceL;rw [hr,Bool.or_false]
   obtain ⟨hb,⟨h0,rfl⟩ | ⟨h1,g,n,c,rfl,hg,hn⟩⟩:=h
   ·exact ⟨hb,_,rfl,by unfold placeO;rw [hpl,h0];rfl⟩
   ·refine ⟨hb,_,rfl,?_⟩
    unfold placeO placeL;rw [hpl,h1,if_pos rfl,if_neg hne]
    have hlt:g < w'.heap.size:=by
     obtain ⟨ao,cap,e1,_,_,h5⟩:=hn
     obtain ⟨g',o',e2,h6,_⟩:=h5 0 (List.length_pos_iff.2 (splitL_ne 47 p))
     simp only [Value.slice.injEq] at e1
     rw [← e1.1] at e2
     simp only [Option.some.injEq,Addr.mk.injEq] at e2
     omega
    exact ⟨g,n,c,rfl,hg,hlt,hn⟩
  go_enter Tryz.func50,Tryz.ntmps50
  go_wp2_with (go_at_call 61;refine C.mono ?_)
  intro e w1 h1
  obtain ⟨hb,v,rfl,hv⟩:=HN.out e w1 h1
  obtain ⟨ao,n,c,rfl⟩:=hv.form
  have HR:Hid (NamesRet w (placeO p) (.returned (.slice ao n c)) w1):=⟨hb,_,rfl,hv⟩
  clear h1 hv
  go_wp2
  go_ret
  exact HR.out
 ·have hpe:p = [47]:=by simpa using hr
  subst hpe
  have HN:Hid (∀ w' : World,Below w.heap.size w w'→w.heap.size < w'.heap.size→NamesRet w (placeO [47]) (.returned (.slice (some ⟨w.heap.size,0,none⟩) 0 0)) w'):=fun w' hb hlt =>
   ⟨hb,_,rfl,by
    unfold placeO
    rw [show isPlaceL [47] = true from rfl,if_pos rfl]
    exact ⟨w.heap.size,0,0,rfl,Nat.le_refl _,hlt,⟨_,_,rfl,Nat.le_refl _,by unfold maxLen;omega,fun k hk => by simp [placeL] at hk⟩⟩⟩
  go_enter Tryz.func50,Tryz.ntmps50
  go_wp2
  go_ret
  exact HN.out _ ((Below.refl _ _).alloc (Nat.le_refl _) _) (by simp)

open Go.RowKit
def labE (e:Str × Tree):Str:=match e.2 with
 | .file _ => e.1
 | .dir _ => e.1 ++ [47]
theorem label_join {q:List Str} (h:OkN q):labelL (joinP q) = if 1 < q.length then q.headD [] ++ [47] else q.headD []:=by unfold labelL;rw [h.split]
theorem listF_same {l:List Fl} {i:Nat} {st:Str × Str} (h:∀ f ∈ l,labelL f.1 = st.2):listF i st l = st:=by
 induction l generalizing i with
 | nil => rfl
 | cons f l ih =>
  rw [listF,listStep,if_pos (by rw [h f (by simp)];simp)]
  exact ih fun g hg => h g (by simp [hg])
theorem listF_group {l:List Fl} {i:Nat} {st:Str × Str} {x:Str} (hne:l ≠ []) (h:∀ f ∈ l,labelL f.1 = x) (hx:x ≠ st.2):listF i st l = (st.1 ++ (sepI i ++ x),x):=by
 cases l with
 | nil => exact absurd rfl hne
 | cons f l =>
  have hf:=h f (by simp)
  rw [listF,listStep,if_neg (by rw [hf];simpa using hx),hf]
  exact listF_same fun g hg => h g (by simp [hg])
theorem files_some {t:Tree} (h:WFT t):filesT t ≠ []:=by
 obtain ⟨p,d,hp⟩:=WFT.some t h
 intro e
 have:=(mem_filesT t h p d).2 (sub_of_file hp)
 rw [e] at this;simp at this
theorem group_label {x:Str} {t:Tree} (hx:isNameL x false = true) (ht:WFT t):∀ f ∈ toF ((filesT t).map fun f => (x :: f.1,f.2)),labelL f.1 = labE (x,t):=by
 intro f hf
 simp only [toF,List.mem_map] at hf
 obtain ⟨g,⟨k,hk,rfl⟩,rfl⟩:=hf
 cases t with
 | file d =>
  simp only [filesT,List.mem_singleton] at hk
  subst hk
  rw [label_join ⟨by simp,by simp [hx]⟩]
  simp [labE]
 | dir es =>
  have hw:WFE es:=by unfold WFT at ht;exact ht.2
  have hk' : k ∈ filesE es:=by simpa [filesT] using hk
  have hv:=(valid_files hw).1 k hk'
  rw [label_join ⟨by simp,by intro y hy;simp only [List.mem_cons] at hy;rcases hy with rfl | hy;exact hx;exact hv.2 y hy⟩]
  have:0 < k.1.length:=List.length_pos_iff.2 hv.1
  rw [if_pos (by simp;omega)]
  rfl
theorem lab_ne {x y:Str} {t u:Tree} (hx:isNameL x false = true) (hy:isNameL y false = true) (h:x ≠ y):labE (x,t) ≠ labE (y,u):=by
 have fx:=(name_free hx).1
 have fy:=(name_free hy).1
 intro e
 unfold labE at e
 cases t <;> cases u
 ·exact h e
 ·simp only at e
  exact fx 47 (by rw [e];simp) rfl
 ·simp only at e
  exact fy 47 (by rw [← e];simp) rfl
 ·simp only at e
  exact h (List.append_cancel_right e)
theorem tail_cons (x:Str) (r:List Str):Lib.joinTail [32] (x :: r) = 32 :: x ++ Lib.joinTail [32] r:=by simp [Lib.joinTail]
theorem list_ents:∀ (es:Ents) (i:Nat) (st:Str × Str),WFE es→(∀ e ∈ es,labE e ≠ st.2)→(listF i st (toF (filesE es))).1 = st.1 ++ (if i = 0 then Lib.join (es.map labE) [32] else Lib.joinTail [32] (es.map labE))
 | [],i,st,_,_ => by
  simp only [filesE,toF,List.map_nil,listF]
  split <;> simp [Lib.join_nil,Lib.joinTail]
 | (x,t) :: es,i,st,hw,hl => by
  have hw':=hw
  unfold WFE at hw
  obtain ⟨hx,ht,hlt,hes⟩:=hw
  have hsp:toF (filesE ((x,t) :: es)) = toF ((filesT t).map fun f => (x :: f.1,f.2)) ++ toF (filesE es):=by simp [toF,filesE]
  have hne:toF ((filesT t).map fun f => (x :: f.1,f.2)) ≠ []:=by simpa [toF] using files_some ht
  rw [hsp,listF_app,listF_group hne (group_label hx ht) (hl _ (by simp))]
  have hk:0 < (toF ((filesT t).map fun f => (x :: f.1,f.2))).length:=List.length_pos_iff.2 hne
  rw [list_ents es _ _ hes (fun e he => by
   obtain ⟨y,u⟩:=e
   have hy:=(hes.mem _ he).1
   exact lab_ne hy hx (bl_ne (hlt _ he)).symm),if_neg (by omega)]
  simp only [List.map_cons]
  by_cases h0:i = 0
  ·subst h0
   rw [if_pos rfl,Lib.join_cons]
   simp [sepI]
  ·rw [if_neg h0,tail_cons]
   simp [sepI,h0]
theorem listed_ents {es:Ents} (h:WFE es):listedL (toF (filesE es)) = 58 :: Lib.join (es.map labE) [32]:=by
 unfold listedL
 rw [list_ents es 0 _ h (fun e he => by
  have hx:=(name_free (h.mem e he).1).2
  unfold labE
  cases e.2
  ·exact hx
  ·simp),if_pos rfl]
 rfl
theorem place_ok {p:Str} (h:isPlaceL p = true):p = [47]∨(p ≠ [47]∧isPathL p = true∧placeL p = splitL 47 p∧OkN (placeL p)∧joinP (placeL p) = p):=by
 by_cases hp:p = [47]
 ·exact .inl hp
 ·have h1:isPathL p = true:=by
   unfold isPlaceL at h
   simpa [hp] using h
  obtain ⟨h2,h3,_⟩:=path_ok h1
  have e:placeL p = splitL 47 p:=by unfold placeL;rw [if_neg hp]
  exact .inr ⟨hp,h1,e,by rw [e];exact h2,by rw [e];exact h3⟩
def kindT (es:Ents) (q:List Str):Str:=match look (some (.dir es)) q with
 | .atFile => fileT
 | .atDir => dirT
 | _ => noT
theorem kind_tree {es:Ents} {p:Str} (h:WFE es) (hp:isPlaceL p = true):kindL (toF (filesE es)) p = kindT es (placeL p):=by
 rcases place_ok hp with rfl | ⟨hne,_,_,hok,hj⟩
 ·unfold kindL kindT
  rw [if_neg (by have:=get_root h;omega),show placeL [47] = [] from rfl]
  rfl
 ·obtain ⟨h1,h2,_⟩:=look_names h hok
  rw [hj] at h1 h2
  unfold kindL kindT
  by_cases hf:0 ≤ getI (toF (filesE es)) p
  ·rw [if_pos hf,h1.2 (by omega)]
  ·rw [if_neg hf]
   have n1:look (some (.dir es)) (placeL p) ≠ .atFile:=fun e => hf (by have:=h1.1 e;omega)
   by_cases hd:isDirL (toF (filesE es)) p = true
   ·rw [if_pos hd,h2.2 hd]
   ·rw [if_neg hd]
    have n2:look (some (.dir es)) (placeL p) ≠ .atDir:=fun e => hd (h2.1 e)
    split
    ·rename_i e;exact absurd e n1
    ·rename_i e;exact absurd e n2
    ·rfl
theorem lookD:∀ (q:List Str) (t:Tree),look (some t) q = .atDir ↔ ∃ b,sub t q = some (.dir b)
 | [],t => by cases t <;> simp [look,sub]
 | x :: r,.file d => by simp [look,sub]
 | x :: r,.dir es => by
  rw [look,sub]
  cases h:findE es x with
  | none => simp [look]
  | some u => simpa using lookD r u
def listT (es:Ents) (q:List Str):Str:=match sub (.dir es) q with
 | some (.dir b) => 58 :: Lib.join (b.map labE) [32]
 | _ => noT
theorem list_tree {es:Ents} {p:Str} (h:WFE es) (hp:isPlaceL p = true):listL (toF (filesE es)) p = listT es (placeL p):=by
 rcases place_ok hp with rfl | ⟨hne,_,_,hok,hj⟩
 ·unfold listL listT
  rw [show placeL [47] = [] from rfl,show isDirL (toF (filesE es)) [47] = true from by simp [isDirL],if_pos rfl,in_root h,listed_ents h]
  rfl
 ·obtain ⟨_,h2,_⟩:=look_names h hok
  rw [hj] at h2
  unfold listL listT
  by_cases hd:isDirL (toF (filesE es)) p = true
  ·rw [if_pos hd]
   obtain ⟨b,hb⟩:=(lookD _ _).1 (h2.2 hd)
   obtain ⟨h3,h4⟩:=in_files h hok hb
   rw [hj] at h3
   rw [hb,h3,listed_ents h4]
  ·rw [if_neg hd]
   split
   ·rename_i b hb
    exact absurd (h2.1 ((lookD _ _).2 ⟨b,hb⟩)) hd
   ·rfl
def readT (es:Ents) (q:List Str):Str:=match sub (.dir es) q with
 | some (.file d) => 61 :: d
 | _ => noT
theorem read_tree {es:Ents} {p:Str} (h:WFE es) (hp:isPlaceL p = true):readL (toF (filesE es)) p = readT es (placeL p):=by
 rcases place_ok hp with rfl | ⟨hne,_,_,hok,hj⟩
 ·unfold readL readT
  rw [if_neg (by have:=get_root h;omega)]
  rfl
 ·have h1:=get_file h hok
  rw [hj] at h1
  unfold readL readT
  by_cases hf:0 ≤ getI (toF (filesE es)) p
  ·rw [if_pos hf]
   cases hd:fileAt (.dir es) (placeL p) with
   | none => have:=h1.2 hd;omega
   | some d =>
    have:=data_at h hok (sub_of_file hd)
    rw [hj] at this
    rw [this,sub_of_file hd]
  ·rw [if_neg hf]
   split
   ·rename_i d hd
    have:=h1.1 (by omega)
    rw [fileAt,hd] at this
    simp at this
   ·rfl
def firstT (es:Ents) (x:Str):List (List Str)→Str
 | [] => noT
 | q :: qs => if look (some (.dir es)) (q ++ [x]) = .atFile then joinP (q ++ [x]) else firstT es x qs
theorem first_tree {es:Ents} {x:Str} (h:WFE es) (hx:isNameL x false = true):∀ (ds:List Str),(∀ d ∈ ds,isPlaceL d = true)→firstL (toF (filesE es)) x ds = firstT es x (ds.map placeL)
 | [],_ => rfl
 | d :: ds,hd => by
  have hj:joinP (placeL d ++ [x]) = inDir d x∧OkN (placeL d ++ [x]):=by
   rcases place_ok (hd d (by simp)) with rfl | ⟨hne,_,_,hok,hj⟩
   ·exact ⟨rfl,by simp [placeL],by simp [placeL,hx]⟩
   ·refine ⟨?_,hok.app (by simp [hx])⟩
    rw [joinP_app hok.1 (by simp),hj]
    unfold inDir
    rw [if_neg (by simpa using hne)]
    rfl
  obtain ⟨h1,_⟩:=look_names h hj.2
  rw [hj.1] at h1
  rw [firstL,List.map_cons,firstT,first_tree h hx ds (fun e he => hd e (by simp [he])),hj.1]
  by_cases hf:0 ≤ getI (toF (filesE es)) (inDir d x)
  ·rw [if_pos hf,if_pos (h1.2 (by omega))]
  ·rw [if_neg hf,if_neg (fun e => hf (by have:=h1.1 e;omega))]
theorem chg_files {es:Ents} (h:WFE es) (h5:heightE es ≤ 5):chgS 6 [] none (some (.dir es)) = (filesE es).map fun f => (joinP f.1,43):=by
 have fb:=fits_root h h5
 have fa:fitsT 6 none:=trivial
 have e:=chg_names 6 [] none (some (.dir es)) (by simp) fa fb
 rw [show joinP [] = [] from rfl] at e
 rw [e]
 have hm:=chg_mem 6 none (some (.dir es)) fa fb trivial h
 have hs:=chg_sorted 6 none (some (.dir es)) fa fb trivial h
 have hc:chgN 6 none (some (.dir es)) = (filesE es).map fun f => (f.1,43):=by
  have hall:∀ x ∈ chgN 6 none (some (.dir es)),x.2 = 43:=by
   rintro ⟨p,m⟩ hx
   obtain ⟨h1,h2⟩:=(hm p m).1 hx
   cases hf:fileAtO (some (.dir es)) p with
   | none => rw [hf] at h1;simp [markF,fileAtO] at h1;exact absurd h1 h2
   | some d => rw [hf] at h1;simpa [markF,fileAtO] using h1
  have e1:(chgN 6 none (some (.dir es))).map (fun f => (f.1,([]:Str))) = (filesE es).map fun f => (f.1,[]):=by
   refine sorted_unique ?_ ?_ ?_
   ·unfold SortedN;rw [List.pairwise_map];exact hs
   ·unfold SortedN;rw [List.pairwise_map]
    exact sorted_filesE es h
   ·rintro ⟨p,k⟩
    simp only [List.mem_map,Prod.mk.injEq]
    constructor
    ·rintro ⟨⟨p',m⟩,hx,e1,e2⟩
     simp only at e1;subst e1
     obtain ⟨h1,h2⟩:=(hm p' m).1 hx
     cases hf:fileAtO (some (.dir es)) p' with
     | none => rw [hf] at h1;simp [markF,fileAtO] at h1;exact absurd h1 h2
     | some d => exact ⟨(p',d),(mem_root h p' d).2 hf,rfl,e2⟩
    ·rintro ⟨f,hf,e1,e2⟩
     subst e1
     refine ⟨(f.1,43),(hm f.1 43).2 ⟨?_,by decide⟩,rfl,e2⟩
     rw [show fileAtO (some (.dir es)) f.1 = fileAt (.dir es) f.1 from rfl,(mem_root h f.1 f.2).1 hf]
     rfl
  have e2:chgN 6 none (some (.dir es)) = ((chgN 6 none (some (.dir es))).map (fun f => (f.1,([]:Str)))).map fun f => (f.1,43):=by
   rw [List.map_map]
   conv => lhs;rw [← List.map_id (chgN 6 none (some (.dir es)))]
   apply List.map_congr_left
   intro x hx
   have:=hall x hx
   obtain ⟨p,m⟩:=x
   simp only at this;subst this;rfl
  rw [e2,e1,List.map_map];rfl
 rw [hc,List.map_map]
 apply List.map_congr_left
 intro f _
 simp
noncomputable def globT (es:Ents) (p:Str):Str:=(chgS 6 [] none (some (.dir es))).flatMap fun z => if fitsL p z.1 then z.1 ++ [10] else []
theorem glob_tree {es:Ents} {p:Str} (h:WFE es) (h5:heightE es ≤ 5):globL (toF (filesE es)) p = globT es p:=by
 unfold globL globT
 rw [chg_files h h5]
 simp only [toF,List.flatMap_map]

open Go.RowKit
theorem cell_blk {w w' : World} {b o:Nat} (h:w'.heap[b]? = w.heap[b]?):w'.cell? ⟨b,o,none⟩ = w.cell? ⟨b,o,none⟩:=by simp only [World.cell?,h]
def KeptFrom (base:Nat) (w w' : World):Prop:=w.heap.size ≤ w'.heap.size∧∀ k,base ≤ k→k < w.heap.size→w'.heap[k]? = w.heap[k]?
theorem KeptFrom.of_below {base:Nat} {w w' : World} (h:Below w.heap.size w w'):KeptFrom base w w':=⟨h.size,fun k _ hk => h.block k hk⟩
theorem KeptFrom.setCell {base:Nat} {w:World} {b i:Nat} (hb:b < base) (v:Value):KeptFrom base w (w.setCell ⟨b,i,none⟩ v):=by
 have h:=setCell_frame w b i v
 exact ⟨by rw [h.2.2.2.1];exact Nat.le_refl _,fun k hk _ => h.2.2.2.2 k (by omega)⟩
theorem NamesO.frame {base:Nat} {w w' : World} {v:Value} {o:Option (List Str)} (h:NamesO base w v o) (hs:w.heap.size ≤ w'.heap.size) (hk:∀ j,v.ownBlock = some j→w'.heap[j]? = w.heap[j]?):NamesO base w' v o:=by
 cases o with
 | none => exact h
 | some xs =>
  obtain ⟨g,n,c,rfl,h2,h3,h4⟩:=h
  refine ⟨g,n,c,rfl,h2,Nat.lt_of_lt_of_le h3 hs,?_⟩
  obtain ⟨ao,cap,e1,h5,h6,h7⟩:=h4
  refine ⟨ao,cap,e1,h5,h6,fun k hk2 => ?_⟩
  obtain ⟨g',o',e2,h8,h9⟩:=h7 k hk2
  simp only [Value.slice.injEq] at e1
  have e3:=e1.1.trans e2
  simp only [Option.some.injEq,Addr.mk.injEq] at e3
  exact ⟨g',o',e2,Nat.lt_of_lt_of_le h8 hs,(cell_blk (hk g' (by simp [Value.ownBlock,e3.1]))).trans h9⟩
theorem NamesO.lt {base:Nat} {w:World} {v:Value} {o:Option (List Str)} (h:NamesO base w v o) {j:Nat} (hj:v.ownBlock = some j):base ≤ j∧j < w.heap.size:=by
 cases o with
 | none => rw [show v = .slice none 0 0 from h] at hj;simp [Value.ownBlock] at hj
 | some xs =>
  obtain ⟨g,n,c,rfl,h2,h3,h4⟩:=h
  simp [Value.ownBlock] at hj
  omega
theorem NamesO.kept {base base' : Nat} {w w' : World} {v:Value} {o:Option (List Str)} (h:NamesO base w v o) (hb:base' ≤ base) (hk:KeptFrom base' w w'):NamesO base w' v o :=
 h.frame hk.1 fun j hj => hk.2 j (Nat.le_trans hb (h.lt hj).1) (h.lt hj).2
def TargetRet (w:World) (o:Option (List Str)) (e:Ending) (w' : World):Prop:=Below w.heap.size w w'∧∃ ao n c,e = .returned (.agg #[.slice ao n c])∧NamesO w.heap.size w' (.slice ao n c) o
theorem Tryz.sizeTarget:(Tryz.prog.info? 164).map (·.size) = some 1:=by kernel_rfl
set_option maxHeartbeats 1000000 in
set_option maxRecDepth 50000 in
theorem targetOf_any (p:Str) (w:World) (hp:p.length + 1 < maxLen) :
  Calls Tryz.prog 113 #[SV p] w fun e w' => TargetRet w (placeO p) e w':=by
 obtain ⟨w1,hw1⟩ : ∃ w1:World,w1 = w.alloc (.cells #[.slice none 0 0] 164):=⟨_,rfl⟩
 have hb1:Below w.heap.size w w1:=by rw [hw1];exact (Below.refl _ _).alloc (Nat.le_refl _) _
 have hn1:w1.heap[w.heap.size]? = some (.cells #[.slice none 0 0] 164 (0,0)):=by rw [hw1];exact heap_alloc_new _ _
 have hs1:w.heap.size < w1.heap.size:=(Array.getElem?_eq_some_iff.1 hn1).1
 have C:=namesOrRoot_own p w1 hp
 have HW1:Hid _:=hw1
 have HB1:Hid _:=hb1
 clear hw1 hb1
 go_enter Tryz.func113,Tryz.ntmps113
 go_wp2_with fail
 rw [← HW1.out]
 refine C.mono ?_
 rintro e w2 ⟨hb2,v,rfl,hv⟩
 obtain ⟨ao,n,c,rfl⟩:=hv.form
 have hn2:w2.heap[w.heap.size]? = some (.cells #[.slice none 0 0] 164 (0,0)):=(hb2.block _ hs1).trans hn1
 have c2:=blk_cell hn2 0
 have f2:=blk_free hn2 0
 have HN2:Hid _:=hn2
 have HB2:Hid _:=hb2
 have HV:Hid (NamesO w1.heap.size w2 (.slice ao n c) (placeO p)):=hv
 have hlt2:w.heap.size < w2.heap.size:=(Array.getElem?_eq_some_iff.1 hn2).1
 clear hn2 hb2 hv C hn1
 simp at c2
 go_wp2
 have hh:(w2.setCell ⟨w.heap.size,0,none⟩ (.slice ao n c)).heap[w.heap.size]? = some (.cells #[.slice ao n c] 164 (0,0)):=(setCell_blk (i:=0) HN2.out (.slice ao n c)).trans (by simp)
 refine bodyPost_ret (v:=.agg #[.slice ao n c]) ?_ rfl ⟨?_,_,_,_,rfl,?_⟩
 ·rw [results_one (p:=2) (ty:=164) (by kernel_rfl)]
  exact run_loadVar_row _ w.heap.size 164 164 #[.slice ao n c] (0,0) _ hh Tryz.underlying164 rfl Tryz.sizeTarget
 ·exact (HB1.out.trans (HB2.out.mono HB1.out.size)).setCell (p:=⟨w.heap.size,0,none⟩) (Nat.le_refl _) _
 ·exact (HV.out.kept (base':=w1.heap.size) (Nat.le_refl _) (KeptFrom.setCell hs1 _)).mono HB1.out.size
def TargetsAt (base:Nat) (w:World) (v:Value) (ds:List (Option (List Str))):Prop :=
 ∃ us:List Value,w.ownsRow base 164 1 v ds.length us∧∀ (k:Nat) u d,us[k]? = some u→ds[k]? = some d→NamesO base w u d∧∀ j,u.ownBlock = some j→v.ownBlock ≠ some j
theorem TargetsAt.nil (base:Nat) (w:World):TargetsAt base w (.slice none 0 0) []:=⟨[],World.ownsRow_nil _ _ _ _,fun k u d h => by simp at h⟩
theorem TargetsAt.below {base:Nat} {w w' : World} {v:Value} {ds:List (Option (List Str))} (h:TargetsAt base w v ds) (hb:Below w.heap.size w w'):TargetsAt base w' v ds:=by
 obtain ⟨us,h1,h2⟩:=h
 exact ⟨us,rowKept h1 (fun k hk => hb.block k (h1.lt k hk).2),fun k u d hu hd => ⟨(h2 k u d hu hd).1.below hb,(h2 k u d hu hd).2⟩⟩
theorem TargetsAt.push {base:Nat} {w w1 w2:World} {v v' u:Value} {us:List Value} {ds:List (Option (List Str))} {d:Option (List Str)} (h1:w.ownsRow base 164 1 v ds.length us) (h2:∀ (k:Nat) u d,us[k]? = some u→ds[k]? = some d→NamesO base w u d∧∀ j,u.ownBlock = some j→v.ownBlock ≠ some j) (hbase:base ≤ w.heap.size) (hb:Below w.heap.size w w1) (hu:NamesO w.heap.size w1 u d)
  (hrow:w2.ownsRow base 164 1 v' (ds.length + 1) (us ++ [u])) (hg:w1.grownBy w2 v.ownBlock) (hm:Moved w1 v v'):TargetsAt base w2 v' (ds ++ [d]):=by
 have hl:us.length = ds.length:=by have:=h1.1;omega
 have hvl:∀ k,v.ownBlock = some k→k < w.heap.size:=fun k hk => (h1.lt k hk).2
 refine ⟨us ++ [u],by rw [List.length_append];exact hrow,?_⟩
 intro k x y hx hy
 by_cases hk:k < us.length
 ·rw [List.getElem?_append_left hk] at hx
  rw [List.getElem?_append_left (by omega)] at hy
  obtain ⟨h3,h4⟩:=h2 k x y hx hy
  refine ⟨(h3.below hb).frame hg.size (fun j hj => hg.block j (by have:=(h3.lt hj).2;have:=hb.size;omega) (fun e => h4 j hj e.symm)),fun j hj e => ?_⟩
  rcases hm j e with h5 | h5
  ·exact h4 j hj h5
  ·have:=(h3.lt hj).2;have:=hb.size;omega
 ·have hke:k = us.length:=by
   have:=(List.getElem?_eq_some_iff.1 hx).1
   simp at this;omega
  subst hke
  rw [List.getElem?_append_right (Nat.le_refl _)] at hx
  rw [hl,List.getElem?_append_right (Nat.le_refl _)] at hy
  simp at hx hy
  subst hx hy
  refine ⟨(hu.frame hg.size (fun j hj => hg.block j (hu.lt hj).2 (fun e => by have:=hvl j e.symm;have:=(hu.lt hj).1;omega))).mono hbase,fun j hj e => ?_⟩
  rcases hm j e with h5 | h5
  ·have:=hvl j h5;have:=(hu.lt hj).1;omega
  ·have:=(hu.lt hj).2;omega
theorem Tryz.infoTarget:(Tryz.prog.info? 164).map (fun i => (i.zero,i.size,i.bytes)) = some (some (.agg #[.slice none 0 0]),1,24):=by kernel_rfl
def TargetsRet (w:World) (ds:List (Option (List Str))) (e:Ending) (w' : World):Prop:=Below w.heap.size w w'∧∃ v,e = .returned v∧TargetsAt w.heap.size w' v ds
set_option maxHeartbeats 4000000 in
set_option maxRecDepth 50000 in
theorem targetsOf_any (xs:List Str) (nv:Value) (w:World) (hn:NamesAt w nv xs) (hx:∀ x ∈ xs,x.length ≤ 1000) (hl:xs.length ≤ 1000) :
  Calls Tryz.prog 112 #[nv] w fun e w' => TargetsRet w (xs.map placeO) e w':=by
 obtain ⟨ao,cap,rfl,hc,hm,hcell⟩:=hn
 have HC:Hid _:=hcell
 have HX:Hid _:=hx
 clear hcell hx
 go_enter Tryz.func112,Tryz.ntmps112
 go_wp2
 go_loopw [3,8] (fun v i wr => ∃ k:Nat,k ≤ xs.length∧i = .int .i64 k∧TargetsAt w.heap.size wr v ((xs.take k).map placeO)∧Below w.heap.size w wr) (fun _ i _ => xs.length - (intOf i).toNat)
 case atStart => exact ⟨0,Nat.zero_le _,rfl,TargetsAt.nil _ _,Below.refl _ _⟩
 case round =>
  obtain ⟨k,hk,rfl,hT,hb⟩:=hrel
  by_cases hlt:k < xs.length
  ·obtain ⟨g,o,rfl,hg,hcl⟩:=HC.out k hlt
   have ck:wr.cell? ⟨g,o + k,none⟩ = some (SV xs[k]):=(hb.cell (p:=⟨g,o + k,none⟩) hg).trans hcl
   have hxl:=HX.out _ (List.getElem_mem hlt)
   have hki:(k:Int) < (xs.length:Int):=by omega
   have C:=targetOf_any xs[k] wr (by unfold maxLen;omega)
   have hlen:((xs.take k).map placeO).length = k:=by simp;omega
   have HB:Hid _:=hb
   obtain ⟨us0,hrow0,hnam0⟩:=hT
   have HP:Hid (∀ w2 w3 v' u,Below wr.heap.size wr w2→NamesO wr.heap.size w2 u (placeO xs[k])→w3.ownsRow w.heap.size 164 1 v' (k + 1) (us0 ++ [u])→w2.grownBy w3 u3.ownBlock→Moved w2 u3 v'→TargetsAt w.heap.size w3 v' ((xs.take (k + 1)).map placeO)):=fun w2 w3 v' u h1 h2 h3 h4 h5 => by
    rw [List.take_succ_eq_append_getElem hlt,List.map_append]
    exact TargetsAt.push hrow0 hnam0 hb.size h1 h2 (by rw [hlen];exact h3) h4 h5
   rw [hlen] at hrow0
   obtain ⟨ao0,cap0,rfl⟩:=row_form hrow0
   have HR0:Hid (wr.ownsRow w.heap.size 164 1 (.slice ao0 k cap0) k us0):=hrow0
   clear hb hcl hrow0 hnam0 hlen
   go_wp2_with fail
   refine C.mono ?_
   rintro e w2 ⟨hb2,ao2,n2,c2,rfl,hv2⟩
   have HB2:Hid _:=hb2
   have HV2:Hid (NamesO wr.heap.size w2 (.slice ao2 n2 c2) (placeO xs[k])):=hv2
   have HR2:Hid (w2.ownsRow w.heap.size 164 1 (.slice ao0 k cap0) k us0):=rowKept HR0.out (fun j hj => hb2.block j (HR0.out.lt j hj).2)
   have hbase2:w.heap.size ≤ w2.heap.size:=Nat.le_trans HB.out.size hb2.size
   clear hb2 hv2 C ck
   go_wp2_with (at_builtin;go_loud (refine wp_app_at 172 164 _ 1 24 Tryz.infoTarget Tryz.underlying172 rfl (by decide) rfl (.tmp 12) (.tmp 15) rfl (base:=w.heap.size) HR2.out [.slice ao2 n2 c2] rfl (by intro u hu;simp at hu;subst hu;rfl) ⟨rfl,rfl,rfl,rfl⟩ rfl rfl (by unfold maxLen;omega) (by omega) hbase2 ?_))
   intro v' w3 hrow3 hg3 hm3
   have HT3:Hid _:=HP.out w2 w3 v' _ HB2.out HV2.out hrow3 hg3 hm3
   have HB3:Hid (Below w.heap.size w w3):=(HB.out.trans (HB2.out.mono HB.out.size)).grown hg3 (Nat.le_trans HB.out.size HB2.out.size) (fun j hj => (HR0.out.lt j hj).1)
   obtain ⟨ao3,cap3,rfl⟩:=row_form hrow3
   clear hrow3 hg3 hm3 HP HR2 HR0
   go_wp2
   go_roundw
   case rel => exact ⟨k + 1,by omega,by go_num,HT3.out,HB3.out⟩
   case measure => simp [intOf];omega
  ·have hki:¬ (k:Int) < (xs.length:Int):=by omega
   have R:Hid (TargetsRet w (xs.map placeO) (.returned u3) wr):=⟨hb,_,rfl,by rw [List.take_of_length_le (by omega)] at hT;exact hT⟩
   obtain ⟨us0,hrow0,_⟩:=hT
   rw [show ((xs.take k).map placeO).length = k by simp;omega] at hrow0
   obtain ⟨ao0,cap0,rfl⟩:=row_form hrow0
   clear hb hrow0
   go_wp2
   go_ret
   exact R.out

open Go.RowKit
inductive Qn where
 | ex (o:Option (List Str)):Qn
 | li (o:Option (List Str)):Qn
 | re (o:Option (List Str)):Qn
 | gl (o:Option (List Str)):Qn
 | fi (x:Str) (ds:List (Option (List Str))):Qn
def qnOf (xs:List Str):Option Qn :=
 if xs.any (· == []) then none
 else if xs.headD [] == kFirst && decide (2 < xs.length) then some (.fi (xs.getD 1 []) ((xs.drop 2).map placeO))
 else if xs.length ≠ 2 then none
 else if xs.headD [] == kExists then some (.ex (placeO (xs.getD 1 [])))
 else if xs.headD [] == kList then some (.li (placeO (xs.getD 1 [])))
 else if xs.headD [] == kRead then some (.re (placeO (xs.getD 1 [])))
 else if xs.headD [] == kGlob then some (.gl (patO (xs.getD 1 [])))
 else none
def faultO (n:Nat) (o:Option (List Str)):Nat:=if o.isSome then 0 else n
def faultQ:Qn→Nat
 | .ex o => faultO 3 o
 | .li o => faultO 3 o
 | .re o => faultO 3 o
 | .gl o => faultO 9 o
 | .fi x ds => if isNameL x false then (if ds.all (·.isSome) then 0 else 3) else 3
def parseW (xs:List Str):Nat:=match qnOf xs with
 | none => 10
 | some q => faultQ q
theorem fault_place (p:Str):faultO 3 (placeO p) = if isPlaceL p then 0 else 3:=by
 unfold faultO placeO
 cases isPlaceL p <;> rfl
theorem fault_pat (p:Str):faultO 9 (patO p) = if isPatternL p then 0 else 9:=by
 unfold faultO patO
 cases isPatternL p <;> rfl
theorem places_two {a p:Str} (h:(a == kFirst) = false):placesE [a,p] = if isPlaceL p then 0 else 3:=by
 unfold placesE
 have e:(List.range [a,p].length) = [0,1]:=rfl
 rw [e]
 simp only [List.all_cons,List.all_nil,Bool.and_true]
 have w1:wordOk a 1 p = isPlaceL p:=by unfold wordOk;rw [h];rfl
 simp [w1]
theorem places_first {x:Str} {ds:List Str}:placesE (kFirst :: x :: ds) = if isNameL x false then (if (ds.map placeO).all (·.isSome) then 0 else 3) else 3:=by
 have hall:((List.range (kFirst :: x :: ds).length).all fun i => i == 0 || wordOk ((kFirst :: x :: ds).headD []) i ((kFirst :: x :: ds).getD i [])) = (isNameL x false && (ds.map placeO).all (·.isSome)):=by
  rw [Bool.eq_iff_iff,List.all_eq_true,Bool.and_eq_true,List.all_eq_true]
  constructor
  ·intro h
   refine ⟨?_,?_⟩
   ·have:=h 1 (by simp)
    simpa [wordOk] using this
   ·intro o ho
    rw [List.mem_map] at ho
    obtain ⟨d,hd,rfl⟩:=ho
    obtain ⟨j,hj,rfl⟩:=List.getElem_of_mem hd
    have:=h (j + 2) (by simp;omega)
    simp [wordOk,hj] at this
    unfold placeO;rw [this];rfl
  ·rintro ⟨h1,h2⟩ i hi
   match i with
   | 0 => rfl
   | 1 => simpa [wordOk] using h1
   | j + 2 =>
    simp at hi
    have:=h2 (placeO ds[j]) (List.mem_map.2 ⟨_,List.getElem_mem hi,rfl⟩)
    have h3:isPlaceL ds[j] = true:=by
     unfold placeO at this
     cases h:isPlaceL ds[j]
     ·rw [h] at this;simp at this
     ·rfl
    simp [wordOk,hi,h3]
 unfold placesE
 rw [hall]
 cases isNameL x false <;> cases (ds.map placeO).all (·.isSome) <;> rfl
theorem parse_check (xs:List Str) (hne:xs ≠ []):parseW xs = checkW xs:=by
 have d1:(kGlob == kFirst) = false:=by decide
 have d2:(kGlob == kExists) = false:=by decide
 have d3:(kGlob == kList) = false:=by decide
 have d4:(kGlob == kRead) = false:=by decide
 have d5:(kFirst == kGlob) = false:=by decide
 have d6:(kFirst == kExists) = false:=by decide
 have d7:(kFirst == kList) = false:=by decide
 have d8:(kFirst == kRead) = false:=by decide
 unfold parseW qnOf checkW
 by_cases h0:xs.any (· == []) = true
 ·simp only [h0,if_true]
 ·simp only [h0,Bool.false_eq_true,if_false]
  match xs,hne with
  | [a],_ =>
   simp only [List.headD_cons,List.length_singleton,show ¬ (2 < 1) by omega,decide_false,Bool.and_false,Bool.false_eq_true,if_false,show ¬ (1 = 2) by omega,ne_eq,not_false_eq_true,if_true,show 1 < 3 by omega]
   simp
  | [a,p],_ =>
   simp only [List.headD_cons,List.length_cons,List.length_nil,Nat.zero_add,Nat.reduceAdd,Nat.lt_irrefl,decide_false,Bool.and_false,Bool.false_eq_true,if_false,ne_eq,not_true_eq_false,List.getD_cons_succ,List.getD_cons_zero,if_true,show 2 < 3 by omega]
   by_cases kf:a = kFirst
   ·subst kf;simp only [d5,d6,d7,d8,Bool.false_eq_true,if_false,beq_self_eq_true,if_true]
   ·have kf' : (a == kFirst) = false:=by simpa using kf
    by_cases kg:a = kGlob
    ·subst kg;simp only [d1,d2,d3,d4,Bool.false_eq_true,if_false,beq_self_eq_true,if_true,faultQ];exact fault_pat p
    ·have kg' : (a == kGlob) = false:=by simpa using kg
     simp only [kf',kg',Bool.false_eq_true,if_false,places_two kf',← fault_place]
     cases ke:(a == kExists) <;> cases kl:(a == kList) <;> cases kr:(a == kRead) <;> simp [faultQ]
  | a :: x :: y :: ds,_ =>
   have l1:decide (2 < (a :: x :: y :: ds).length) = true:=by simp
   have l2:¬ (a :: x :: y :: ds).length = 2:=by simp
   have l3:¬ (a :: x :: y :: ds).length < 3:=by simp
   simp only [l1,l2,l3,List.headD_cons,Bool.and_true,List.getD_cons_succ,List.getD_cons_zero,ne_eq,not_false_eq_true,if_true,if_false]
   by_cases kf:a = kFirst
   ·subst kf;simp only [d5,beq_self_eq_true,Bool.false_eq_true,if_true,if_false,places_first];rfl
   ·have kf' : (a == kFirst) = false:=by simpa using kf
    simp only [kf',Bool.false_eq_true,if_false]
    simp
def QAt (base:Nat) (w:World) (v:Value):Qn→Prop
 | .ex o => ∃ ao n c,v = .iface 166 (.agg #[.slice ao n c])∧NamesO base w (.slice ao n c) o
 | .li o => ∃ ao n c,v = .iface 168 (.agg #[.slice ao n c])∧NamesO base w (.slice ao n c) o
 | .re o => ∃ ao n c,v = .iface 169 (.agg #[.slice ao n c])∧NamesO base w (.slice ao n c) o
 | .gl o => ∃ ao n c,v = .iface 171 (.agg #[.slice ao n c])∧NamesO base w (.slice ao n c) o
 | .fi x ds => ∃ ao n c,v = .iface 174 (.agg #[SV x,.slice ao n c])∧TargetsAt base w (.slice ao n c) ds
theorem QAt.below {base:Nat} {w w' : World} {v:Value} {q:Qn} (h:QAt base w v q) (hb:Below w.heap.size w w'):QAt base w' v q:=by
 cases q with
 | fi x ds => obtain ⟨ao,n,c,h1,h2⟩:=h;exact ⟨ao,n,c,h1,h2.below hb⟩
 | _ => obtain ⟨ao,n,c,h1,h2⟩:=h;exact ⟨ao,n,c,h1,h2.below hb⟩
theorem QAt.iface {base:Nat} {w:World} {v:Value} {q:Qn} (h:QAt base w v q):∃ t cs,v = .iface t (.agg cs):=by
 cases q <;> (obtain ⟨ao,n,c,h1,h2⟩:=h;exact ⟨_,_,h1⟩)
def QRet (w:World) (o:Option Qn) (e:Ending) (w' : World):Prop :=
 Below w.heap.size w w'∧match o with
  | none => e = .returned .nilIface
  | some q => ∃ v,e = .returned v∧QAt w.heap.size w' v q
theorem prgHas_any (xs:List Str) (nv:Value) (w:World) (hn:NamesAt w nv xs) (hl:xs.length ≤ 1000) :
  Calls Tryz.prog 111 #[nv,SV []] w fun e w' => e = .returned (.bool (xs.any (· == [])))∧w' = w:=by
 obtain ⟨ao,cap,rfl,hc,hm,hcell⟩:=hn
 cases xs with
 | nil => exact Tryz.slices_Contains_string_empty ao cap ⟨#[]⟩ w
 | cons x r =>
  obtain ⟨g,o,rfl,hg,h0⟩:=hcell 0 (by simp)
  have C:=Tryz.slices_Contains_string g o (x :: r).length cap ((x :: r).map fun s => ⟨s.toArray⟩) ⟨#[]⟩ w (by simp) (by simp at hl ⊢;omega) (fun j hj => by
   simp only [List.length_map] at hj
   obtain ⟨g',o',e,_,h7⟩:=hcell j hj
   simp only [Option.some.injEq,Addr.mk.injEq] at e
   obtain ⟨rfl,rfl,_⟩:=e
   rw [h7,List.getD_eq_getElem?_getD,List.getElem?_map,List.getElem?_eq_getElem hj]
   rfl)
  rw [List.take_of_length_le (by simp)] at C
  refine C.mono fun e w' h => ⟨h.1.trans ?_,h.2⟩
  congr 2
  rw [Bool.eq_iff_iff,Lib.containsS_iff,List.mem_map,List.any_eq_true]
  constructor
  ·rintro ⟨s,hs,e⟩
   refine ⟨s,hs,?_⟩
   have:s.toArray = #[]:=congrArg ByteArray.data e
   simpa using this
  ·rintro ⟨s,hs,e⟩
   have:s = []:=by simpa using e
   exact ⟨s,hs,by rw [this]⟩
theorem names_at {w:World} {nv:Value} {xs:List Str} (h:NamesAt w nv xs) (hne:xs ≠ []):∃ g o cap,nv = .slice (some ⟨g,o,none⟩) xs.length cap∧xs.length ≤ cap∧cap ≤ maxLen∧g < w.heap.size∧(∀ k (h:k < xs.length),w.cell? ⟨g,o + k,none⟩ = some (SV xs[k])):=by
 obtain ⟨ao,cap,rfl,hc,hm,hcell⟩:=h
 obtain ⟨g,o,rfl,hg,_⟩:=hcell 0 (List.length_pos_iff.2 hne)
 refine ⟨g,o,cap,rfl,hc,hm,hg,fun k hk => ?_⟩
 obtain ⟨g',o',e,_,h7⟩:=hcell k hk
 simp only [Option.some.injEq,Addr.mk.injEq] at e
 obtain ⟨rfl,rfl,_⟩:=e
 exact h7
set_option maxHeartbeats 4000000 in
set_option maxRecDepth 50000 in
theorem questionOf_empty (xs:List Str) (nv:Value) (w:World) (hn:NamesAt w nv xs) (hl:xs.length ≤ 1000) (h0:xs.any (· == []) = true) :
  Calls Tryz.prog 78 #[nv] w fun e w' => QRet w (qnOf xs) e w':=by
 have C:=prgHas_any xs nv w hn hl
 rw [h0] at C
 have R:Hid (QRet w (qnOf xs) (.returned .nilIface) w):=by
  have e:qnOf xs = none:=by unfold qnOf;rw [if_pos h0]
  rw [Hid,e];exact ⟨Below.refl _ _,rfl⟩
 obtain ⟨ao,cap,rfl,_⟩:=names_form hn
 clear hn
 go_enter Tryz.func78,Tryz.ntmps78
 go_wp2_with (go_at_call 111;refine C.mono ?_;rintro e w1 ⟨rfl,hw1⟩;cases hw1)
 go_ret
 exact R.out
set_option maxHeartbeats 4000000 in
set_option maxRecDepth 50000 in
theorem questionOf_other (xs:List Str) (nv:Value) (w:World) (hn:NamesAt w nv xs) (hne:xs ≠ []) (hl:xs.length ≤ 1000) (h0:xs.any (· == []) = false) (h1:¬ (xs.headD [] = kFirst∧2 < xs.length)) (h2:xs.length ≠ 2) :
  Calls Tryz.prog 78 #[nv] w fun e w' => QRet w (qnOf xs) e w':=by
 have C:=prgHas_any xs nv w hn hl
 rw [h0] at C
 have R:Hid (∀ W,Below w.heap.size w W→QRet w (qnOf xs) (.returned .nilIface) W):=fun W hW => by
  have e:qnOf xs = none:=by
   unfold qnOf
   rw [if_neg (by rw [h0];simp),if_neg (by simpa using h1),if_pos h2]
  rw [e];exact ⟨hW,rfl⟩
 obtain ⟨g,o,cap,rfl,hc,hm,hg,hcell⟩:=names_at hn hne
 have hpos:0 < xs.length:=List.length_pos_iff.2 hne
 have c0:=hcell 0 hpos
 rw [Nat.add_zero] at c0
 have hx0:xs.headD [] = xs[0]:=by
  cases xs with
  | nil => simp at hpos
  | cons x r => rfl
 rw [hx0] at h1
 have hp1:(1:Int) ≤ (xs.length:Int):=by omega
 have hp0:(0:Int) < (xs.length:Int):=by omega
 have hpc:(xs.length:Int) ≤ (cap:Int):=by omega
 obtain ⟨n,hln⟩ : ∃ n,xs.length - 1 = n:=⟨_,rfl⟩
 have h2i:¬ (n:Int) = 1:=by omega
 clear hn hcell hx0
 unfold maxLen at hm
 by_cases hf:xs[0] = [102,105,114,115,116]
 ·have hle:¬ 2 < xs.length:=fun h => h1 ⟨hf,h⟩
  rw [hf] at c0
  have h3i:¬ (1:Int) < (n:Int):=by omega
  clear h1
  go_enter Tryz.func78,Tryz.ntmps78
  go_wp2_with (go_at_call 111;refine C.mono ?_;rintro e w1 ⟨rfl,hw1⟩;cases hw1)
  go_quiet (fail)
  go_wp2
  all_goals
   go_ret
   exact R.out _ (below_drewN (Below.refl _ _) _)
 ·have hf' : (xs[0] == [102,105,114,115,116]) = false:=by simpa using hf
  clear h1 hf
  go_enter Tryz.func78,Tryz.ntmps78
  go_wp2_with (go_at_call 111;refine C.mono ?_;rintro e w1 ⟨rfl,hw1⟩;cases hw1)
  go_quiet (fail)
  go_wp2
  all_goals
   go_ret
   exact R.out _ (below_drewN (Below.refl _ _) _)
end Go.Proofs.YtdcbgfhkfmohiaaGreatDoor
