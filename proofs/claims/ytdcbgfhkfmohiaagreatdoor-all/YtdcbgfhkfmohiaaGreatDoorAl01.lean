/- Plain facts on texts (lists of bytes), as the walks spell them. Nothing of the program. -/
import Derived.WalkKit
import Derived.WalkSpells
import Derived.WalkLawsBesides
import Derived.Test.YtdcbgfhkfmohiaaGreatDoorProg
import Derived.Deep.QuietTactic
import Derived.BigQuiet
import Derived.WalkSmall
import Derived.Deep.RegionWith
import Derived.Deep.DeepCutAuto
namespace Go.Proofs.YtdcbgfhkfmohiaaGreatDoor
open Go.RowKit
abbrev Str:=List UInt8
theorem extract_list (l:List UInt8) (a b:Nat):(ByteArray.mk l.toArray).extract a b = ByteArray.mk ((l.drop a).take (b - a)).toArray:=by
 apply ByteArray.ext
 rw [ByteArray.data_extract]
 simp
theorem get_list (l:List UInt8) (k:Nat) (h:k < (ByteArray.mk l.toArray).size):(ByteArray.mk l.toArray)[k] = l[k]'(by simpa [ByteArray.size] using h):=by
 simp [ByteArray.getElem_eq_getElem_data]
theorem ret_int {k:IntKind} {a b:Int} (h:a = b):Ending.returned (.int k a) = .returned (.int k b):=by rw [h]
theorem ret_bool {a b:Bool} (h:a = b):Ending.returned (.bool a) = .returned (.bool b):=by rw [h]

open Go.RowKit
def MaxOk (w:World):Prop:=∃ m,w.cell? ⟨0,0,none⟩ = some (.int .i64 m)
theorem MaxOk.lt {w:World} (h:MaxOk w):0 < w.heap.size:=by
 obtain ⟨m,h⟩:=h
 refine Classical.byContradiction fun hn => ?_
 have:w.heap[0]? = none:=Array.getElem?_eq_none (by omega)
 simp [World.cell?,this] at h
theorem MaxOk.below {w w' : World} {B:Nat} (h:MaxOk w) (hb:Below B w w') (hB:0 < B):MaxOk w':=by
 obtain ⟨m,h⟩:=h
 exact ⟨m,(hb.cell (p:=⟨0,0,none⟩) hB).trans h⟩
theorem MaxOk.later {w w' : World} (h:MaxOk w) (hb:Below w.heap.size w w'):MaxOk w':=h.below hb h.lt

open Go.RowKit
def belowL (p d:Str):Str:=if d = [47] then p else if d.length + 1 < p.length∧p.take d.length = d∧p[d.length]? = some 47 then p.drop (d.length + 1) else []
theorem belowL_no1 {p d:Str} (hr:(d == [47]) = false) (h:(p.length:Int) ≤ d.length + 1):belowL p d = []:=by
  simp at hr;unfold belowL;rw [if_neg hr,if_neg (by omega)]
theorem belowL_no2 {p d:Str} (hr:(d == [47]) = false) (h:¬ p.take d.length = d):belowL p d = []:=by
  simp at hr;unfold belowL;rw [if_neg hr,if_neg (fun x => h x.2.1)]
theorem byte_eq (b:UInt8) (n:Nat) (h:((b.toNat:Int) == (n:Int)) = true) (hn:n < 256):b = UInt8.ofNat n:=by
  simp at h;apply UInt8.toNat_inj.1;simp;omega
theorem belowL_no3 {p d:Str} (hr:(d == [47]) = false) (hl:d.length < p.length) (h:(((p[d.length]'hl).toNat:Int) == 47) = false):belowL p d = []:=by
  simp at hr;unfold belowL;rw [if_neg hr,if_neg]
  intro x;have:=x.2.2;rw [List.getElem?_eq_getElem hl] at this;simp at this;rw [this] at h;simp at h
theorem belowL_yes {p d:Str} (hr:(d == [47]) = false) (h1:(d.length:Int) + 1 < p.length) (h2:p.take d.length = d) (hl:d.length < p.length) (h:(((p[d.length]'hl).toNat:Int) == 47) = true):belowL p d = p.drop (d.length + 1):=by
  simp at hr;unfold belowL;rw [if_neg hr,if_pos]
  exact ⟨by omega,h2,by rw [List.getElem?_eq_getElem hl,byte_eq _ 47 h (by omega)];rfl⟩
set_option maxHeartbeats 400000 in
theorem below_any (p d:Str) (w:World) (_hp:p.length ≤ maxLen) (hd:d.length < maxLen) :
    Calls Tryz.prog 133 #[.string ⟨p.toArray⟩,.string ⟨d.toArray⟩] w fun e w' => e = .returned (.string ⟨(belowL p d).toArray⟩)∧w' = w:=by
  unfold maxLen at _hp hd
  have hX:=extract_list
  have hG:=get_list
  cases hr:(d == [47])
  · go_enter Tryz.func133,Tryz.ntmps133
    go_wp2
    · go_ret
      rename_i h1 h2 hl h
      refine ⟨?_,rfl⟩
      rw [belowL_yes hr h1 (by simpa using h2) hl (by simpa [hG] using h)]
      simp [List.take_of_length_le]
    · go_ret
      rename_i h1 h2 hl h
      refine ⟨?_,rfl⟩
      rw [belowL_no3 hr hl (by simpa [hG] using h)]
      rfl
    · go_ret
      rename_i h1 h2
      exact ⟨by rw [belowL_no2 hr (by simpa using h2)];rfl,rfl⟩
    · go_ret
      rename_i h1
      exact ⟨by rw [belowL_no1 hr h1];rfl,rfl⟩
  · simp at hr
    subst hr
    go_enter Tryz.func133,Tryz.ntmps133
    go_wp2
    go_ret
    exact ⟨by simp [belowL],rfl⟩
def okByte (wild:Bool) (c:UInt8):Bool:=decide (97 ≤ c.toNat∧c.toNat ≤ 122) || decide (48 ≤ c.toNat∧c.toNat ≤ 57) || decide (c.toNat = 46) || (wild && decide (c.toNat = 42∨c.toNat = 63))
def isNameL (s:Str) (wild:Bool):Bool:=decide (1 ≤ s.length) && decide (s.length ≤ 8) && s.all (okByte wild)
theorem okByte_no {c:UInt8} (n:Int) (hn:n = c.toNat) (h:¬ (97 ≤ n∧n ≤ 122)∧¬ (48 ≤ n∧n ≤ 57)∧¬ n = 46):okByte false c = false:=by
  unfold okByte;simp;omega
theorem okByte_no' {c:UInt8} (n:Int) (hn:n = c.toNat) (h:¬ (97 ≤ n∧n ≤ 122)∧¬ (48 ≤ n∧n ≤ 57)∧¬ n = 46∧¬ n = 42∧¬ n = 63):okByte true c = false:=by
  unfold okByte;simp;omega
theorem okByte_yes {c:UInt8} (n:Int) (hn:n = c.toNat) (h:(97 ≤ n∧n ≤ 122)∨(48 ≤ n∧n ≤ 57)∨n = 46):okByte false c = true:=by
  unfold okByte;simp;omega
theorem okByte_yes' {c:UInt8} (n:Int) (hn:n = c.toNat) (h:(97 ≤ n∧n ≤ 122)∨(48 ≤ n∧n ≤ 57)∨n = 46∨n = 42∨n = 63):okByte true c = true:=by
  unfold okByte;simp;omega
theorem isNameL_bad {s:Str} {wild:Bool} {k:Nat} (hk:k < s.length) (h:okByte wild s[k] = false):isNameL s wild = false:=by
  unfold isNameL
  have:s.all (okByte wild) = false:=by
    rw [List.all_eq_false];exact ⟨s[k],List.getElem_mem hk,by simp [h]⟩
  simp [this]
theorem isNameL_good {s:Str} {wild:Bool} (h1:¬ (s.length:Int) < 1) (h8:¬ (8:Int) < s.length) (h:∀ j (hj:j < s.length),okByte wild s[j] = true):isNameL s wild = true:=by
  unfold isNameL
  have:s.all (okByte wild) = true:=by
    rw [List.all_eq_true];intro x hx;obtain ⟨j,hj,rfl⟩:=List.getElem_of_mem hx;exact h j hj
  simp [this];omega
theorem all_step {s:Str} {f:UInt8→Bool} {k:Nat} (hk:k < s.length) (hall:∀ j (hj:j < s.length),j < k→f s[j] = true) (h:f s[k] = true):∀ j (hj:j < s.length),j < k + 1→f s[j] = true:=by
  intro j hj hjk
  by_cases e:j = k
  · subst e;exact h
  · exact hall j hj (by omega)
theorem isNameL_short {s:Str} {wild:Bool} (h:(s.length:Int) < 1):isNameL s wild = false:=by
  unfold isNameL;have:¬ 1 ≤ s.length:=by omega
  simp [this]
theorem isNameL_long {s:Str} {wild:Bool} (h:(8:Int) < s.length):isNameL s wild = false:=by
  unfold isNameL;have:¬ s.length ≤ 8:=by omega
  simp [this]
set_option maxHeartbeats 1000000 in
theorem isName_any (s:Str) (wild:Bool) (w:World) (hs:s.length ≤ maxLen) :
    Calls Tryz.prog 163 #[.string ⟨s.toArray⟩,.bool wild] w fun e w' => e = .returned (.bool (isNameL s wild))∧w' = w:=by
  unfold maxLen at hs
  have hG:=get_list
  by_cases h1:(s.length:Int) < 1
  · go_enter Tryz.func163,Tryz.ntmps163
    go_wp2
    go_ret
    exact ⟨by rw [isNameL_short h1];rfl,rfl⟩
  by_cases h8:(8:Int) < s.length
  · go_enter Tryz.func163,Tryz.ntmps163
    go_wp2
    go_ret
    exact ⟨by rw [isNameL_long h8];rfl,rfl⟩
  go_enter Tryz.func163,Tryz.ntmps163
  go_wp2
  go_loop [5] (fun i => ∃ k:Nat,k ≤ s.length∧i = .int .i64 k∧∀ j (hj:j < s.length),j < k→okByte wild s[j] = true) (fun i => s.length - (intOf i).toNat)
  case atStart => exact ⟨0,Nat.zero_le _,rfl,fun j _ h => by omega⟩
  case round =>
    obtain ⟨k,hk,rfl,hall⟩:=hrel
    by_cases hlt:k < s.length
    · cases wild
      · go_wp2
        all_goals first
          | (go_ret
             refine ⟨?_,rfl⟩
             have hb:okByte false s[k] = false:=okByte_no _ rfl (by omega)
             rw [isNameL_bad hlt hb];rfl)
          | (have hb:okByte false s[k] = true:=okByte_yes _ rfl (by first | omega | (rename_i h;simp at h;omega))
             go_round
             case rel => exact ⟨k + 1,by omega,by go_num,all_step hlt hall hb⟩
             case measure => simp [intOf];omega)
      · go_wp2
        all_goals first
          | (go_ret
             refine ⟨?_,rfl⟩
             have hb:okByte true s[k] = false:=okByte_no' _ rfl (by first | omega | (rename_i h _;simp at h;omega) | (rename_i h _ _;simp at h;omega) | (rename_i h _ _ _;simp at h;omega))
             rw [isNameL_bad hlt hb];rfl)
          | (have hb:okByte true s[k] = true:=okByte_yes' _ rfl (by first | omega | (rename_i h;simp at h;omega))
             go_round
             case rel => exact ⟨k + 1,by omega,by go_num,all_step hlt hall hb⟩
             case measure => simp [intOf];omega)
    · go_wp2
      go_ret
      exact ⟨by rw [isNameL_good (by omega) (by omega) (fun j hj => hall j hj (by omega))];rfl,rfl⟩

open Go.RowKit
abbrev SV (l:Str):Value:=.string ⟨l.toArray⟩
theorem Tryz.infoStr:(Tryz.prog.info? 9).map (fun i => (i.zero,i.size,i.bytes)) = some (some (.string ⟨#[]⟩),1,16):=by kernel_rfl
structure Like (W w:World):Prop where
 os:W.os = w.os
 tape:W.tape = w.tape
 output:W.output = w.output
 heap:W.heap = w.heap
theorem Like.ownsRow {W w:World} (h:Like W w) {base:Nat} {e:TypeId} {size:Nat} {v:Value} {n:Nat} {xs:List Value} (ho:w.ownsRow base e size v n xs):W.ownsRow base e size v n xs:=by
 unfold World.ownsRow;rw [h.heap];exact ho
theorem Like.below {W w:World} (h:Like W w) (B:Nat):Below B w W:=⟨h.os,h.tape,h.output,by rw [h.heap];exact Nat.le_refl _,fun _ _ => by rw [h.heap]⟩
theorem wp_app {W wr:World} {ops:Array Oper} {rest:List Oper} {o:Oper} {a:Act} {Q:Exit→Act→World→Prop} (t e:TypeId) (z:Value) (size bytes:Nat)
  (hinf:(Tryz.prog.info? e).map (fun i => (i.zero,i.size,i.bytes)) = some (some z,size,bytes)) (ht:Tryz.prog.underlying t = some (.slice e)) (hzs:z.cells.size = size) (hsz:0 < size)
  (hgd:o.guard = none) (s x:Operand) (ho:o.op = .call { callee:=.builtin .append,args:=#[s,x],argTypes:=#[t,t] })
  {base:Nat} {v:Value} {n:Nat} {xs:List Value} (hown:wr.ownsRow base e size v n xs) (cs:List Value) (hcs:cs.length = size) (h1:∀ u ∈ cs,u.oneCell' = true)
  (hW:Like W (wr.alloc (.cells cs.toArray e)))
  (hs:a.eval s = v) (hx:a.eval x = .slice (some ⟨wr.heap.size,0,none⟩) 1 1)
  (hm:n + 1 ≤ maxLen) (hby:(n + 1) * bytes ≤ 140737488355328) (hbase:base ≤ wr.heap.size)
  (h:∀ v' w',w'.ownsRow base e size v' (n + 1) (xs ++ cs)→Below base wr w'→wpList Tryz.prog ops Q rest (a.put o.dst v') w'):wpList Tryz.prog ops Q (o :: rest) a W:=by
 obtain ⟨i0,hi,hz0,hz1,hz2⟩:=info_parts hinf
 have hz:(wr.alloc (.cells cs.toArray e)).heap.size = wr.heap.size + 1:=by simp
 refine wpList_append_own _ hgd s x t ho base e i0 z size bytes ht hi hz0 hz1 hz2 hzs hsz v n xs hs (hW.ownsRow (hown.alloc _)) ⟨wr.heap.size,0,none⟩ 1 1 cs hx (by omega) ?_ h1 hm hby (by rw [hW.heap,hz];omega) ?_
 ·intro j u hj
  have hjl:j < cs.length:=(List.getElem?_eq_some_iff.1 hj).1
  have ha:(Addr.mk wr.heap.size 0 none).add j = ⟨wr.heap.size,j,none⟩:=by simp only [Addr.add];split <;> simp_all
  rw [ha];simp only [World.cell?,hW.heap,heap_alloc_new];simpa using hj
 ·intro v' w' h1 h2 _
  refine h v' w' h1 ((((Below.refl _ _).alloc hbase _).trans (hW.below _)).grown h2 (by rw [hW.heap,hz];omega) ?_)
  intro k hk
  exact (hown.lt k hk).1
theorem wp_app_str {W wr:World} {ops:Array Oper} {rest:List Oper} {o:Oper} {a:Act} {Q:Exit→Act→World→Prop} (hgd:o.guard = none) (s x:Operand)
  (ho:o.op = .call { callee:=.builtin .append,args:=#[s,x],argTypes:=#[48,48] })
  {base:Nat} {v:Value} {n:Nat} {xs:List Str} (hown:wr.ownsRow base 9 1 v n (xs.map SV)) (t:Str) (hW:Like W (wr.alloc (.cells #[SV t] 9)))
  (hs:a.eval s = v) (hx:a.eval x = .slice (some ⟨wr.heap.size,0,none⟩) 1 1)
  (hb:n ≤ 10000) (hbase:base ≤ wr.heap.size)
  (h:∀ v' w',w'.ownsRow base 9 1 v' (n + 1) ((xs ++ [t]).map SV)→Below base wr w'→wpList Tryz.prog ops Q rest (a.put o.dst v') w'):wpList Tryz.prog ops Q (o :: rest) a W:=by
 refine wp_app 48 9 (.string ⟨#[]⟩) 1 16 Tryz.infoStr Tryz.underlying48 rfl (by decide) hgd s x ho hown [SV t] rfl ?_ hW hs hx (by unfold maxLen;omega) (by omega) hbase ?_
 ·intro u hu;simp at hu;subst hu;rfl
 ·intro v' w' h1 h2
  exact h v' w' (by simpa using h1) h2
def splitL (c:UInt8):Str→List Str
 | [] => [[]]
 | b :: t => if b = c then [] :: splitL c t else match splitL c t with
  | h :: r => (b :: h) :: r
  | [] => [[b]]
theorem splitL_ne (c:UInt8) (s:Str):splitL c s ≠ []:=by
 induction s with
 | nil => simp [splitL]
 | cons b t ih =>
  unfold splitL;split
  ·simp
  ·split <;> simp
theorem splitL_none {c:UInt8} {p:Str} (h:∀ b ∈ p,b ≠ c):splitL c p = [p]:=by
 induction p with
 | nil => rfl
 | cons b t ih =>
  have h1:b ≠ c:=h b (by simp)
  rw [splitL,if_neg h1,ih (fun x hx => h x (by simp [hx]))]
theorem splitL_at {c:UInt8} {p t:Str} (h:∀ b ∈ p,b ≠ c):splitL c (p ++ c :: t) = p :: splitL c t:=by
 induction p with
 | nil => simp [splitL]
 | cons b q ih =>
  have h1:b ≠ c:=h b (by simp)
  rw [List.cons_append,splitL,if_neg h1,ih (fun x hx => h x (by simp [hx]))]
theorem splitL_len (c:UInt8) (s:Str):(splitL c s).length ≤ s.length + 1:=by
 induction s with
 | nil => simp [splitL]
 | cons b t ih =>
  unfold splitL;split
  ·simp;exact ih
  ·have:=splitL_ne c t
   split <;> simp_all <;> omega
structure SplitAt (c:UInt8) (s:Str) (k f:Nat) (xs:List Str):Prop where
 fk:f ≤ k
 ks:k ≤ s.length
 len:xs.length ≤ k
 all:xs ++ splitL c (s.drop f) = splitL c s
 free:∀ b ∈ (s.drop f).take (k - f),b ≠ c
theorem SplitAt.start (c:UInt8) (s:Str):SplitAt c s 0 0 []:=⟨by omega,by omega,by simp,by simp,by simp⟩
theorem drop_split {s:Str} {f k:Nat} (hf:f ≤ k) (hk:k < s.length):s.drop f = (s.drop f).take (k - f) ++ s[k] :: s.drop (k + 1):=by
 conv => lhs;rw [← List.take_append_drop (k - f) (s.drop f)]
 rw [List.drop_drop,show f + (k - f) = k from by omega,List.drop_eq_getElem_cons hk]
theorem SplitAt.hit {c:UInt8} {s:Str} {k f:Nat} {xs:List Str} (h:SplitAt c s k f xs) (hk:k < s.length) (hc:s[k] = c):SplitAt c s (k + 1) (k + 1) (xs ++ [(s.drop f).take (k - f)]):=by
 refine ⟨by omega,by omega,by have:=h.len;simp;omega,?_,by simp⟩
 rw [List.append_assoc,List.singleton_append,← h.all]
 conv => rhs;rw [drop_split h.fk hk,hc,splitL_at h.free]
theorem SplitAt.miss {c:UInt8} {s:Str} {k f:Nat} {xs:List Str} (h:SplitAt c s k f xs) (hk:k < s.length) (hc:s[k] ≠ c):SplitAt c s (k + 1) f xs:=by
 have hf:=h.fk
 refine ⟨by omega,by omega,by have:=h.len;omega,h.all,?_⟩
 intro b hb
 rw [show k + 1 - f = (k - f) + 1 from by omega,List.take_add_one,List.mem_append] at hb
 rcases hb with hb | hb
 ·exact h.free b hb
 ·rw [List.getElem?_drop,show f + (k - f) = k from by omega,List.getElem?_eq_getElem hk] at hb
  simp at hb;rw [hb];exact hc
theorem SplitAt.done {c:UInt8} {s:Str} {f:Nat} {xs:List Str} (h:SplitAt c s s.length f xs):xs ++ [(s.drop f).take (s.length - f)] = splitL c s:=by
 have h1:=h.free
 have e:(s.drop f).take (s.length - f) = s.drop f:=List.take_of_length_le (by simp)
 rw [e] at h1 ⊢
 rw [← splitL_none h1,h.all]
set_option maxHeartbeats 1000000 in
set_option maxRecDepth 20000 in
theorem split_any (s:Str) (c:UInt8) (w:World) (hs:s.length ≤ 5000) :
  Calls Tryz.prog 134 #[SV s,.int .u8 c.toNat] w fun e w' => ∃ v,e = .returned v∧w'.ownsRow w.heap.size 9 1 v (splitL c s).length ((splitL c s).map SV)∧Below w.heap.size w w':=by
 have hX:=extract_list
 have hG:=get_list
 go_enter Tryz.func134,Tryz.ntmps134
 go_wp2
 go_loopw [5,6,7] (fun v f i wr => ∃ (k fn:Nat) (xs:List Str),i = .int .i64 k∧f = .int .i64 fn∧wr.ownsRow w.heap.size 9 1 v xs.length (xs.map SV)∧Below w.heap.size w wr∧((k ≤ s.length∧SplitAt c s k fn xs)∨(k = s.length + 1∧xs = splitL c s)))
  (fun _ _ i _ => s.length + 1 - (intOf i).toNat)
 case atStart => exact ⟨0,0,[],rfl,rfl,World.ownsRow_nil _ _ _ _,Below.refl _ _,.inl ⟨Nat.zero_le _,SplitAt.start c s⟩⟩
 case round =>
  obtain ⟨k,fn,xs,rfl,rfl,hown,hbel,hst⟩:=hrel
  rcases hst with ⟨hk,hst⟩ | ⟨rfl,rfl⟩
  ·have hfk:=hst.fk
   have hlen:=hst.len
   by_cases hlt:k < s.length
   ·cases hc:(((s[k]).toNat:Int) == (c.toNat:Int))
    ·have hne:s[k] ≠ c:=fun e => by rw [e] at hc;simp at hc
     have R:=hst.miss hlt hne
     clear hst hne
     go_wp2
     go_roundw
     case rel => exact ⟨k + 1,fn,xs,by go_num,rfl,hown,hbel,.inl ⟨by omega,R⟩⟩
     case measure => simp [intOf];omega
    ·have he:s[k] = c:=by simp at hc;exact UInt8.toNat_inj.1 (by omega)
     have R:=hst.hit hlt he
     have hz:=hbel.size
     clear hst he
     go_wp2_with (at_builtin;go_loud (refine wp_app_str rfl (.tmp 25) (.tmp 30) rfl hown ((s.drop fn).take (k - fn)) ⟨rfl,rfl,rfl,rfl⟩ rfl rfl (by omega) hz ?_))
     intro v' w' hown' hb'
     go_wp2
     go_roundw
     case rel => exact ⟨k + 1,k + 1,_,by go_num,by go_num,by simpa using hown',hbel.trans hb',.inl ⟨by omega,R⟩⟩
     case measure => simp [intOf];omega
   ·have hkn:k = s.length:=by omega
    subst hkn
    have R:Hid _:=hst.done
    have hz:=hbel.size
    clear hst hlt hk
    go_wp2_with (at_builtin;go_loud (refine wp_app_str rfl (.tmp 25) (.tmp 30) rfl hown ((s.drop fn).take (s.length - fn)) ⟨rfl,rfl,rfl,rfl⟩ rfl rfl (by omega) hz ?_))
    intro v' w' hown' hb'
    go_wp2
    go_roundw
    case rel => exact ⟨s.length + 1,s.length + 1,_,by go_num,by go_num,by simpa using hown',hbel.trans hb',.inr ⟨rfl,R.out⟩⟩
    case measure => simp [intOf]
  ·go_wp2
   go_ret
   exact ⟨_,rfl,hown,hbel⟩

open Go.RowKit
abbrev Fl:=Str × Str
def flat (l:List Fl):List Value:=l.flatMap fun f => [SV f.1,SV f.2]
def FilesAt (w:World) (v:Value) (l:List Fl):Prop:=w.ownsRow 0 236 2 v l.length (flat l)
def Small (l:List Fl):Prop:=l.length ≤ 1000∧∀ f ∈ l,f.1.length ≤ 1000∧f.2.length ≤ 1000
def getL (l:List Fl) (p:Str):Option Nat:=l.findIdx? (fun f => f.1 == p)
def getI (l:List Fl) (p:Str):Int:=match getL l p with
 | some k => (k:Int)
 | none => -1
theorem getI_hit {l:List Fl} {p:Str} {k:Nat} (hk:k < l.length) (h:(l[k].1 == p) = true) (hall:∀ j (hj:j < l.length),j < k→(l[j].1 == p) = false):getI l p = k:=by
 have:getL l p = some k:=by
  unfold getL;rw [List.findIdx?_eq_some_iff_getElem]
  exact ⟨hk,h,fun j hj => by simpa using hall j (by omega) hj⟩
 simp [getI,this]
theorem getI_miss {l:List Fl} {p:Str} (hall:∀ j (hj:j < l.length),(l[j].1 == p) = false):getI l p = -1:=by
 have:getL l p = none:=by
  unfold getL;rw [List.findIdx?_eq_none_iff]
  intro x hx;obtain ⟨j,hj,rfl⟩:=List.getElem_of_mem hx;exact hall j hj
 simp [getI,this]
theorem below_step {l:List Fl} {q:Fl→Bool} {b:Bool} {k:Nat} (hk:k < l.length) (hall:∀ j (hj:j < l.length),j < k→q l[j] = b) (h:q l[k] = b):∀ j (hj:j < l.length),j < k + 1→q l[j] = b:=by
 intro j hj hjk
 by_cases e:j = k
 ·subst e;exact h
 ·exact hall j hj (by omega)
theorem flat_len (l:List Fl):(flat l).length = l.length * 2:=by
 induction l with
 | nil => rfl
 | cons f t ih => simp [flat] at *;omega
theorem flat_get (l:List Fl) (k:Nat) (h:k < l.length):(flat l)[2 * k]? = some (SV l[k].1)∧(flat l)[2 * k + 1]? = some (SV l[k].2):=by
 induction l generalizing k with
 | nil => simp at h
 | cons f t ih =>
  cases k with
  | zero => simp [flat]
  | succ k =>
   have:=ih k (by simpa using h)
   simp only [flat,List.flatMap_cons,List.getElem_cons_succ] at *
   rw [show 2 * (k + 1) = 2 * k + 2 from by omega,show 2 * k + 2 + 1 = (2 * k + 1) + 2 from by omega]
   simpa using this
theorem row_cells {w:World} {base:Nat} {e:TypeId} {size n:Nat} {v:Value} {xs:List Value} (h:w.ownsRow base e size v n xs) :
  (v = .slice none 0 0∧n = 0)∨∃ g cap,v = .slice (some ⟨g,0,none⟩) n cap∧g < w.heap.size∧base ≤ g∧n ≤ cap∧cap ≤ maxLen∧∀ k u,xs[k]? = some u→w.cell? ⟨g,k,none⟩ = some u:=by
 obtain ⟨hl,h⟩:=h
 rcases h with h | ⟨g,cap,cur,rfl,hb,hg,hn,hm,hs,ht⟩
 ·exact .inl h
 ·refine .inr ⟨g,cap,rfl,(Array.getElem?_eq_some_iff.1 hg).1,hb,hn,hm,?_⟩
  intro k u hk
  simp only [World.cell?,hg]
  rw [← ht,List.getElem?_take] at hk
  split at hk
  ·simpa using hk
  ·simp at hk
theorem files_cells {w:World} {v:Value} {l:List Fl} (h:FilesAt w v l) :
  (v = .slice none 0 0∧l = [])∨∃ g cap,v = .slice (some ⟨g,0,none⟩) l.length cap∧g < w.heap.size∧l.length ≤ cap∧cap ≤ maxLen∧(∀ k (h:k < l.length),w.cell? ⟨g,k * 2,none⟩ = some (SV l[k].1))∧(∀ k (h:k < l.length),w.cell? ⟨g,k * 2 + 1,none⟩ = some (SV l[k].2)):=by
 rcases row_cells h with ⟨h1,h2⟩ | ⟨g,cap,h1,h2,_,h3,h4,h5⟩
 ·exact .inl ⟨h1,List.eq_nil_of_length_eq_zero h2⟩
 ·refine .inr ⟨g,cap,h1,h2,h3,h4,fun k hk => h5 _ _ ?_,fun k hk => h5 _ _ ?_⟩
  ·rw [Nat.mul_comm];exact (flat_get l k hk).1
  ·rw [Nat.mul_comm];exact (flat_get l k hk).2
theorem strs_cells {w:World} {base:Nat} {v:Value} {n:Nat} {xs:List Str} (h:w.ownsRow base 9 1 v n (xs.map SV)) :
  (v = .slice none 0 0∧n = 0∧xs = [])∨∃ g cap,v = .slice (some ⟨g,0,none⟩) n cap∧n = xs.length∧g < w.heap.size∧base ≤ g∧n ≤ cap∧cap ≤ maxLen∧(∀ k (h:k < xs.length),w.cell? ⟨g,k,none⟩ = some (SV xs[k])):=by
 have hl:n = xs.length:=by have:=h.1;simp at this;omega
 rcases row_cells h with ⟨h1,h2⟩ | ⟨g,cap,h1,h2,h2',h3,h4,h5⟩
 ·exact .inl ⟨h1,h2,List.eq_nil_of_length_eq_zero (by omega)⟩
 ·refine .inr ⟨g,cap,h1,hl,h2,h2',h3,h4,fun k hk => h5 _ _ ?_⟩
  simp [hk]
set_option maxHeartbeats 1000000 in
theorem get_any (l:List Fl) (v:Value) (p:Str) (w:World) (hl:FilesAt w v l) :
  Calls Tryz.prog 129 #[v,SV p] w fun e w' => e = .returned (.int .i64 (getI l p))∧w' = w:=by
 rcases files_cells hl with ⟨rfl,rfl⟩ | ⟨g,cap,rfl,hg,hc,hm,hp,hd⟩
 ·go_enter Tryz.func129,Tryz.ntmps129
  go_wp2
  refine wp_loop_rounds 1 ?_;rw [rounds_succ];go_wp2
  go_ret
  exact ⟨rfl,rfl⟩
 ·unfold maxLen at hm
  clear hl
  go_enter Tryz.func129,Tryz.ntmps129
  go_wp2
  go_loop [5] (fun i => ∃ k:Nat,k ≤ l.length∧i = .int .i64 k∧∀ j (hj:j < l.length),j < k→(l[j].1 == p) = false) (fun i => l.length - (intOf i).toNat)
  case atStart => exact ⟨0,Nat.zero_le _,rfl,fun j _ h => by omega⟩
  case round =>
   obtain ⟨k,hk,rfl,hall⟩:=hrel
   by_cases hlt:k < l.length
   ·cases he:(l[k].1 == p)
    ·have R:=below_step (q:=fun f => f.1 == p) hlt hall he
     clear hall
     go_wp2
     go_round
     case rel => exact ⟨k + 1,by omega,by go_num,R⟩
     case measure => simp [intOf];omega
    ·have R:Hid _:=getI_hit hlt he hall
     clear hall
     go_wp2
     go_ret
     exact ⟨by rw [R.out];rfl,rfl⟩
   ·have R:Hid _:=getI_miss (p:=p) (fun j hj => hall j hj (by omega))
    clear hall
    go_wp2
    go_ret
    exact ⟨by rw [R.out];rfl,rfl⟩
def crossedL (l:List Fl) (p:Str):Bool:=l.any fun f => !(belowL p f.1).isEmpty
theorem crossedL_hit {l:List Fl} {p:Str} {k:Nat} (hk:k < l.length) (h:(belowL p l[k].1).isEmpty = false):crossedL l p = true:=by
 unfold crossedL;rw [List.any_eq_true];exact ⟨l[k],List.getElem_mem hk,by simp [h]⟩
theorem crossedL_miss {l:List Fl} {p:Str} (hall:∀ j (hj:j < l.length),(belowL p l[j].1).isEmpty = true):crossedL l p = false:=by
 unfold crossedL;rw [List.any_eq_false]
 intro x hx;obtain ⟨j,hj,rfl⟩:=List.getElem_of_mem hx;simp [hall j hj]
set_option maxHeartbeats 1000000 in
theorem crossed_any (l:List Fl) (v:Value) (p:Str) (w:World) (hl:FilesAt w v l) (hs:Small l) (hpl:p.length ≤ maxLen) :
  Calls Tryz.prog 128 #[v,SV p] w fun e w' => e = .returned (.bool (crossedL l p))∧w' = w:=by
 rcases files_cells hl with ⟨rfl,rfl⟩ | ⟨g,cap,rfl,hg,hc,hm,hp,hd⟩
 ·go_enter Tryz.func128,Tryz.ntmps128
  go_wp2
  refine wp_loop_rounds 1 ?_;rw [rounds_succ];go_wp2
  go_ret
  exact ⟨rfl,rfl⟩
 ·unfold maxLen at hm
  clear hl
  go_enter Tryz.func128,Tryz.ntmps128
  go_wp2
  go_loop [5] (fun i => ∃ k:Nat,k ≤ l.length∧i = .int .i64 k∧∀ j (hj:j < l.length),j < k→(belowL p l[j].1).isEmpty = true) (fun i => l.length - (intOf i).toNat)
  case atStart => exact ⟨0,Nat.zero_le _,rfl,fun j _ h => by omega⟩
  case round =>
   obtain ⟨k,hk,rfl,hall⟩:=hrel
   by_cases hlt:k < l.length
   ·have hkl:=(hs.2 l[k] (List.getElem_mem hlt)).1
    cases he:(belowL p l[k].1).isEmpty
    ·have R:Hid _:=crossedL_hit hlt he
     clear hall
     go_wp2_with (go_at_call 133;refine (below_any p l[k].1 _ hpl ?_).mono ?_;(unfold maxLen;omega);rintro e w' ⟨rfl,rfl⟩)
     go_ret
     exact ⟨by rw [R.out];rfl,rfl⟩
    ·have R:=below_step (q:=fun f => (belowL p f.1).isEmpty) hlt hall he
     clear hall
     go_wp2_with (go_at_call 133;refine (below_any p l[k].1 _ hpl ?_).mono ?_;(unfold maxLen;omega);rintro e w' ⟨rfl,rfl⟩)
     go_round
     case rel => exact ⟨k + 1,by omega,by go_num,R⟩
     case measure => simp [intOf];omega
   ·have R:Hid _:=crossedL_miss (p:=p) (fun j hj => hall j hj (by omega))
    clear hall
    go_wp2
    go_ret
    exact ⟨by rw [R.out];rfl,rfl⟩

open Go.RowKit
theorem Tryz.infoFile:(Tryz.prog.info? 236).map (fun i => (i.zero,i.size,i.bytes)) = some (some (.agg #[.string ⟨#[]⟩,.string ⟨#[]⟩]),2,32):=by kernel_rfl
theorem flat_app (l:List Fl) (f:Fl):flat (l ++ [f]) = flat l ++ [SV f.1,SV f.2]:=by simp [flat]
theorem wp_app_file {W wr:World} {ops:Array Oper} {rest:List Oper} {o:Oper} {a:Act} {Q:Exit→Act→World→Prop} (hgd:o.guard = none) (s x:Operand)
  (ho:o.op = .call { callee:=.builtin .append,args:=#[s,x],argTypes:=#[194,194] })
  {base:Nat} {v:Value} {n:Nat} {xs:List Fl} (hown:wr.ownsRow base 236 2 v n (flat xs)) (p d:Str) (hW:Like W (wr.alloc (.cells #[SV p,SV d] 236)))
  (hs:a.eval s = v) (hx:a.eval x = .slice (some ⟨wr.heap.size,0,none⟩) 1 1)
  (hb:n ≤ 10000) (hbase:base ≤ wr.heap.size)
  (h:∀ v' w',w'.ownsRow base 236 2 v' (n + 1) (flat (xs ++ [(p,d)]))→Below base wr w'→wpList Tryz.prog ops Q rest (a.put o.dst v') w'):wpList Tryz.prog ops Q (o :: rest) a W:=by
 refine wp_app 194 236 _ 2 32 Tryz.infoFile Tryz.underlying194 rfl (by decide) hgd s x ho hown [SV p,SV d] rfl ?_ hW hs hx (by unfold maxLen;omega) (by omega) hbase ?_
 ·intro u hu;simp at hu;rcases hu with rfl | rfl <;> rfl
 ·intro v' w' h1 h2
  exact h v' w' (by rw [flat_app];simpa using h1) h2
theorem row_len {w:World} {base:Nat} {v:Value} {n:Nat} {xs:List Fl} (h:w.ownsRow base 236 2 v n (flat xs)):w.ownsRow base 236 2 v xs.length (flat xs):=by
 have h1:=h.1;rw [flat_len] at h1
 rw [show xs.length = n from by omega];exact h
def inL (l:List Fl) (dir:Str):List Fl:=l.flatMap fun f => if (belowL f.1 dir).isEmpty then [] else [(belowL f.1 dir,f.2)]
theorem take_flatMap {l:List Fl} {f:Fl→List Fl} {k:Nat} (hk:k < l.length):(l.take (k + 1)).flatMap f = (l.take k).flatMap f ++ f l[k]:=by
 rw [List.take_succ_eq_append_getElem hk,List.flatMap_append];simp
theorem flatMap_len {l:List Fl} {f:Fl→List Fl} (h:∀ x,(f x).length ≤ 1) (k:Nat):((l.take k).flatMap f).length ≤ k:=by
 induction k with
 | zero => simp
 | succ k ih =>
  by_cases hk:k < l.length
  ·rw [take_flatMap hk,List.length_append];have:=h l[k];omega
  ·rw [List.take_of_length_le (by omega)];rw [List.take_of_length_le (by omega)] at ih;omega
set_option maxHeartbeats 1000000 in
theorem in_any (l:List Fl) (v:Value) (dir:Str) (w:World) (hl:FilesAt w v l) (hs:Small l) (hpl:dir.length < maxLen) :
  Calls Tryz.prog 138 #[v,SV dir] w fun e w' => ∃ v',e = .returned v'∧w'.ownsRow w.heap.size 236 2 v' (inL l dir).length (flat (inL l dir))∧Below w.heap.size w w':=by
 rcases files_cells hl with ⟨rfl,rfl⟩ | ⟨g,cap,rfl,hg,hc,hm,hp,hd⟩
 ·go_enter Tryz.func138,Tryz.ntmps138
  go_wp2
  refine wp_loop_rounds 1 ?_;rw [rounds_succ];go_wp2
  go_ret
  exact ⟨_,rfl,World.ownsRow_nil _ _ _ _,Below.refl _ _⟩
 ·have hnl:=hs.1
  clear hl
  go_enter Tryz.func138,Tryz.ntmps138
  go_wp2
  go_loopw [5,6] (fun v i wr => ∃ k:Nat,k ≤ l.length∧i = .int .i64 k∧wr.ownsRow w.heap.size 236 2 v (inL (l.take k) dir).length (flat (inL (l.take k) dir))∧Below w.heap.size w wr) (fun _ i _ => l.length - (intOf i).toNat)
  case atStart => exact ⟨0,Nat.zero_le _,rfl,World.ownsRow_nil _ _ _ _,Below.refl _ _⟩
  case round =>
   obtain ⟨k,hk,rfl,hown,hbel⟩:=hrel
   have hz:=hbel.size
   by_cases hlt:k < l.length
   ·have hkl:=(hs.2 l[k] (List.getElem_mem hlt)).1
    have hml:l[k].1.length ≤ maxLen:=by unfold maxLen;omega
    have hpk:wr.cell? ⟨g,k * 2,none⟩ = some (SV l[k].1):=(hbel.cell hg).trans (hp k hlt)
    have hdk:wr.cell? ⟨g,k * 2 + 1,none⟩ = some (SV l[k].2):=(hbel.cell hg).trans (hd k hlt)
    have hle:(inL (l.take k) dir).length ≤ k:=flatMap_len (fun x => by split <;> simp) k
    clear hp hd
    cases he:(belowL l[k].1 dir).isEmpty
    ·have R:Hid (inL (l.take (k + 1)) dir = inL (l.take k) dir ++ [(belowL l[k].1 dir,l[k].2)]):=by unfold inL;rw [Hid,take_flatMap hlt,he];rfl
     go_wp2_with (first | (go_at_call 133;refine (below_any l[k].1 dir _ hml hpl).mono ?_;rintro e w' ⟨rfl,rfl⟩) | (at_builtin;go_loud (refine wp_app_file rfl (.tmp 23) (.tmp 31) rfl hown (belowL l[k].1 dir) l[k].2 ⟨rfl,rfl,rfl,rfl⟩ rfl rfl (by omega) hz ?_)))
     intro v' w2 hown' hb'
     go_wp2
     go_roundw
     case rel => exact ⟨k + 1,by omega,by go_num,by rw [R.out];exact row_len hown',hbel.trans hb'⟩
     case measure => simp [intOf];omega
    ·have R:Hid (inL (l.take (k + 1)) dir = inL (l.take k) dir):=by unfold inL;rw [Hid,take_flatMap hlt,he];simp
     go_wp2_with (go_at_call 133;refine (below_any l[k].1 dir _ hml hpl).mono ?_;rintro e w' ⟨rfl,rfl⟩)
     go_roundw
     case rel => exact ⟨k + 1,by omega,by go_num,by rw [R.out];exact hown,hbel⟩
     case measure => simp [intOf];omega
   ·have R:Hid (inL (l.take k) dir = inL l dir):=by rw [List.take_of_length_le (by omega)];exact rfl
    clear hp hd
    go_wp2
    go_ret
    exact ⟨_,rfl,by rw [← R.out];exact hown,hbel⟩
def withoutL (l:List Fl) (p:Str):List Fl:=l.flatMap fun f => if (f.1 == p) || !(belowL f.1 p).isEmpty then [] else [(f.1,f.2)]
set_option maxHeartbeats 1000000 in
theorem without_any (l:List Fl) (v:Value) (p:Str) (w:World) (hl:FilesAt w v l) (hs:Small l) (hpl:p.length < maxLen) :
  Calls Tryz.prog 132 #[v,SV p] w fun e w' => ∃ v',e = .returned v'∧w'.ownsRow w.heap.size 236 2 v' (withoutL l p).length (flat (withoutL l p))∧Below w.heap.size w w':=by
 rcases files_cells hl with ⟨rfl,rfl⟩ | ⟨g,cap,rfl,hg,hc,hm,hp,hd⟩
 ·go_enter Tryz.func132,Tryz.ntmps132
  go_wp2
  refine wp_loop_rounds 1 ?_;rw [rounds_succ];go_wp2
  go_ret
  exact ⟨_,rfl,World.ownsRow_nil _ _ _ _,Below.refl _ _⟩
 ·have hnl:=hs.1
  clear hl
  go_enter Tryz.func132,Tryz.ntmps132
  go_wp2
  go_loopw [5,6] (fun v i wr => ∃ k:Nat,k ≤ l.length∧i = .int .i64 k∧wr.ownsRow w.heap.size 236 2 v (withoutL (l.take k) p).length (flat (withoutL (l.take k) p))∧Below w.heap.size w wr) (fun _ i _ => l.length - (intOf i).toNat)
  case atStart => exact ⟨0,Nat.zero_le _,rfl,World.ownsRow_nil _ _ _ _,Below.refl _ _⟩
  case round =>
   obtain ⟨k,hk,rfl,hown,hbel⟩:=hrel
   have hz:=hbel.size
   by_cases hlt:k < l.length
   ·have hkl:=(hs.2 l[k] (List.getElem_mem hlt)).1
    have hml:l[k].1.length ≤ maxLen:=by unfold maxLen;omega
    have hpk:wr.cell? ⟨g,k * 2,none⟩ = some (SV l[k].1):=(hbel.cell hg).trans (hp k hlt)
    have hdk:wr.cell? ⟨g,k * 2 + 1,none⟩ = some (SV l[k].2):=(hbel.cell hg).trans (hd k hlt)
    have hle:(withoutL (l.take k) p).length ≤ k:=flatMap_len (fun x => by split <;> simp) k
    clear hp hd
    cases h1:(l[k].1 == p)
    ·cases he:(belowL l[k].1 p).isEmpty
     ·have R:Hid (withoutL (l.take (k + 1)) p = withoutL (l.take k) p):=by unfold withoutL;rw [Hid,take_flatMap hlt,he,h1];simp
      go_wp2_with (go_at_call 133;refine (below_any l[k].1 p _ hml hpl).mono ?_;rintro e w' ⟨rfl,rfl⟩)
      go_roundw
      case rel => exact ⟨k + 1,by omega,by go_num,by rw [R.out];exact hown,hbel⟩
      case measure => simp [intOf];omega
     ·have R:Hid (withoutL (l.take (k + 1)) p = withoutL (l.take k) p ++ [(l[k].1,l[k].2)]):=by unfold withoutL;rw [Hid,take_flatMap hlt,he,h1];rfl
      go_wp2_with (first | (go_at_call 133;refine (below_any l[k].1 p _ hml hpl).mono ?_;rintro e w' ⟨rfl,rfl⟩) | (at_builtin;refine wp_app_file rfl (.tmp 32) (.tmp 37) rfl hown l[k].1 l[k].2 ⟨rfl,rfl,rfl,rfl⟩ rfl rfl (by omega) hz ?_))
      intro v' w2 hown' hb'
      go_wp2
      go_roundw
      case rel => exact ⟨k + 1,by omega,by go_num,by rw [R.out];exact row_len hown',hbel.trans hb'⟩
      case measure => simp [intOf];omega
    ·have R:Hid (withoutL (l.take (k + 1)) p = withoutL (l.take k) p):=by unfold withoutL;rw [Hid,take_flatMap hlt,h1];simp
     go_wp2_with (go_at_call 133;refine (below_any l[k].1 p _ hml hpl).mono ?_;rintro e w' ⟨rfl,rfl⟩)
     go_roundw
     case rel => exact ⟨k + 1,by omega,by go_num,by rw [R.out];exact hown,hbel⟩
     case measure => simp [intOf];omega
   ·have R:Hid (withoutL (l.take k) p = withoutL l p):=by rw [List.take_of_length_le (by omega)];exact rfl
    clear hp hd
    go_wp2
    go_ret
    exact ⟨_,rfl,by rw [← R.out];exact hown,hbel⟩
def isDirL (l:List Fl) (p:Str):Bool:=(p == [47]) || !(inL l p).isEmpty
theorem row_form {w:World} {base:Nat} {e:TypeId} {size n:Nat} {v:Value} {xs:List Value} (h:w.ownsRow base e size v n xs):∃ ao cap,v = .slice ao n cap:=by
 rcases h.2 with ⟨rfl,rfl⟩ | ⟨g,cap,cur,rfl,_⟩
 ·exact ⟨_,_,rfl⟩
 ·exact ⟨_,_,rfl⟩
set_option maxHeartbeats 1000000 in
theorem isDir_any (l:List Fl) (v:Value) (p:Str) (w:World) (hl:FilesAt w v l) (hs:Small l) (hpl:p.length < maxLen) :
  Calls Tryz.prog 127 #[v,SV p] w fun e w' => e = .returned (.bool (isDirL l p))∧Below w.heap.size w w':=by
 cases hr:(p == [47])
 ·have R:Hid (isDirL l p = decide (0 < ((inL l p).length:Int))):=by
   unfold isDirL;rw [Hid,hr];cases h:inL l p
   ·simp
   ·simp
  go_enter Tryz.func127,Tryz.ntmps127
  go_wp2_with (go_at_call 138;refine (in_any l v p _ hl hs hpl).mono ?_;rintro e w' ⟨v',rfl,hown,hbel⟩;obtain ⟨ao,cap,rfl⟩:=row_form hown)
  all_goals
   go_ret
   exact ⟨by rw [R.out];simp,hbel⟩
 ·have R:Hid (isDirL l p = true):=by unfold isDirL;rw [Hid,hr];rfl
  go_enter Tryz.func127,Tryz.ntmps127
  go_wp2
  go_ret
  exact ⟨by rw [R.out];rfl,Below.refl _ _⟩
def isPathL (s:Str):Bool:=decide (s.length ≤ 100) && (splitL 47 s).all (fun x => isNameL x false) && decide ((splitL 47 s).length ≤ 5)
theorem isPathL_bad {s:Str} {k:Nat} (hk:k < (splitL 47 s).length) (h:isNameL (splitL 47 s)[k] false = false):isPathL s = false:=by
 unfold isPathL
 have:(splitL 47 s).all (fun x => isNameL x false) = false:=by
  rw [List.all_eq_false];exact ⟨_,List.getElem_mem hk,by simp [h]⟩
 simp [this]
theorem isPathL_good {s:Str} (h1:s.length ≤ 100) (h:∀ j (hj:j < (splitL 47 s).length),isNameL (splitL 47 s)[j] false = true):isPathL s = decide ((splitL 47 s).length ≤ 5):=by
 unfold isPathL
 have:(splitL 47 s).all (fun x => isNameL x false) = true:=by
  rw [List.all_eq_true];intro x hx;obtain ⟨j,hj,rfl⟩:=List.getElem_of_mem hx;exact h j hj
 simp [this,h1]
theorem splitL_piece (c:UInt8) (s:Str):∀ x ∈ splitL c s,x.length ≤ s.length:=by
 induction s with
 | nil => simp [splitL]
 | cons b t ih =>
  unfold splitL;split
  ·intro x hx;simp at hx;rcases hx with rfl | hx
   ·simp
   ·have:=ih x hx;simp;omega
  ·split
   ·rename_i h r he
    intro x hx;simp at hx;rcases hx with rfl | hx
    ·have:=ih h (by rw [he];simp);simp;omega
    ·have:=ih x (by rw [he];simp [hx]);simp;omega
   ·simp
set_option maxHeartbeats 1000000 in
theorem isPath_any (s:Str) (w:World) (hs:s.length ≤ maxLen) :
  Calls Tryz.prog 126 #[SV s] w fun e w' => e = .returned (.bool (isPathL s))∧Below w.heap.size w w':=by
 unfold maxLen at hs
 by_cases h1:s.length ≤ 100
 ·have hc:(UInt8.toNat 47:Int) = 47:=rfl
  have hne:=splitL_ne 47 s
  have hll:=splitL_len 47 s
  have hpc:=splitL_piece 47 s
  go_enter Tryz.func126,Tryz.ntmps126
  go_wp2_with (go_at_call 134;refine (split_any s 47 _ (by omega)).mono ?_;rintro e w' ⟨v',rfl,hown,hbel⟩)
  generalize hxs:splitL 47 s = xs at *
  rcases strs_cells hown with ⟨rfl,h0,h2⟩ | ⟨g,cap,rfl,hn,hg,hgb,hcap,hm,hcell⟩
  ·exact absurd h2 hne
  ·clear hown
   unfold maxLen at hm
   have Hxs:Hid (splitL 47 s = xs):=hxs
   clear hxs
   go_wp2
   go_loop [4] (fun i => ∃ k:Nat,k ≤ xs.length∧i = .int .i64 k∧∀ j (hj:j < xs.length),j < k→isNameL xs[j] false = true) (fun i => xs.length - (intOf i).toNat)
   case atStart => exact ⟨0,Nat.zero_le _,rfl,fun j _ h => by omega⟩
   case round =>
    obtain ⟨k,hk,rfl,hall⟩:=hrel
    by_cases hlt:k < xs.length
    ·have hkl:=hpc xs[k] (List.getElem_mem hlt)
     have hml:xs[k].length ≤ maxLen:=by unfold maxLen;omega
     cases he:isNameL xs[k] false
     ·have R:Hid (isPathL s = false):=isPathL_bad (k:=k) (by rw [Hxs.out];exact hlt) (by simp only [Hxs.out];exact he)
      clear hall
      go_wp2_with (go_at_call 163;refine (isName_any xs[k] false _ hml).mono ?_;rintro e w' ⟨rfl,rfl⟩)
      go_ret
      exact ⟨by rw [R.out];rfl,hbel⟩
     ·have R:∀ j (hj:j < xs.length),j < k + 1→isNameL xs[j] false = true:=by
       intro j hj hjk
       by_cases e:j = k
       ·subst e;exact he
       ·exact hall j hj (by omega)
      clear hall
      go_wp2_with (go_at_call 163;refine (isName_any xs[k] false _ hml).mono ?_;rintro e w' ⟨rfl,rfl⟩)
      go_round
      case rel => exact ⟨k + 1,by omega,by go_num,R⟩
      case measure => simp [intOf];omega
    ·have R:Hid (isPathL s = decide (xs.length ≤ 5)):=by rw [Hid,isPathL_good h1 (by simp only [Hxs.out];exact fun j hj => hall j hj (by omega)),Hxs.out]
     clear hall
     go_wp2
     go_ret
     exact ⟨by rw [R.out];exact ret_bool (by simp;omega),hbel⟩
 ·have R:Hid (isPathL s = false):=by unfold isPathL;simp [Hid,h1]
  go_enter Tryz.func126,Tryz.ntmps126
  go_wp2
  go_ret
  exact ⟨by rw [R.out];rfl,Below.refl _ _⟩

open Go.RowKit
def lessS:List Str→List Str→Bool
 | [],[] => false
 | [],_ :: _ => true
 | _ :: _,[] => false
 | x :: xs,y :: ys => if x = y then lessS xs ys else Op.bytesLess x y
def lessL (a b:Str):Bool:=lessS (splitL 47 a) (splitL 47 b)
def SameTo (x y:List Str) (k:Nat):Prop:=k ≤ x.length∧k ≤ y.length∧lessS x y = lessS (x.drop k) (y.drop k)
theorem SameTo.zero (x y:List Str):SameTo x y 0:=⟨Nat.zero_le _,Nat.zero_le _,rfl⟩
theorem SameTo.step {x y:List Str} {k:Nat} (h:SameTo x y k) (hx:k < x.length) (hy:k < y.length) (he:x[k] = y[k]):SameTo x y (k + 1):=by
 refine ⟨hx,hy,?_⟩
 rw [h.2.2,List.drop_eq_getElem_cons hx,List.drop_eq_getElem_cons hy,lessS,if_pos he]
theorem SameTo.differ {x y:List Str} {k:Nat} (h:SameTo x y k) (hx:k < x.length) (hy:k < y.length) (he:¬ x[k] = y[k]):lessS x y = Op.bytesLess x[k] y[k]:=by
 rw [h.2.2,List.drop_eq_getElem_cons hx,List.drop_eq_getElem_cons hy,lessS,if_neg he]
theorem SameTo.ends {x y:List Str} {k:Nat} (h:SameTo x y k) (he:¬ (k < x.length∧k < y.length)):lessS x y = decide (x.length < y.length):=by
 have h1:=h.1
 have h2:=h.2.1
 rw [h.2.2]
 by_cases hx:k < x.length
 ·have hy:y.drop k = []:=List.drop_eq_nil_iff.2 (by omega)
  rw [hy,List.drop_eq_getElem_cons hx,lessS];simp;omega
 ·have hx' : x.drop k = []:=List.drop_eq_nil_iff.2 (by omega)
  by_cases hy:k < y.length
  ·rw [hx',List.drop_eq_getElem_cons hy,lessS];simp;omega
  ·have hy' : y.drop k = []:=List.drop_eq_nil_iff.2 (by omega)
   rw [hx',hy',lessS];simp;omega
set_option maxHeartbeats 1000000 in
theorem less_any (a b:Str) (w:World) (ha:a.length ≤ 5000) (hb:b.length ≤ 5000) :
  Calls Tryz.prog 164 #[SV a,SV b] w fun e w' => e = .returned (.bool (lessL a b))∧Below w.heap.size w w':=by
 have hc:(UInt8.toNat 47:Int) = 47:=rfl
 have hne1:=splitL_ne 47 a
 have hne2:=splitL_ne 47 b
 have hl1:=splitL_len 47 a
 have hl2:=splitL_len 47 b
 go_enter Tryz.func164,Tryz.ntmps164
 go_wp2_with fail
 refine (split_any a 47 _ ha).mono ?_
 rintro e w1 ⟨v1,rfl,hown1,hbel1⟩
 go_wp2_with fail
 refine (split_any b 47 _ hb).mono ?_
 rintro e w2 ⟨v2,rfl,hown2,hbel2⟩
 rcases strs_cells hown1 with ⟨rfl,h0,h2⟩ | ⟨g1,cap1,rfl,hn1,hg1,hgb1,hcap1,hm1,hcell1⟩
 ·exact absurd h2 hne1
 rcases strs_cells hown2 with ⟨rfl,h0,h2⟩ | ⟨g2,cap2,rfl,hn2,hg2,hgb2,hcap2,hm2,hcell2⟩
 ·exact absurd h2 hne2
 have hcell1' : ∀ k (h:k < (splitL 47 a).length),w2.cell? ⟨g1,k,none⟩ = some (SV (splitL 47 a)[k]):=fun k h => (hbel2.cell hg1).trans (hcell1 k h)
 have hB:Below w.heap.size w w2:=hbel1.trans (hbel2.mono hbel1.size)
 clear hcell1 hown1 hown2 hbel1 hbel2
 have HL:Hid (lessL a b = lessS (splitL 47 a) (splitL 47 b)):=rfl
 generalize splitL 47 a = xs at *
 generalize splitL 47 b = ys at *
 unfold maxLen at hm1 hm2
 go_wp2
 go_loopw [7] (fun i wr => ∃ k n:Nat,i = .int .i64 k∧wr = w2.drewN n∧SameTo xs ys k) (fun i _ => xs.length - (intOf i).toNat)
 case atStart => exact ⟨0,0,rfl,rfl,SameTo.zero _ _⟩
 case round =>
  obtain ⟨k,n,rfl,rfl,hst⟩:=hrel
  have hk1:=hst.1
  have hk2:=hst.2.1
  by_cases hlt:k < xs.length∧k < ys.length
  ·obtain ⟨hx,hy⟩:=hlt
   cases he:(xs[k] == ys[k])
   ·have R:Hid _:=hst.differ hx hy (by simpa using he)
    clear hst
    go_wp2
    go_quiet (fail)
    go_wp2
    go_quiet (fail)
    go_wp2
    go_ret
    exact ⟨by rw [HL.out,R.out];simp,below_drewN (below_drewN (below_drewN hB _) _) _⟩
   ·have R:=hst.step hx hy (by simpa using he)
    clear hst
    go_wp2
    go_quiet (fail)
    go_wp2
    go_roundw
    case rel => exact ⟨k + 1,_,by go_num,rfl,R⟩
    case measure => simp [intOf];omega
  ·have R:Hid _:=hst.ends hlt
   clear hst
   by_cases hx:k < xs.length
   ·have hy:¬ k < ys.length:=fun h => hlt ⟨hx,h⟩
    go_wp2
    go_ret
    exact ⟨by rw [HL.out,R.out];simp,below_drewN hB _⟩
   ·go_wp2
    go_ret
    exact ⟨by rw [HL.out,R.out];simp,below_drewN hB _⟩

open Go.RowKit
def putStep (f:Fl) (st:List Fl × Bool) (g:Fl):List Fl × Bool :=
 ((if !st.2 && (lessL f.1 g.1 || f.1 == g.1) then st.1 ++ [f] else st.1) ++ (if g.1 == f.1 then [] else [g]),st.2 || (lessL f.1 g.1 || f.1 == g.1))
def putL (l:List Fl) (f:Fl):List Fl:=let st:=l.foldl (putStep f) ([],false);if st.2 then st.1 else st.1 ++ [f]
def putTo (l:List Fl) (f:Fl) (k:Nat):List Fl × Bool:=(l.take k).foldl (putStep f) ([],false)
theorem putTo_zero (l:List Fl) (f:Fl):putTo l f 0 = ([],false):=rfl
theorem putTo_succ {l:List Fl} {f:Fl} {k:Nat} (hk:k < l.length):putTo l f (k + 1) = putStep f (putTo l f k) l[k]:=by
 unfold putTo;rw [List.take_succ_eq_append_getElem hk,List.foldl_append];rfl
theorem putTo_all {l:List Fl} {f:Fl} {k:Nat} (hk:l.length ≤ k):putL l f = if (putTo l f k).2 then (putTo l f k).1 else (putTo l f k).1 ++ [f]:=by
 unfold putTo putL;rw [List.take_of_length_le hk]
theorem putTo_len (l:List Fl) (f:Fl) (k:Nat):(putTo l f k).1.length ≤ 2 * k:=by
 induction k with
 | zero => simp [putTo_zero]
 | succ k ih =>
  by_cases hk:k < l.length
  ·rw [putTo_succ hk];unfold putStep;simp only [];split <;> split <;> simp <;> omega
  ·have:putTo l f (k + 1) = putTo l f k:=by unfold putTo;rw [List.take_of_length_le (by omega),List.take_of_length_le (by omega)]
   rw [this];omega
theorem ownsRow_below {B:Nat} {base:Nat} {e:TypeId} {size:Nat} {v:Value} {n:Nat} {xs:List Value} {w w' : World} (h:w.ownsRow base e size v n xs) (hb:Below B w w') (hB:w.heap.size ≤ B):w'.ownsRow base e size v n xs:=by
 refine ⟨h.1,?_⟩
 rcases h.2 with h | ⟨g,cap,cur,h1,h2,h3,h4⟩
 ·exact .inl h
 ·have hlt:=(Array.getElem?_eq_some_iff.1 h3).1
  exact .inr ⟨g,cap,cur,h1,h2,(hb.block g (by omega)).trans h3,h4⟩
structure PEnv (w0:World) (b g:Nat) (f:Fl) (k:Nat) (x:Fl) (wr:World):Prop where
 c0:wr.cell? ⟨b,0,none⟩ = some (SV f.1)
 c1:wr.cell? ⟨b,1,none⟩ = some (SV f.2)
 p:wr.cell? ⟨g,k * 2,none⟩ = some (SV x.1)
 d:wr.cell? ⟨g,k * 2 + 1,none⟩ = some (SV x.2)
 bel:Below (b + 1) w0 wr
 size:b + 1 ≤ wr.heap.size
 hg:g < b
theorem PEnv.step {w0:World} {b g:Nat} {f:Fl} {k:Nat} {x:Fl} {wr w' : World} (h:PEnv w0 b g f k x wr) (hb:Below (b + 1) wr w'):PEnv w0 b g f k x w':=by
 have hg:=h.hg
 exact ⟨(hb.cell (by simp)).trans h.c0,(hb.cell (by simp)).trans h.c1,(hb.cell (by simp;omega)).trans h.p,(hb.cell (by simp;omega)).trans h.d,h.bel.trans hb,Nat.le_trans h.size hb.size,hg⟩
theorem ownsRow_le {w:World} {base base' : Nat} {e:TypeId} {size:Nat} {v:Value} {n:Nat} {xs:List Value} (h:w.ownsRow base e size v n xs) (hb:base' ≤ base):w.ownsRow base' e size v n xs:=by
 refine ⟨h.1,?_⟩
 rcases h.2 with h | ⟨g,cap,cur,h1,h2,h3⟩
 ·exact .inl h
 ·exact .inr ⟨g,cap,cur,h1,by omega,h3⟩
theorem put_fin {w:World} {l:List Fl} {f:Fl} {v' : Value} {w' : World} {n:Nat} {m:List Fl} (h1:w'.ownsRow (w.heap.size + 1) 236 2 v' n (flat m)) (h2:m = putL l f)
  (h3:Below (w.heap.size + 1) (w.alloc (.cells #[SV f.1,SV f.2] 236)) w') :
  ∃ v'',Ending.returned v' = .returned v''∧w'.ownsRow w.heap.size 236 2 v'' (putL l f).length (flat (putL l f))∧Below w.heap.size w w':=by
 subst h2
 exact ⟨v',rfl,row_len (ownsRow_le h1 (by omega)),((Below.refl _ _).alloc (Nat.le_refl _) _).trans (h3.mono (by omega))⟩
set_option maxHeartbeats 4000000 in
theorem put_any (l:List Fl) (v:Value) (f:Fl) (w:World) (hl:FilesAt w v l) (hs:Small l) (hf1:f.1.length ≤ 5000) :
  Calls Tryz.prog 131 #[v,.agg #[SV f.1,SV f.2]] w fun e w' => ∃ v',e = .returned v'∧w'.ownsRow w.heap.size 236 2 v' (putL l f).length (flat (putL l f))∧Below w.heap.size w w':=by
 rcases files_cells hl with ⟨rfl,rfl⟩ | ⟨g,cap,rfl,hg,hc,hm,hp,hd⟩
 ·go_enter Tryz.func131,Tryz.ntmps131
  go_wp2
  refine wp_loop_rounds 1 ?_;rw [rounds_succ]
  go_wp2_with (at_builtin;go_loud (refine wp_app_file rfl (.tmp 59) (.tmp 61) rfl (base:=w.heap.size + 1) (xs:=[]) (World.ownsRow_nil _ _ _ _) f.1 f.2 ⟨rfl,rfl,rfl,rfl⟩ rfl ?_ ?_ ?_ ?_))
  ·show Value.slice _ _ _ = _;simp
  ·simp
  ·simp
  intro v' w1 hown1 hb1
  go_wp2
  go_ret
  exact put_fin hown1 rfl hb1
 ·have hnl:=hs.1
  clear hl
  unfold maxLen at hm
  go_enter Tryz.func131,Tryz.ntmps131
  go_wp2
  go_loopw [5,6,7] (fun v dn i wr => ∃ k:Nat,k ≤ l.length∧i = .int .i64 k∧dn = .bool (putTo l f k).2∧wr.ownsRow (w.heap.size + 1) 236 2 v (putTo l f k).1.length (flat (putTo l f k).1) ∧
    Below (w.heap.size + 1) (w.alloc (.cells #[SV f.1,SV f.2] 236)) wr) (fun _ _ i _ => l.length - (intOf i).toNat)
  case atStart => exact ⟨0,Nat.zero_le _,rfl,rfl,World.ownsRow_nil _ _ _ _,Below.refl _ _⟩
  case round =>
   obtain ⟨k,hk,rfl,rfl,hown,hbel⟩:=hrel
   have hz:w.heap.size + 1 ≤ wr.heap.size:=by have:=hbel.size;simpa using this
   have hc0:wr.cell? ⟨w.heap.size,0,none⟩ = some (SV f.1):=(hbel.cell (by simp)).trans (by simp)
   have hc1:wr.cell? ⟨w.heap.size,1,none⟩ = some (SV f.2):=(hbel.cell (by simp)).trans (by simp)
   have hle:=putTo_len l f k
   by_cases hlt:k < l.length
   ·have hkl:=(hs.2 l[k] (List.getElem_mem hlt)).1
    have hpk:wr.cell? ⟨g,k * 2,none⟩ = some (SV l[k].1):=(hbel.cell (by simp;omega)).trans ((World.cell?_alloc_past _ _ _ hg).trans (hp k hlt))
    have hdk:wr.cell? ⟨g,k * 2 + 1,none⟩ = some (SV l[k].2):=(hbel.cell (by simp;omega)).trans ((World.cell?_alloc_past _ _ _ hg).trans (hd k hlt))
    have E:PEnv (w.alloc (.cells #[SV f.1,SV f.2] 236)) w.heap.size g f k l[k] wr:=⟨hc0,hc1,hpk,hdk,hbel,hz,hg⟩
    have HS:Hid (putTo l f (k + 1) = putStep f (putTo l f k) l[k]):=putTo_succ hlt
    clear hp hd
    go_wp2
    go_cut [8] (fun a wc => a = .bool (lessL f.1 l[k].1)∧Below wr.heap.size wr wc)
    case first =>
     go_region_with (go_at_call 164;refine (less_any f.1 l[k].1 _ hf1 (by omega)).mono ?_;rintro e w1 ⟨rfl,hb1⟩)
     all_goals
      go_wp2_with fail
      go_meet
      case rel => exact ⟨rfl,((Below.refl _ _).drew).trans hb1⟩
    case rest =>
     obtain ⟨rfl,hbc⟩:=hcut
     have E2:=E.step (hbc.mono hz)
     have hown2:=ownsRow_below hown hbc (Nat.le_refl _)
     clear hown hc0 hc1 hpk hdk E hbc hbel hz
     obtain ⟨hc0,hc1,hpk,hdk,hbel,hz,hg'⟩:=id E2
     generalize putTo l f k = st at *
     obtain ⟨out,dn⟩:=st
     simp only [] at hown2 hle
     cases he:(l[k].1 == f.1)
     ·have he' : (f.1 == l[k].1) = false:=by simp at he ⊢;exact fun h => he h.symm
      have hne:(l[k].1 != f.1) = true:=by simp at he ⊢;exact he
      by_cases hin:dn = false∧lessL f.1 l[k].1 = true
      ·obtain ⟨rfl,ha⟩:=hin
       have R:Hid (putTo l f (k + 1) = (out ++ [(f.1,f.2),(l[k].1,l[k].2)],true)):=by rw [Hid,HS.out];simp [putStep,he,ha]
       go_wp2
       go_quiet (fail)
       go_wp2_with (at_builtin;go_loud (refine wp_app_file rfl (.tmp 38) (.tmp 40) rfl hown2 f.1 f.2 ⟨rfl,rfl,rfl,rfl⟩ rfl rfl (by omega) hz ?_))
       intro v1 w1 hown3 hb1
       have E3:=E2.step (w':=w1) hb1
       clear hc0 hc1 hpk hdk hbel hz hown2
       obtain ⟨hc0,hc1,hpk,hdk,hbel,hz,hg'⟩:=id E3
       go_wp2
       go_quiet (fail)
       go_wp2_with (at_builtin;go_loud (refine wp_app_file rfl (.tmp 50) (.tmp 55) rfl hown3 l[k].1 l[k].2 ⟨rfl,rfl,rfl,rfl⟩ rfl rfl (by omega) hz ?_))
       intro v2 w2 hown4 hb2
       go_wp2
       go_roundw
       case rel => exact ⟨k + 1,by omega,by go_num,by rw [R.out],by rw [R.out];exact row_len hown4,(E3.step hb2).bel⟩
       case measure => simp [intOf];omega
      ·have R:Hid (putTo l f (k + 1) = (out ++ [(l[k].1,l[k].2)],dn)):=by
        rw [Hid,HS.out];cases dn
        ·have:lessL f.1 l[k].1 = false:=by simpa using hin
         simp [putStep,he,he',this]
        ·simp [putStep,he]
       cases dn
       ·have ha:lessL f.1 l[k].1 = false:=by simpa using hin
        clear hin
        go_wp2
        go_quiet (fail)
        go_wp2
        go_quiet (fail)
        go_wp2_with (at_builtin;go_loud (refine wp_app_file rfl (.tmp 50) (.tmp 55) rfl hown2 l[k].1 l[k].2 ⟨rfl,rfl,rfl,rfl⟩ rfl rfl (by omega) hz ?_))
        intro v2 w2 hown4 hb2
        go_wp2
        go_roundw
        case rel => exact ⟨k + 1,by omega,by go_num,by rw [R.out],by rw [R.out];exact row_len hown4,(E2.step hb2).bel⟩
        case measure => simp [intOf];omega
       ·clear hin
        go_wp2
        go_quiet (fail)
        go_wp2
        go_quiet (fail)
        go_wp2_with (at_builtin;go_loud (refine wp_app_file rfl (.tmp 50) (.tmp 55) rfl hown2 l[k].1 l[k].2 ⟨rfl,rfl,rfl,rfl⟩ rfl rfl (by omega) hz ?_))
        intro v2 w2 hown4 hb2
        go_wp2
        go_roundw
        case rel => exact ⟨k + 1,by omega,by go_num,by rw [R.out],by rw [R.out];exact row_len hown4,(E2.step hb2).bel⟩
        case measure => simp [intOf];omega
     ·have Hx:Hid (l[k].1 = f.1):=by rw [Hid];simpa using he
      have he' : (f.1 == l[k].1) = true:=by simp [Hx.out]
      rw [Hx.out] at hpk
      cases dn
      ·have R:Hid (putTo l f (k + 1) = (out ++ [(f.1,f.2)],true)):=by rw [Hid,HS.out];simp [putStep,he,he']
       clear he he'
       cases ha:lessL f.1 l[k].1
       all_goals
        go_wp2
        go_quiet (fail)
        go_wp2_with (at_builtin;go_loud (refine wp_app_file rfl (.tmp 38) (.tmp 40) rfl hown2 f.1 f.2 ⟨rfl,rfl,rfl,rfl⟩ rfl rfl (by omega) hz ?_))
        intro v1 w1 hown3 hb1
        have E3:=E2.step hb1
        clear hc0 hc1 hpk hdk hbel hz hown2
        obtain ⟨hc0,hc1,hpk,hdk,hbel,hz,hg'⟩:=id E3
        rw [Hx.out] at hpk
        go_wp2
        go_quiet (fail)
        go_wp2
        go_roundw
        case rel => exact ⟨k + 1,by omega,by go_num,by rw [R.out],by rw [R.out];exact row_len hown3,below_drewN E3.bel _⟩
        case measure => simp [intOf];omega
      ·have R:Hid (putTo l f (k + 1) = (out,true)):=by rw [Hid,HS.out];simp [putStep,he]
       clear he he'
       go_wp2
       go_quiet (fail)
       go_wp2
       go_quiet (fail)
       go_wp2
       go_roundw
       case rel => exact ⟨k + 1,by omega,by go_num,by rw [R.out],by rw [R.out];exact hown2,below_drewN E2.bel _⟩
       case measure => simp [intOf];omega
   ·have R:Hid (putL l f = if (putTo l f k).2 then (putTo l f k).1 else (putTo l f k).1 ++ [f]):=putTo_all (by omega)
    clear hp hd
    generalize putTo l f k = st at *
    obtain ⟨out,dn⟩:=st
    simp only [] at hown hle
    cases dn
    ·have R2:Hid (putL l f = out ++ [(f.1,f.2)]):=by rw [Hid,R.out];rfl
     go_wp2_with (at_builtin;go_loud (refine wp_app_file rfl (.tmp 59) (.tmp 61) rfl hown f.1 f.2 ⟨rfl,rfl,rfl,rfl⟩ rfl rfl (by omega) hz ?_))
     intro v1 w1 hown3 hb1
     go_wp2
     go_ret
     exact put_fin hown3 R2.out.symm (hbel.trans hb1)
    ·have R2:Hid (putL l f = out):=by rw [Hid,R.out];rfl
     go_wp2
     go_ret
     exact put_fin hown R2.out.symm hbel
end Go.Proofs.YtdcbgfhkfmohiaaGreatDoor
