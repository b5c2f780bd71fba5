/- Contracts of the program: begins; nodes in memory. -/
import Derived.Test.YtdcbgfhkfmohiaaGreatDoorAl05
import Derived.Laws.CopyOwn
import Derived.Deep.RegionLaw
namespace Go.Proofs.YtdcbgfhkfmohiaaGreatDoor
open Go.RowKit
theorem names_take {w:World} {ao:Option Addr} {cap m:Nat} {xs:List Str} (h:NamesAt w (.slice ao xs.length cap) xs) (hm:m ≤ xs.length):NamesAt w (.slice ao m cap) (xs.take m):=by
 obtain ⟨ao',cap',h1,h2,h3,h4⟩:=h
 simp only [Value.slice.injEq] at h1
 obtain ⟨rfl,_,rfl⟩:=h1
 have hl:(xs.take m).length = m:=by simp;omega
 refine ⟨ao,cap,by rw [hl],by omega,h3,fun k hk => ?_⟩
 obtain ⟨g,o,h5,h6,h7⟩:=h4 k (by omega)
 exact ⟨g,o,h5,h6,by rw [List.getElem_take];exact h7⟩
theorem names_form {w:World} {v:Value} {xs:List Str} (h:NamesAt w v xs):∃ ao cap,v = .slice ao xs.length cap∧xs.length ≤ cap∧cap ≤ maxLen:=by
 obtain ⟨ao,cap,h1,h2,h3,_⟩:=h
 exact ⟨ao,cap,h1,h2,h3⟩
set_option maxHeartbeats 1000000 in
theorem begins_any (a b:List Str) (va vb:Value) (w:World) (ha:NamesAt w va a) (hb:NamesAt w vb b) :
  Calls Tryz.prog 65 #[va,vb] w fun e w' => e = .returned (.bool (beginsL a b))∧Below w.heap.size w w':=by
 obtain ⟨ao,ca,rfl,hac,ham⟩:=names_form ha
 obtain ⟨bo,cb,rfl,hbc,hbm⟩:=names_form hb
 unfold maxLen at ham hbm
 by_cases hle:a.length ≤ b.length
 ·have hT:=names_take hb hle
  have R:Hid (beginsL a b = decide (a = b.take a.length)):=by rw [Hid,beginsL,Nat.min_eq_left hle]
  have hmin:min (a.length:Int) (b.length:Int) = a.length:=by omega
  go_enter Tryz.func65,Tryz.ntmps65
  go_wp2_with fail
  refine (equal_any a (b.take a.length) _ _ _ ha hT).mono ?_
  rintro e w' ⟨rfl,hbel⟩
  go_wp2
  go_ret
  exact ⟨by rw [R.out];rfl,hbel⟩
 ·have hT:=names_take hb (Nat.le_refl _)
  rw [List.take_length] at hT
  have R:Hid (beginsL a b = decide (a = b)):=by rw [Hid,beginsL,Nat.min_eq_right (by omega),List.take_length]
  have hmin:min (a.length:Int) (b.length:Int) = b.length:=by omega
  go_enter Tryz.func65,Tryz.ntmps65
  go_wp2_with fail
  refine (equal_any a b _ _ _ ha hT).mono ?_
  rintro e w' ⟨rfl,hbel⟩
  go_wp2
  go_ret
  exact ⟨by rw [R.out];rfl,hbel⟩

open Go.RowKit
def listCells (es:List (Str × Value)):List Value:=.int .i64 es.length :: (es.flatMap (fun e => [SV e.1,e.2]) ++ (List.replicate (20 - es.length) [SV [],.nilIface]).flatten)
structure ListAt (w:World) (b o:Nat) (es:List (Str × Value)):Prop where
 few:es.length ≤ 20
 cell:∀ i u,(listCells es)[i]? = some u→w.cell? ⟨b,o + i,none⟩ = some u
theorem listCells_len {es:List (Str × Value)} (h:es.length ≤ 20):(listCells es).length = 41:=by
 have h1:(es.flatMap fun e => [SV e.1,e.2]).length = 2 * es.length:=by
  clear h;induction es with
  | nil => rfl
  | cons e es ih => simp at *;omega
 have h2:((List.replicate (20 - es.length) [SV [],Value.nilIface]).flatten).length = 2 * (20 - es.length):=by
  simp;omega
 unfold listCells;rw [List.length_cons,List.length_append,h1,h2];omega
theorem flatE_get (es:List (Str × Value)) (k:Nat) (h:k < es.length):(es.flatMap fun e => [SV e.1,e.2])[k * 2]? = some (SV es[k].1)∧(es.flatMap fun e => [SV e.1,e.2])[k * 2 + 1]? = some es[k].2:=by
 induction es generalizing k with
 | nil => simp at h
 | cons f t ih =>
  cases k with
  | zero => simp
  | succ k =>
   have:=ih k (by simpa using h)
   simp only [List.flatMap_cons,List.getElem_cons_succ] at *
   rw [show (k + 1) * 2 = k * 2 + 2 from by omega,show k * 2 + 2 + 1 = (k * 2 + 1) + 2 from by omega]
   simpa using this
theorem flatE_len (es:List (Str × Value)):(es.flatMap fun e => [SV e.1,e.2]).length = es.length * 2:=by
 induction es with
 | nil => rfl
 | cons e es ih => simp at *;omega
theorem listCells_name {es:List (Str × Value)} {k:Nat} (h:k < es.length):(listCells es)[k * 2 + 1]? = some (SV es[k].1)∧(listCells es)[k * 2 + 2]? = some es[k].2:=by
 have hl:=flatE_len es
 unfold listCells
 rw [List.getElem?_cons_succ,List.getElem?_cons_succ,List.getElem?_append_left (by omega),List.getElem?_append_left (by omega)]
 exact flatE_get es k h
theorem ListAt.count {w:World} {b o:Nat} {es:List (Str × Value)} (h:ListAt w b o es):w.cell? ⟨b,o,none⟩ = some (.int .i64 es.length):=h.cell 0 _ rfl
theorem ListAt.name {w:World} {b o:Nat} {es:List (Str × Value)} (h:ListAt w b o es) {k:Nat} (hk:k < es.length):w.cell? ⟨b,o + 1 + k * 2,none⟩ = some (SV es[k].1):=by
 have:=h.cell _ _ (listCells_name hk).1;rw [show o + (k * 2 + 1) = o + 1 + k * 2 from by omega] at this;exact this
theorem ListAt.node {w:World} {b o:Nat} {es:List (Str × Value)} (h:ListAt w b o es) {k:Nat} (hk:k < es.length):w.cell? ⟨b,o + 1 + k * 2 + 1,none⟩ = some es[k].2:=by
 have:=h.cell _ _ (listCells_name hk).2;rw [show o + (k * 2 + 2) = o + 1 + k * 2 + 1 from by omega] at this;exact this
def posE:List (Str × Value)→Str→Nat
 | [],_ => 0
 | e :: es,x => if Op.bytesLess e.1 x then posE es x + 1 else 0
def thereE (es:List (Str × Value)) (x:Str):Bool:=match es[posE es x]? with
 | some e => e.1 == x
 | none => false
theorem posE_le (es:List (Str × Value)) (x:Str):posE es x ≤ es.length:=by
 induction es with
 | nil => simp [posE]
 | cons e es ih => rw [posE];split <;> simp;omega
theorem posE_less (es:List (Str × Value)) (x:Str):∀ k (h:k < es.length),k < posE es x→Op.bytesLess es[k].1 x = true:=by
 induction es with
 | nil => intro k h;simp at h
 | cons e es ih =>
  intro k h hk
  rw [posE] at hk
  split at hk
  ·rename_i he
   cases k with
   | zero => exact he
   | succ k => exact ih k (by simpa using h) (by omega)
  ·omega
theorem posE_at (es:List (Str × Value)) (x:Str) (h:posE es x < es.length):Op.bytesLess es[posE es x].1 x = false:=by
 induction es with
 | nil => simp at h
 | cons e es ih =>
  by_cases he:Op.bytesLess e.1 x = true
  ·have h1:posE (e :: es) x = posE es x + 1:=by rw [posE,if_pos he]
   have:=ih (by rw [h1] at h;simpa using h)
   simp only [h1,List.getElem_cons_succ];exact this
  ·have h1:posE (e :: es) x = 0:=by rw [posE,if_neg he]
   simp only [h1,List.getElem_cons_zero];simpa using he
set_option maxHeartbeats 2000000 in
theorem search_any (b o:Nat) (es:List (Str × Value)) (x:Str) (w:World) (h:ListAt w b o es) :
  Calls Tryz.prog 110 #[.pointer (some ⟨b,o,none⟩),SV x] w fun e w' => e = .returned (.tuple #[.int .i64 (posE es x),.bool (thereE es x)])∧Below w.heap.size w w':=by
 have hcnt:=h.count
 have hfew:=h.few
 have hle:=posE_le es x
 go_enter Tryz.func110,Tryz.ntmps110
 go_wp2
 go_loop [6] (fun i => ∃ k:Nat,k ≤ posE es x∧i = .int .i64 k) (fun i => es.length - (intOf i).toNat)
 case atStart => exact ⟨0,Nat.zero_le _,rfl⟩
 case round =>
  obtain ⟨k,hk,rfl⟩:=hrel
  by_cases hlt:k < es.length
  ·have hn:=h.name hlt
   have hidx:(k:Int) < 20:=by omega
   by_cases hp:k < posE es x
   ·have hb:=posE_less es x k hlt hp
    clear h
    go_wp2
    go_round
    case rel => exact ⟨k + 1,by omega,by go_num⟩
    case measure => simp [intOf];omega
   ·have hke:k = posE es x:=by omega
    have hb:Op.bytesLess es[k].1 x = false:=by subst hke;exact posE_at es x hlt
    have R:Hid (posE es x = k∧thereE es x = (es[k].1 == x)):=by refine ⟨hke.symm,?_⟩;unfold thereE;rw [← hke,List.getElem?_eq_getElem hlt]
    clear h hke hk hle hp
    go_wp2
    go_quiet (fail)
    go_wp2
    go_ret2
    refine ⟨?_,below_drewN (Below.refl _ _) _⟩
    rw [R.out.1,R.out.2];rfl
  ·have hke:k = posE es x:=by omega
   have hkl:k = es.length:=by omega
   have R:Hid (posE es x = k∧thereE es x = false):=by refine ⟨hke.symm,?_⟩;unfold thereE;rw [← hke,List.getElem?_eq_none (by omega)]
   have hd:decide ((k:Int) < (es.length:Int)) = false:=by simp;omega
   clear h hke hk hle hkl
   go_wp2
   go_quiet (fail)
   go_wp2
   go_ret2
   refine ⟨?_,below_drewN (Below.refl _ _) _⟩
   rw [R.out.1,R.out.2];rfl
def valE (es:List (Str × Value)) (x:Str):Value:=match es[posE es x]? with
 | some e => if e.1 == x then e.2 else .nilIface
 | none => .nilIface
set_option maxHeartbeats 1000000 in
theorem find_list (b o:Nat) (es:List (Str × Value)) (x:Str) (w:World) (h:ListAt w b o es) (hb:b < w.heap.size) (hv:∀ e ∈ es,∃ t n,e.2 = .iface t (.pointer (some ⟨n,0,none⟩))) :
  Calls Tryz.prog 77 #[.pointer (some ⟨b,o,none⟩),SV x] w fun e w' => e = .returned (valE es x)∧Below w.heap.size w w':=by
 have hle:=posE_le es x
 have hfew:=h.few
 go_enter Tryz.func77,Tryz.ntmps77
 go_wp2_with fail
 refine (search_any b o es x _ h).mono ?_
 rintro e w1 ⟨rfl,hb1⟩
 cases ht:thereE es x
 ·have R:Hid (valE es x = .nilIface):=by
   unfold thereE at ht;unfold valE
   cases hx:es[posE es x]? with
   | none => exact rfl
   | some e => rw [hx] at ht;simp only at ht;simp only [ht];exact rfl
  go_wp2
  go_ret
  exact ⟨by rw [R.out];rfl,hb1⟩
 ·have hp:posE es x < es.length:=by
   unfold thereE at ht
   cases hx:es[posE es x]? with
   | none => rw [hx] at ht;simp at ht
   | some e => exact (List.getElem?_eq_some_iff.1 hx).1
  have R:Hid (valE es x = es[posE es x].2):=by
   unfold thereE at ht;unfold valE
   rw [List.getElem?_eq_getElem hp] at ht ⊢
   simp only at ht;simp only [ht];exact rfl
  have hn:=(hb1.cell (p:=⟨b,o + 1 + posE es x * 2 + 1,none⟩) hb).trans (h.node hp)
  have hidx:(posE es x:Int) < 20:=by omega
  obtain ⟨t,n,h1c⟩:=hv es[posE es x] (List.getElem_mem hp)
  rw [h1c] at hn
  have R2:Hid (valE es x = .iface t (.pointer (some ⟨n,0,none⟩))):=by rw [Hid,R.out,h1c]
  clear h hv h1c R
  generalize posE es x = k at *
  go_wp2
  go_ret
  exact ⟨by rw [R2.out];rfl,hb1⟩

open Go.RowKit
abbrev fileV (b:Nat):Value:=.iface 131 (.pointer (some ⟨b,0,none⟩))
abbrev dirV (b:Nat):Value:=.iface 89 (.pointer (some ⟨b,0,none⟩))
def DirAt (w:World) (b:Nat) (u:Int) (vs:List (Str × Value)):Prop :=
 vs.length ≤ 20∧w.heap[b]? = some (.cells (Value.int .i64 u :: listCells vs).toArray 149 (0,0))
def FileAt (w:World) (b:Nat) (u:Int) (d:Str):Prop :=
 w.heap[b]? = some (.cells #[.int .i64 u,SV d] 135 (0,0))
theorem DirAt.list {w:World} {b:Nat} {u:Int} {vs:List (Str × Value)} (h:DirAt w b u vs):ListAt w b 1 vs:=by
 refine ⟨h.1,fun i x hx => ?_⟩
 rw [blk_cell h.2,Nat.add_comm]
 simpa using hx
theorem DirAt.users {w:World} {b:Nat} {u:Int} {vs:List (Str × Value)} (h:DirAt w b u vs):w.cell? ⟨b,0,none⟩ = some (.int .i64 u):=by rw [blk_cell h.2];rfl
theorem DirAt.lt {w:World} {b:Nat} {u:Int} {vs:List (Str × Value)} (h:DirAt w b u vs):b < w.heap.size:=(Array.getElem?_eq_some_iff.1 h.2).1
theorem FileAt.lt {w:World} {b:Nat} {u:Int} {d:Str} (h:FileAt w b u d):b < w.heap.size:=(Array.getElem?_eq_some_iff.1 h).1
mutual
inductive RepT (w:World) (Q:Nat→Int→Prop):Value→Tree→Prop
 | file {b:Nat} {u:Int} {d:Str} (h:FileAt w b u d) (hq:Q b u):RepT w Q (fileV b) (.file d)
 | dir {b:Nat} {u:Int} {vs:List (Str × Value)} {es:Ents} (h:DirAt w b u vs) (hq:Q b u) (he:RepE w Q vs es):RepT w Q (dirV b) (.dir es)
inductive RepE (w:World) (Q:Nat→Int→Prop):List (Str × Value)→Ents→Prop
 | nil:RepE w Q [] []
 | cons {x:Str} {v:Value} {t:Tree} {vs:List (Str × Value)} {es:Ents} (h:RepT w Q v t) (hs:RepE w Q vs es):RepE w Q ((x,v) :: vs) ((x,t) :: es)
end
theorem RepT.form {w:World} {Q:Nat→Int→Prop} {v:Value} {t:Tree} (h:RepT w Q v t):∃ k n,v = .iface k (.pointer (some ⟨n,0,none⟩)):=by
 cases h with
 | file => exact ⟨_,_,rfl⟩
 | dir => exact ⟨_,_,rfl⟩
theorem RepE.forms {w:World} {Q:Nat→Int→Prop} {vs:List (Str × Value)} {es:Ents} (h:RepE w Q vs es):∀ e ∈ vs,∃ k n,e.2 = .iface k (.pointer (some ⟨n,0,none⟩)):=by
 induction vs generalizing es with
 | nil => intro e he;simp at he
 | cons f vs ih =>
  cases h with
  | cons h hs =>
   intro e he;simp at he;rcases he with rfl | he
   ·exact h.form
   ·exact ih hs e he
theorem RepE.len {w:World} {Q:Nat→Int→Prop} {vs:List (Str × Value)} {es:Ents} (h:RepE w Q vs es):vs.length = es.length:=by
 induction vs generalizing es with
 | nil => cases h;rfl
 | cons f vs ih => cases h with
  | cons h hs => simp [ih hs]
mutual
theorem RepT.keep {w w' : World} {Q Q' : Nat→Int→Prop} (hd:∀ b u vs,DirAt w b u vs→Q b u→∃ u',DirAt w' b u' vs∧Q' b u') (hf:∀ b u d,FileAt w b u d→Q b u→∃ u',FileAt w' b u' d∧Q' b u'):∀ {v t},RepT w Q v t→RepT w' Q' v t
 | _,_,.file h hq => by obtain ⟨u',h1,h2⟩:=hf _ _ _ h hq;exact .file h1 h2
 | _,_,.dir h hq he => by obtain ⟨u',h1,h2⟩:=hd _ _ _ h hq;exact .dir h1 h2 (RepE.keep hd hf he)
theorem RepE.keep {w w' : World} {Q Q' : Nat→Int→Prop} (hd:∀ b u vs,DirAt w b u vs→Q b u→∃ u',DirAt w' b u' vs∧Q' b u') (hf:∀ b u d,FileAt w b u d→Q b u→∃ u',FileAt w' b u' d∧Q' b u'):∀ {vs es},RepE w Q vs es→RepE w' Q' vs es
 | _,_,.nil => .nil
 | _,_,.cons h hs => .cons (RepT.keep hd hf h) (RepE.keep hd hf hs)
end
theorem DirAt.below {w w' : World} {B b:Nat} {u:Int} {vs:List (Str × Value)} (h:DirAt w b u vs) (hb:Below B w w') (hB:w.heap.size ≤ B):DirAt w' b u vs :=
 ⟨h.1,(hb.block b (by have:=h.lt;omega)).trans h.2⟩
theorem FileAt.below {w w' : World} {B b:Nat} {u:Int} {d:Str} (h:FileAt w b u d) (hb:Below B w w') (hB:w.heap.size ≤ B):FileAt w' b u d :=
 (hb.block b (by have:=h.lt;omega)).trans h
theorem RepT.later {w w' : World} {B:Nat} {Q:Nat→Int→Prop} {v:Value} {t:Tree} (h:RepT w Q v t) (hb:Below B w w') (hB:w.heap.size ≤ B):RepT w' Q v t :=
 h.keep (fun _ u _ h hq => ⟨u,h.below hb hB,hq⟩) (fun _ u _ h hq => ⟨u,h.below hb hB,hq⟩)
theorem RepE.later {w w' : World} {B:Nat} {Q:Nat→Int→Prop} {vs:List (Str × Value)} {es:Ents} (h:RepE w Q vs es) (hb:Below B w w') (hB:w.heap.size ≤ B):RepE w' Q vs es :=
 h.keep (fun _ u _ h hq => ⟨u,h.below hb hB,hq⟩) (fun _ u _ h hq => ⟨u,h.below hb hB,hq⟩)
def RepO (w:World) (Q:Nat→Int→Prop) (v:Value) (t:Option Tree):Prop:=match t with
 | none => v = .nilIface
 | some t => RepT w Q v t
theorem rep_find {w:World} {Q:Nat→Int→Prop} {vs:List (Str × Value)} {es:Ents} (h:RepE w Q vs es) (hw:WFE es) (x:Str):RepO w Q (valE vs x) (findE es x):=by
 induction vs generalizing es with
 | nil => cases h;exact rfl
 | cons f vs ih =>
  cases h with
  | @cons y v t _ es h hs =>
   unfold WFE at hw
   have ih:=ih hs hw.2.2.2
   by_cases hl:Op.bytesLess y x = true
   ·have e1:valE ((y,v) :: vs) x = valE vs x:=by unfold valE;rw [posE,if_pos hl];rfl
    have e2:findE ((y,t) :: es) x = findE es x:=by rw [findE,if_neg (bl_ne hl)]
    rw [e1,e2];exact ih
   ·have e1:valE ((y,v) :: vs) x = if (y == x) = true then v else .nilIface:=by unfold valE;rw [posE,if_neg hl];rfl
    rw [e1,findE]
    by_cases e:y = x
    ·subst e;rw [if_pos (by simp),if_pos rfl];exact h
    ·rw [if_neg (by simpa using e),if_neg e]
     rw [findE_none]
     ·exact rfl
     ·intro z hz e2
      have h1:=hw.2.2.1 z hz
      rw [e2] at h1
      exact hl h1
def placeN:Place→Int
 | .free => 0
 | .blocked => 1
 | .atFile => 2
 | .atDir => 3
def LookOut (w:World) (Q:Nat→Int→Prop) (t:Option Tree) (q:List Str) (e:Ending):Prop :=
 ∃ v,e = .returned (.tuple #[v,.int .i64 (placeN (look t q))])∧RepO w Q v (t.bind fun t => sub t q)
theorem look_sub (t:Tree) (q:List Str):(look (some t) q = .atFile∨look (some t) q = .atDir) ↔ (sub t q).isSome = true:=by
 induction q generalizing t with
 | nil => cases t <;> simp [look,sub]
 | cons x r ih =>
  cases t with
  | file d => simp [look,sub]
  | dir es =>
   rw [look,sub]
   cases findE es x with
   | none => simp [look]
   | some u => exact ih u
theorem names_tail {w:World} {x:Str} {r:List Str} {a:Addr} {n cap:Nat} (h:NamesAt w (.slice (some a) n cap) (x :: r)) :
  ∃ g o,a = ⟨g,o,none⟩∧n = r.length + 1∧n ≤ cap∧cap ≤ maxLen∧g < w.heap.size∧w.cell? ⟨g,o,none⟩ = some (SV x)∧(∀ b c m,(0 < r.length→b = some ⟨g,o + 1,none⟩)→m = r.length→m ≤ c→c ≤ maxLen→NamesAt w (.slice b m c) r):=by
 obtain ⟨ao,cap',h1,h2,h3,h4⟩:=h
 simp only [Value.slice.injEq] at h1
 obtain ⟨rfl,rfl,rfl⟩:=h1
 obtain ⟨g,o,h5,h6,h7⟩:=h4 0 (by simp)
 simp only [Option.some.injEq] at h5
 refine ⟨g,o,h5,by simp,by simpa using h2,h3,h6,by simpa using h7,?_⟩
 intro b c m hb hm hmc hc
 refine ⟨b,c,by rw [hm],by omega,hc,fun k hk => ?_⟩
 obtain ⟨g',o',h8,h9,h10⟩:=h4 (k + 1) (by simp;omega)
 rw [h5] at h8
 simp only [Option.some.injEq,Addr.mk.injEq,and_true] at h8
 obtain ⟨rfl,rfl⟩:=h8
 refine ⟨g,o + 1,hb (by omega),h9,?_⟩
 rw [show o + 1 + k = o + (k + 1) from by omega]
 simpa using h10
theorem Tryz.assertFile (b:Nat) (w:World):(Instr.typeAssert (fileV b) 99 131 true).run Tryz.prog w = .ok (.tuple #[.pointer (some ⟨b,0,none⟩),.bool true]) w:=by kernel_rfl
theorem Tryz.assertFileNo (b:Nat) (w:World):(Instr.typeAssert (fileV b) 99 89 true).run Tryz.prog w = .ok (.tuple #[.pointer none,.bool false]) w:=by kernel_rfl
theorem Tryz.assertDir (b:Nat) (w:World):(Instr.typeAssert (dirV b) 99 89 true).run Tryz.prog w = .ok (.tuple #[.pointer (some ⟨b,0,none⟩),.bool true]) w:=by kernel_rfl
theorem Tryz.assertDirNo (b:Nat) (w:World):(Instr.typeAssert (dirV b) 99 131 true).run Tryz.prog w = .ok (.tuple #[.pointer none,.bool false]) w:=by kernel_rfl
theorem Tryz.assertNil1 (w:World):(Instr.typeAssert .nilIface 99 131 true).run Tryz.prog w = .ok (.tuple #[.pointer none,.bool false]) w:=by kernel_rfl
theorem Tryz.assertNil2 (w:World):(Instr.typeAssert .nilIface 99 89 true).run Tryz.prog w = .ok (.tuple #[.pointer none,.bool false]) w:=by kernel_rfl

open Go.RowKit
def WFO:Option Tree→Prop
 | none => True
 | some (.file _) => True
 | some (.dir es) => WFE es
theorem wfo_find {es:Ents} (h:WFE es) (x:Str):WFO (findE es x):=by
 cases hf:findE es x with
 | none => trivial
 | some t => cases t with
  | file d => trivial
  | dir es' => have:=(h.mem _ (findE_mem hf)).2;unfold WFT at this;exact this.2
set_option maxHeartbeats 4000000 in
theorem look_any (Q:Nat→Int→Prop) (q:List Str):∀ (t:Option Tree) (v nv:Value) (w:World),RepO w Q v t→WFO t→NamesAt w nv q →
  Calls Tryz.prog 51 #[v,nv] w fun e w' => LookOut w' Q t q e∧Below w.heap.size w w':=by
 induction q with
 | nil =>
  intro t v nv w hr hw hn
  obtain ⟨ao,cap,rfl,hc,hm⟩:=names_form hn
  clear hn
  cases t with
  | none =>
   cases hr
   have a1:=Tryz.assertNil1
   have a2:=Tryz.assertNil2
   go_enter Tryz.func51,Tryz.ntmps51
   go_wp2
   go_ret2
   exact ⟨⟨_,rfl,rfl⟩,Below.refl _ _⟩
  | some t =>
   cases hr with
   | file h hq =>
    rename_i b u d
    have a1:=Tryz.assertFile
    have Hh:Hid _:=h
    clear h
    go_enter Tryz.func51,Tryz.ntmps51
    go_wp2
    go_ret2
    exact ⟨⟨_,rfl,.file Hh.out hq⟩,Below.refl _ _⟩
   | dir h hq he =>
    rename_i b u vs es
    have a1:=Tryz.assertDirNo
    have a2:=Tryz.assertDir
    have Hh:Hid _:=h
    clear h
    go_enter Tryz.func51,Tryz.ntmps51
    go_wp2
    go_ret2
    exact ⟨⟨_,rfl,.dir Hh.out hq he⟩,Below.refl _ _⟩
 | cons x r ih =>
  intro t v nv w hr hw hn
  obtain ⟨ao,cap,rfl,hc,hm⟩:=names_form hn
  cases t with
  | none =>
   cases hr
   have a1:=Tryz.assertNil1
   have a2:=Tryz.assertNil2
   clear hn ih
   go_enter Tryz.func51,Tryz.ntmps51
   go_wp2
   go_ret2
   exact ⟨⟨_,rfl,rfl⟩,Below.refl _ _⟩
  | some t =>
   cases hr with
   | file h hq =>
    rename_i b u d
    have a1:=Tryz.assertFile
    have Hh:Hid _:=h
    clear h hn ih
    have hpos:(0:Int) < ((x :: r).length:Int):=by simp
    go_enter Tryz.func51,Tryz.ntmps51
    go_wp2
    go_ret2
    exact ⟨⟨_,rfl,rfl⟩,Below.refl _ _⟩
   | dir h hq he =>
    rename_i b u vs es
    have a1:=Tryz.assertDirNo
    have a2:=Tryz.assertDir
    have hL:=h.list
    have hbl:=h.lt
    have hF:=rep_find he hw x
    have hwo:=wfo_find hw x
    have hforms:=he.forms
    have hne:((r.length:Int) + 1 == 0) = false:=by simp;omega
    have ha:∃ a,ao = some a:=by
     obtain ⟨ao',cap',h1,_,_,h4⟩:=hn
     simp only [Value.slice.injEq] at h1
     obtain ⟨g,o,h5,_⟩:=h4 0 (by simp)
     exact ⟨_,h1.1.trans h5⟩
    obtain ⟨a,rfl⟩:=ha
    obtain ⟨g,o,rfl,_,hnc,hcm,hg,hcx,htail⟩:=names_tail hn
    have CF:Hid (∀ W,Like W w→Calls Tryz.prog 77 #[.pointer (some ⟨b,1,none⟩),SV x] W fun e w' => e = .returned (valE vs x)∧Below w.heap.size w w'):=by
     intro W hW
     have hl2:ListAt W b 1 vs:=⟨hL.few,fun i u hu => ((hW.below w.heap.size).cell (p:=⟨b,1 + i,none⟩) hbl).trans (hL.cell i u hu)⟩
     refine (find_list b 1 vs x W hl2 (by rw [hW.heap];exact hbl) hforms).mono ?_
     rintro e w1 ⟨rfl,hb1⟩
     exact ⟨rfl,(hW.below w.heap.size).trans (hb1.mono (by rw [hW.heap];exact Nat.le_refl _))⟩
    have CL:Hid (∀ W ad c m,Below w.heap.size w W→(0 < r.length→ad = some ⟨g,o + 1,none⟩)→m = r.length→m ≤ c→c ≤ maxLen→Calls Tryz.prog 51 #[valE vs x,.slice ad m c] W fun e w' => LookOut w' Q (findE es x) r e∧Below w.heap.size w w'):=by
     intro W ad c m hW h1 h2 h3 h4
     have hr2:RepO W Q (valE vs x) (findE es x):=by
      unfold RepO at hF ⊢
      cases hfe:findE es x with
      | none => rw [hfe] at hF;exact hF
      | some t => rw [hfe] at hF;exact hF.later hW (Nat.le_refl _)
     refine (ih _ _ _ W hr2 hwo (names_below (htail ad c m h1 h2 h3 h4) hW (Nat.le_refl _))).mono ?_
     rintro e w2 ⟨h5,h6⟩
     exact ⟨h5,hW.trans (h6.mono hW.size)⟩
    clear ih hn h he hF hL hforms htail hwo
    unfold maxLen at hcm
    have hlen1:(1:Int) ≤ (r.length:Int) + 1:=by omega
    have hcap1:((r.length:Int) + 1) ≤ (cap:Int):=by omega
    have R:Hid (look (some (.dir es)) (x :: r) = look (findE es x) r∧((some (Tree.dir es)).bind fun t => sub t (x :: r)) = (findE es x).bind fun t => sub t r):=by
     refine ⟨by rw [look],?_⟩
     simp only [Option.bind_some];rw [sub];cases findE es x <;> rfl
    by_cases hc1:cap = 1
    ·subst hc1
     go_enter Tryz.func51,Tryz.ntmps51
     go_wp2
     go_region_with (first | (go_at_call 77;refine (CF.out _ ?_).mono ?_;exact ⟨rfl,rfl,rfl,rfl⟩;rintro e w1 ⟨rfl,hb1⟩) | (go_at_call 51;refine (CL.out _ _ _ _ ?_ ?_ ?_ ?_ ?_).mono ?_;exact hb1;(intro hx;omega);omega;omega;(unfold maxLen;omega);rintro e w2 ⟨⟨v2,rfl,hr2⟩,hb2⟩))
     all_goals
      go_wp2
      go_ret2
      exact ⟨⟨_,by rw [R.out.1];rfl,by rw [R.out.2];assumption⟩,by assumption⟩
    ·have hc2:¬ cap - 1 = 0:=by omega
     have hc3:¬ (cap:Int) = 1:=by omega
     go_enter Tryz.func51,Tryz.ntmps51
     go_wp2
     go_region_with (first | (go_at_call 77;refine (CF.out _ ?_).mono ?_;exact ⟨rfl,rfl,rfl,rfl⟩;rintro e w1 ⟨rfl,hb1⟩) | (go_at_call 51;refine (CL.out _ _ _ _ ?_ ?_ ?_ ?_ ?_).mono ?_;exact hb1;(intro hx;rfl);omega;omega;(unfold maxLen;omega);rintro e w2 ⟨⟨v2,rfl,hr2⟩,hb2⟩))
     all_goals
      go_wp2
      go_ret2
      exact ⟨⟨_,by rw [R.out.1];rfl,by rw [R.out.2];assumption⟩,by assumption⟩

open Go.RowKit
theorem Tryz.countFile (b : Nat) (w : World) : (method 401 131 (.pointer (some ⟨b, 0, none⟩)) "canopy/canopy.fileCount").run Tryz.prog w = .ok (214, .pointer (some ⟨b, 0, none⟩)) w := by kernel_rfl
theorem Tryz.countDir (b : Nat) (w : World) : (method 401 89 (.pointer (some ⟨b, 0, none⟩)) "canopy/canopy.fileCount").run Tryz.prog w = .ok (62, .pointer (some ⟨b, 0, none⟩)) w := by kernel_rfl
theorem Tryz.heightFile (b : Nat) (w : World) : (method 401 131 (.pointer (some ⟨b, 0, none⟩)) "canopy/canopy.height").run Tryz.prog w = .ok (215, .pointer (some ⟨b, 0, none⟩)) w := by kernel_rfl
theorem Tryz.heightDir (b : Nat) (w : World) : (method 401 89 (.pointer (some ⟨b, 0, none⟩)) "canopy/canopy.height").run Tryz.prog w = .ok (211, .pointer (some ⟨b, 0, none⟩)) w := by kernel_rfl
theorem fileFileCount_any (b:Nat) (w:World):Calls Tryz.prog 214 #[.pointer (some ⟨b,0,none⟩)] w fun e w' => e = .returned (.int .i64 1)∧w' = w:=by
 go_enter Tryz.func214,Tryz.ntmps214
 go_wp2
 go_ret
 exact ⟨rfl,rfl⟩
theorem fileHeight_any (b:Nat) (w:World):Calls Tryz.prog 215 #[.pointer (some ⟨b,0,none⟩)] w fun e w' => e = .returned (.int .i64 0)∧w' = w:=by
 go_enter Tryz.func215,Tryz.ntmps215
 go_wp2
 go_ret
 exact ⟨rfl,rfl⟩
theorem filesE_take {es:Ents} {k:Nat} (h:k < es.length):(filesE (es.take (k + 1))).length = (filesE (es.take k)).length + (filesT es[k].2).length:=by
 induction es generalizing k with
 | nil => simp at h
 | cons e es ih =>
  obtain ⟨x,t⟩:=e
  cases k with
  | zero => simp [filesE]
  | succ k =>
   have:=ih (k:=k) (by simpa using h)
   simp only [List.take_succ_cons,filesE,List.length_append,List.getElem_cons_succ]
   simp only [List.length_map];omega
theorem filesE_take_le {es:Ents} (k:Nat):(filesE (es.take k)).length ≤ (filesE es).length:=by
 induction es generalizing k with
 | nil => simp
 | cons e es ih =>
  obtain ⟨x,t⟩:=e
  cases k with
  | zero => simp [filesE]
  | succ k => have:=ih k;simp only [List.take_succ_cons,filesE,List.length_append];omega
theorem RepE.get {w:World} {Q:Nat→Int→Prop} {vs:List (Str × Value)} {es:Ents} (h:RepE w Q vs es):∀ k (h1:k < vs.length) (h2:k < es.length),vs[k].1 = es[k].1∧RepT w Q vs[k].2 es[k].2:=by
 induction vs generalizing es with
 | nil => intro k h1;simp at h1
 | cons f vs ih => cases h with
  | cons h hs => intro k h1 h2;cases k with
   | zero => exact ⟨rfl,h⟩
   | succ k => exact ih hs k (by simpa using h1) (by simpa using h2)
theorem size_ent {es:Ents} {k:Nat} (h:k < es.length):SizeOf.sizeOf es[k].2 < SizeOf.sizeOf (Tree.dir es):=by
 have h1:=List.sizeOf_lt_of_mem (List.getElem_mem h)
 have h2:SizeOf.sizeOf es[k].2 < SizeOf.sizeOf es[k]:=by
  generalize es[k] = e;obtain ⟨x,t⟩:=e;simp;omega
 simp only [Tree.dir.sizeOf_spec];omega
set_option maxHeartbeats 2000000 in
set_option maxRecDepth 50000 in
theorem fileCount_any (n:Nat):∀ (es:Ents) (Q:Nat→Int→Prop) (b:Nat) (u:Int) (vs:List (Str × Value)) (w:World),SizeOf.sizeOf (Tree.dir es) ≤ n→DirAt w b u vs→RepE w Q vs es→(filesE es).length ≤ 1000 →
  Calls Tryz.prog 62 #[.pointer (some ⟨b,0,none⟩)] w fun e w' => e = .returned (.int .i64 (filesE es).length)∧w' = w:=by
 induction n with
 | zero => intro es Q b u vs w hn;simp only [Tree.dir.sizeOf_spec] at hn;omega
 | succ n ih =>
  intro es Q b u vs w hn hd he hc
  have hL:=hd.list
  have hcnt:=hL.count
  have hfew:=hL.few
  have hlen:=he.len
  have hl1:es.length ≤ vs.length:=by omega
  have Hlen:Hid _:=hlen
  clear hlen
  go_enter Tryz.func62,Tryz.ntmps62
  go_wp2
  go_loop [3,10] (fun c i => ∃ k:Nat,k ≤ vs.length∧i = .int .i64 k∧c = .int .i64 ((filesE (es.take k)).length:Nat)) (fun _ i => vs.length - (intOf i).toNat)
  case atStart => exact ⟨0,Nat.zero_le _,rfl,rfl⟩
  case round =>
   obtain ⟨k,hk,rfl,rfl⟩:=hrel
   by_cases hlt:k < vs.length
   ·have hke:k < es.length:=by have:=Hlen.out;omega
    have hnode:=hL.node hlt
    have hidx:(k:Int) < 20:=by omega
    have hR:=(he.get k hlt hke).2
    have hle1:=filesE_take_le (es:=es) k
    have hle2:=filesE_take_le (es:=es) (k + 1)
    have hst:=filesE_take hke
    have hsz:=size_ent hke
    have hf:=he.forms
    generalize es[k].2 = t at *
    generalize vs[k].2 = v at *
    have Hst:Hid _:=hst
    have hb2:(filesT t).length ≤ 1000:=by omega
    have hb1:(filesE (es.take k)).length ≤ 1000:=by omega
    clear hst hle1 hle2
    cases hR with
    | file h hq =>
     rename_i b2 u2 d2
     have m1:=Tryz.countFile
     have R:Hid ((filesE (es.take (k + 1))).length = (filesE (es.take k)).length + 1):=by rw [Hid,Hst.out];simp [filesT]
     clear ih hd he hL hf h
     go_wp2_with (go_at_call 214;refine (fileFileCount_any b2 _).mono ?_;rintro e w1 ⟨rfl,rfl⟩)
     go_round
     case rel => exact ⟨k + 1,by omega,by go_num,by rw [R.out];go_num⟩
     case measure => simp [intOf];omega
    | dir h hq he2 =>
     rename_i b2 u2 vs2 es2
     have m1:=Tryz.countDir
     have hfe:(filesT (.dir es2)).length = (filesE es2).length:=by rw [filesT]
     have R:Hid ((filesE (es.take (k + 1))).length = (filesE (es.take k)).length + (filesE es2).length):=by rw [Hid,Hst.out,hfe]
     have C:Hid (Calls Tryz.prog 62 #[.pointer (some ⟨b2,0,none⟩)] w fun e w' => e = .returned (.int .i64 ((filesE es2).length:Nat))∧w' = w):=ih es2 Q b2 u2 vs2 w (by omega) h he2 (by omega)
     have hb3:(filesE es2).length ≤ 1000:=by omega
     clear ih hd he hL hf h he2 hb2 hsz hfe
     generalize (filesE es2).length = m at *
     go_wp2_with (go_at_call 62;refine C.out.mono ?_;rintro e w1 ⟨rfl,rfl⟩)
     go_round
     case rel => exact ⟨k + 1,by omega,by go_num,by rw [R.out];go_num⟩
     case measure => simp [intOf];omega
   ·have R:Hid (es.take k = es):=by rw [Hid,List.take_of_length_le (by have:=Hlen.out;omega)]
    clear ih hd he hL
    go_wp2
    go_ret
    exact ⟨by rw [R.out];rfl,rfl⟩

open Go.RowKit
theorem heightE_take {es:Ents} {k:Nat} (h:k < es.length):heightE (es.take (k + 1)) = max (heightE (es.take k)) (1 + heightT es[k].2):=by
 induction es generalizing k with
 | nil => simp at h
 | cons e es ih =>
  obtain ⟨x,t⟩:=e
  cases k with
  | zero => simp [heightE]
  | succ k =>
   have:=ih (k:=k) (by simpa using h)
   simp only [List.take_succ_cons,heightE,List.getElem_cons_succ]
   rw [this];omega
theorem heightE_take_le {es:Ents} (k:Nat):heightE (es.take k) ≤ heightE es:=by
 induction es generalizing k with
 | nil => simp
 | cons e es ih =>
  obtain ⟨x,t⟩:=e
  cases k with
  | zero => simp [heightE]
  | succ k => have:=ih k;simp only [List.take_succ_cons,heightE];omega
set_option maxHeartbeats 2000000 in
set_option maxRecDepth 50000 in
theorem height_any (n:Nat):∀ (es:Ents) (Q:Nat→Int→Prop) (b:Nat) (u:Int) (vs:List (Str × Value)) (w:World),SizeOf.sizeOf (Tree.dir es) ≤ n→DirAt w b u vs→RepE w Q vs es→heightE es ≤ 1000 →
  Calls Tryz.prog 211 #[.pointer (some ⟨b,0,none⟩)] w fun e w' => e = .returned (.int .i64 (heightE es:Nat))∧w' = w:=by
 induction n with
 | zero => intro es Q b u vs w hn;simp only [Tree.dir.sizeOf_spec] at hn;omega
 | succ n ih =>
  intro es Q b u vs w hn hd he hc
  have hL:=hd.list
  have hcnt:=hL.count
  have hfew:=hL.few
  have hlen:=he.len
  have hl1:es.length ≤ vs.length:=by omega
  have Hlen:Hid _:=hlen
  clear hlen
  go_enter Tryz.func211,Tryz.ntmps211
  go_wp2
  go_loop [3,10] (fun c i => ∃ k:Nat,k ≤ vs.length∧i = .int .i64 k∧c = .int .i64 (heightE (es.take k):Nat)) (fun _ i => vs.length - (intOf i).toNat)
  case atStart => exact ⟨0,Nat.zero_le _,rfl,rfl⟩
  case round =>
   obtain ⟨k,hk,rfl,rfl⟩:=hrel
   by_cases hlt:k < vs.length
   ·have hke:k < es.length:=by have:=Hlen.out;omega
    have hnode:=hL.node hlt
    have hidx:(k:Int) < 20:=by omega
    have hR:=(he.get k hlt hke).2
    have hle1:=heightE_take_le (es:=es) k
    have hle2:=heightE_take_le (es:=es) (k + 1)
    have hst:=heightE_take hke
    have hsz:=size_ent hke
    generalize es[k].2 = t at *
    generalize vs[k].2 = v at *
    have Hst:Hid _:=hst
    have hb2:heightT t ≤ 1000:=by omega
    have hb1:heightE (es.take k) ≤ 1000:=by omega
    clear hst hle1 hle2
    generalize hH:heightE (es.take k) = H at *
    have HH:Hid _:=hH
    clear hH
    cases hR with
    | file h hq =>
     rename_i b2 u2 d2
     have m1:=Tryz.heightFile
     have R:Hid (heightE (es.take (k + 1)) = max H 1):=by rw [Hid,Hst.out];simp [heightT]
     clear ih hd he hL h
     go_wp2_with (go_at_call 215;refine (fileHeight_any b2 _).mono ?_;rintro e w1 ⟨rfl,rfl⟩)
     go_round
     case rel => exact ⟨k + 1,by omega,by go_num,by rw [R.out];congr 1;omega⟩
     case measure => simp [intOf];omega
    | dir h hq he2 =>
     rename_i b2 u2 vs2 es2
     have m1:=Tryz.heightDir
     have hfe:heightT (.dir es2) = heightE es2:=by rw [heightT]
     have R:Hid (heightE (es.take (k + 1)) = max H (1 + heightE es2)):=by rw [Hid,Hst.out,hfe]
     have C:Hid (Calls Tryz.prog 211 #[.pointer (some ⟨b2,0,none⟩)] w fun e w' => e = .returned (.int .i64 (heightE es2:Nat))∧w' = w):=ih es2 Q b2 u2 vs2 w (by omega) h he2 (by omega)
     have hb3:heightE es2 ≤ 1000:=by omega
     clear ih hd he hL h he2 hb2 hsz hfe
     generalize heightE es2 = m at *
     go_wp2_with (go_at_call 211;refine C.out.mono ?_;rintro e w1 ⟨rfl,rfl⟩)
     go_round
     case rel => exact ⟨k + 1,by omega,by go_num,by rw [R.out];congr 1;omega⟩
     case measure => simp [intOf];omega
   ·have R:Hid (es.take k = es):=by rw [Hid,List.take_of_length_le (by have:=Hlen.out;omega)]
    clear ih hd he hL
    go_wp2
    go_ret
    exact ⟨by rw [R.out];rfl,rfl⟩

open Go.RowKit
theorem run_copy2 {P:Program} (w:World) (dT sT ty elem:TypeId) (g o dLen dCap:Nat) (da a:Addr) (sLen sCap:Nat) (cur:Array Value) (t:TypeId) (cs:List Value)
  (hu:P.underlying dT = some (.slice elem)) (hs:(P.info? elem).map (·.size) = some 2)
  (hg:w.heap[g]? = some (.cells cur t (0,0))) (hn:cs.length = Nat.min sLen dLen * 2) (hda:0 < cs.length→da = ⟨g,o,none⟩)
  (hsrc:∀ j v,cs[j]? = some v→w.cell? (a.add j) = some v) (hfit:o + cs.length ≤ cur.size) (h1:∀ v ∈ cs,v.oneCell' = true) :
  (Builtin.copy_ #[dT,sT] ty #[.slice (some da) dLen dCap,.slice (some a) sLen sCap]).run P w =
   .ok (goInt (Nat.min sLen dLen)) (w.setRow g (cur.toList.take o ++ cs ++ cur.toList.drop (o + cs.length)).toArray):=by
 have hl:=run_loadCells_list (P:=P) w a cs hsrc
 cases hq:P.info? elem with
 | none => simp [hq] at hs
 | some i =>
  have hi:i.size = 2:=by simpa [hq] using hs
  rw [hn] at hl
  by_cases h0:cs.length = 0
  ·obtain rfl:cs = []:=List.eq_nil_of_length_eq_zero h0
   have e:w.setRow g (cur.toList.take o ++ [] ++ cur.toList.drop (o + 0)).toArray = w:=by
    simp only [List.append_nil,Nat.add_zero,List.take_append_drop,Array.toArray_toList]
    exact setRow_self w g cur t (0,0) hg
   simp only [List.length_nil,e]
   simp [Builtin.copy_,run_underlying hu,Builtin.lenOf,Builtin.firstCells,sizeOf,typeInfo,hq,hi,hl,storeCells]
  ·have hd:=hda (by omega)
   subst hd
   have hst:=run_storeCells_at P g o t cs 0 cur w hg (by simpa using hfit) h1
   simp [Builtin.copy_,run_underlying hu,Builtin.lenOf,Builtin.firstCells,sizeOf,typeInfo,hq,hi,hl,hst]
theorem step_copy2 {P:Program} {ops:Array Oper} {op:Oper} {a:Act} {w:World} {K:Act→World→Prop} {Q:Exit→Act→World→Prop} {E:Prop} (hgd:op.guard = none) (d s:Operand) (dT sT:TypeId)
  (ho:op.op = .call { callee:=.builtin .copy,args:=#[d,s],argTypes:=#[dT,sT] }) (elem:TypeId) (hu:P.underlying dT = some (.slice elem)) (hsz:(P.info? elem).map (·.size) = some 2)
  (da sa:Addr) (dLen dCap sLen sCap:Nat) (hd:a.eval d = .slice (some da) dLen dCap) (hs:a.eval s = .slice (some sa) sLen sCap)
  (g o:Nat) (cur:Array Value) (t:TypeId) (hg:w.heap[g]? = some (.cells cur t (0,0))) (cs:List Value) (hn:cs.length = Nat.min sLen dLen * 2) (hda:0 < cs.length→da = ⟨g,o,none⟩)
  (hsrc:∀ j v,cs[j]? = some v→w.cell? (sa.add j) = some v) (hfit:o + cs.length ≤ cur.size) (h1:∀ v ∈ cs,v.oneCell' = true)
  (h:K (a.put op.dst (goInt (Nat.min sLen dLen))) (w.setRow g (cur.toList.take o ++ cs ++ cur.toList.drop (o + cs.length)).toArray)) :
  if Region.wanted op (yielded ops a.tmps) = true then Oper.wp P op a w K Q else E:=by
 have hw:Region.wanted op (yielded ops a.tmps) = true:=by simp [Region.wanted,hgd]
 rw [if_pos hw]
 have hr:=run_copy2 (P:=P) w dT sT op.type elem g o dLen dCap da sa sLen sCap cur t cs hu hsz hg hn hda hsrc hfit h1
 unfold Oper.wp
 simp only [execOp,ho,resolve,invoke,builtin,Sem.run_bind,Sem.run_pure,Result.andThen_ok,List.map_toArray,List.map_cons,List.map_nil,hd,hs,hr]
 exact h
abbrev flatE (vs:List (Str × Value)):List Value:=vs.flatMap fun e => [SV e.1,e.2]
def padE (n:Nat):List Value:=(List.replicate n [SV [],Value.nilIface]).flatten
theorem listCells_eq (vs:List (Str × Value)):listCells vs = .int .i64 vs.length :: (flatE vs ++ padE (20 - vs.length)):=rfl
theorem padE_succ (n:Nat):padE (n + 1) = SV [] :: .nilIface :: padE n:=by simp [padE,List.replicate_succ]
theorem padE_len (n:Nat):(padE n).length = n * 2:=by
 induction n with
 | zero => rfl
 | succ n ih => rw [padE_succ];simp [ih];omega
theorem flatE_app (a b:List (Str × Value)):flatE (a ++ b) = flatE a ++ flatE b:=by simp [flatE]
def withV (vs:List (Str × Value)) (x:Str) (v:Value):List (Str × Value) :=
 if thereE vs x then vs.set (posE vs x) (x,v) else vs.take (posE vs x) ++ (x,v) :: vs.drop (posE vs x)
theorem shift_cells {vs:List (Str × Value)} {at' : Nat} {x:Str} {v:Value} (ha:at' ≤ vs.length) (hl:vs.length < 20) (c:Value) :
  (((((listCells vs).take (1 + (at' + 1) * 2) ++ flatE (vs.drop at') ++ (listCells vs).drop (1 + (at' + 1) * 2 + (flatE (vs.drop at')).length)).set 0 c).set (1 + at' * 2) (SV x)).set (1 + at' * 2 + 1) v) =
   c :: (flatE (vs.take at' ++ (x,v) :: vs.drop at') ++ padE (20 - (vs.length + 1))):=by
 have e0:listCells vs = (.int .i64 vs.length :: flatE (vs.take at')) ++ (flatE (vs.drop at') ++ padE (20 - vs.length)):=by
  rw [listCells_eq];conv => lhs;rw [← List.take_append_drop at' vs,flatE_app]
  simp
 have hA:(flatE (vs.take at')).length = at' * 2:=by rw [flatE_len];simp;omega
 have hB:(flatE (vs.drop at')).length = (vs.length - at') * 2:=by rw [flatE_len];simp
 have hp:padE (20 - vs.length) = SV [] :: .nilIface :: padE (20 - (vs.length + 1)):=by
  rw [show 20 - vs.length = (20 - (vs.length + 1)) + 1 from by omega,padE_succ]
 generalize hBe:flatE (vs.drop at') = B at *
 generalize hAe:flatE (vs.take at') = A at *
 -- two cells behind A
 obtain ⟨z1,z2,Y,hY⟩ : ∃ z1 z2 Y,B ++ padE (20 - vs.length) = z1 :: z2 :: Y:=by
  rw [hp]
  match B with
  | [] => exact ⟨_,_,_,rfl⟩
  | [b] => exact ⟨_,_,_,rfl⟩
  | b1 :: b2 :: B' => exact ⟨_,_,_,rfl⟩
 have ht:(listCells vs).take (1 + (at' + 1) * 2) = .int .i64 vs.length :: (A ++ [z1,z2]):=by
  rw [e0,hY]
  have:(Value.int .i64 vs.length :: A) ++ z1 :: z2 :: Y = (Value.int .i64 vs.length :: (A ++ [z1,z2])) ++ Y:=by simp
  rw [this,List.take_append_of_le_length (by simp;omega),List.take_of_length_le (by simp;omega)]
 have hd:(listCells vs).drop (1 + (at' + 1) * 2 + B.length) = padE (20 - (vs.length + 1)):=by
  rw [e0,hp]
  have:(Value.int .i64 vs.length :: A) ++ (B ++ SV [] :: .nilIface :: padE (20 - (vs.length + 1))) = (Value.int .i64 vs.length :: (A ++ B ++ [SV [],.nilIface])) ++ padE (20 - (vs.length + 1)):=by simp
  rw [this,List.drop_left' (by simp;omega)]
 rw [ht,hd,flatE_app,hAe]
 have hfc:flatE ((x,v) :: vs.drop at') = SV x :: v :: B:=by rw [← hBe];rfl
 rw [hfc]
 simp only [List.cons_append,List.append_assoc,List.set_cons_zero]
 rw [show 1 + at' * 2 + 1 = (1 + at' * 2) + 1 from rfl,show 1 + at' * 2 = at' * 2 + 1 from by omega,List.set_cons_succ,List.set_cons_succ]
 congr 1
 rw [List.set_append_right _ _ (by omega),List.set_append_right _ _ (by omega)]
 simp [hA]

open Go.RowKit
theorem Tryz.sizeListing:(Tryz.prog.info? 147).map (·.size) = some 41:=by kernel_rfl
theorem results_one {fn:Func} {p:Tmp} {ty:TypeId} (h:fn.results = #[.cell p ty]) (tmps:Array Value) (P:Program) (w:World) :
  (results fn tmps).run P w = ((asAddr (tmps.getD p undef)).run P w).andThen fun a w₁ => (loadVar ty a).run P w₁:=by
 simp only [results,h]
 simp [Sem.run_bind,Result.andThen]
theorem step_copy2v {P:Program} {ops:Array Oper} {op:Oper} {a:Act} {w:World} {K:Act→World→Prop} {Q:Exit→Act→World→Prop} {E:Prop} (hgd:op.guard = none) (d s:Operand) (dT sT:TypeId)
  (ho:op.op = .call { callee:=.builtin .copy,args:=#[d,s],argTypes:=#[dT,sT] }) (elem:TypeId) (hu:P.underlying dT = some (.slice elem)) (hsz:(P.info? elem).map (·.size) = some 2)
  (da sa:Addr) (dLen dCap sLen sCap:Nat) (hd:a.eval d = .slice (some da) dLen dCap) (hs:a.eval s = .slice (some sa) sLen sCap)
  (g o:Nat) (cur:Array Value) (t:TypeId) (hg:w.heap[g]? = some (.cells cur t (0,0))) (cs:List Value) (hn:cs.length = Nat.min sLen dLen * 2) (hda:0 < cs.length→da = ⟨g,o,none⟩)
  (hsrc:∀ j v,cs[j]? = some v→w.cell? (sa.add j) = some v) (hfit:o + cs.length ≤ cur.size) (h1:∀ v ∈ cs,v.oneCell' = true)
  (h:∀ w',w'.heap[g]? = some (.cells (cur.toList.take o ++ cs ++ cur.toList.drop (o + cs.length)).toArray t (0,0))→(w'.os = w.os∧w'.tape = w.tape∧w'.output = w.output∧w'.heap.size = w.heap.size∧∀ k,k ≠ g→w'.heap[k]? = w.heap[k]?)→K (a.put op.dst (goInt (Nat.min sLen dLen))) w') :
  if Region.wanted op (yielded ops a.tmps) = true then Oper.wp P op a w K Q else E :=
 step_copy2 hgd d s dT sT ho elem hu hsz da sa dLen dCap sLen sCap hd hs g o cur t hg cs hn hda hsrc hfit h1
  (h _ (setRow_heap w g cur _ t (0,0) hg) ⟨rfl,rfl,rfl,by simp [World.setRow],fun k hk => setRow_other w g k _ hk⟩)
theorem flatE_set {vs:List (Str × Value)} {i:Nat} (h:i < vs.length) (x:Str) (v:Value):flatE (vs.set i (x,v)) = ((flatE vs).set (i * 2) (SV x)).set (i * 2 + 1) v:=by
 induction vs generalizing i with
 | nil => simp at h
 | cons e vs ih =>
  cases i with
  | zero => simp [flatE]
  | succ i =>
   have:=ih (i:=i) (by simpa using h)
   simp only [flatE,List.set_cons_succ,List.flatMap_cons] at *
   rw [this,show (i + 1) * 2 = i * 2 + 2 from by omega]
   rfl
theorem set_cells {vs:List (Str × Value)} {i:Nat} (h:i < vs.length) (x:Str) (v:Value):((listCells vs).set (1 + i * 2) (SV x)).set (1 + i * 2 + 1) v = listCells (vs.set i (x,v)):=by
 rw [listCells_eq,listCells_eq,flatE_set h,List.length_set,show 1 + i * 2 + 1 = (i * 2 + 1) + 1 from by omega,show 1 + i * 2 = i * 2 + 1 from by omega,List.set_cons_succ,List.set_cons_succ]
 have hl:=flatE_len vs
 rw [List.set_append_left _ _ (by rw [hl];omega),List.set_append_left _ _ (by rw [List.length_set,hl];omega)]
theorem cells_one {vs:List (Str × Value)} (hv:∀ e ∈ vs,∃ t n,e.2 = .iface t (.pointer (some ⟨n,0,none⟩))):(listCells vs).toArray.all (·.oneCell') = true:=by
 rw [List.all_toArray,List.all_eq_true]
 intro u hu
 rw [listCells_eq] at hu
 simp only [List.mem_cons,List.mem_append] at hu
 rcases hu with rfl | hu | hu
 ·rfl
 ·rw [List.mem_flatMap] at hu
  obtain ⟨e,he,hu⟩:=hu
  obtain ⟨t,n,h⟩:=hv e he
  simp at hu;rcases hu with rfl | rfl
  ·rfl
  ·rw [h];rfl
 ·unfold padE at hu
  rw [List.mem_flatten] at hu
  obtain ⟨l,hl,hu⟩:=hu
  have:=List.eq_of_mem_replicate hl
  subst this
  simp at hu;rcases hu with rfl | rfl <;> rfl
set_option maxHeartbeats 4000000 in
set_option maxRecDepth 50000 in
theorem with_any (vs:List (Str × Value)) (x:Str) (k n:Nat) (w:World) (hv:∀ e ∈ vs,∃ t n,e.2 = .iface t (.pointer (some ⟨n,0,none⟩))) (hl:vs.length ≤ 20) (hroom:thereE vs x = false→vs.length < 20) :
  Calls Tryz.prog 94 #[.agg (listCells vs).toArray,SV x,.iface k (.pointer (some ⟨n,0,none⟩))] w fun e w' => e = .returned (.agg (listCells (withV vs x (.iface k (.pointer (some ⟨n,0,none⟩))))).toArray)∧Below w.heap.size w w':=by
 have hlen:=listCells_len hl
 obtain ⟨LC,hLC⟩ : ∃ LC,LC = (listCells vs).toArray:=⟨_,rfl⟩
 rw [← hLC]
 have HLC:Hid _:=hLC
 have hls:LC.size = 41:=by rw [hLC];simpa using hlen
 have hpos:=posE_le vs x
 clear hLC
 go_enter Tryz.func94,Tryz.ntmps94
 go_wp2_with fail
 refine (search_any w.heap.size 0 vs x _ ?_).mono ?_
 ·refine ⟨hl,fun i u hu => ?_⟩
  rw [Nat.zero_add,World.cell?_alloc_past _ _ _ (by simp),World.cell?_alloc_at _ _ _ _ rfl,HLC.out]
  simpa using hu
 rintro e w1 ⟨rfl,hb1⟩
 obtain ⟨Z,hZ,hR⟩ : ∃ Z:Array Value,Z.size = 41∧w1.heap[w.heap.size + 1]? = some (.cells Z 147 (0,0)):=by
  refine ⟨_,?_,(hb1.block _ (by simp)).trans (by rw [show w.heap.size + 1 = (w.alloc (.cells LC 147)).heap.size from by simp];exact heap_alloc_new _ _)⟩
  rfl
 have hA:w1.heap[w.heap.size]? = some (.cells LC 147 (0,0)):=by
  rw [hb1.block _ (by simp;omega),Below.heap_alloc _ _ _ (by simp)];exact heap_alloc_new _ _
 have hB:Below w.heap.size w w1:=(((Below.refl _ _).alloc (Nat.le_refl _) _).alloc (by simp) _).trans (hb1.mono (by simp;omega))
 clear hb1
 cases ht:thereE vs x
 ·have hl20:=hroom ht
  have R:Hid (withV vs x (.iface k (.pointer (some ⟨n,0,none⟩))) = vs.take (posE vs x) ++ (x,.iface k (.pointer (some ⟨n,0,none⟩))) :: vs.drop (posE vs x)):=by rw [Hid,withV,ht];rfl
  generalize hpe:posE vs x = at' at *
  have Hpe:Hid _:=hpe
  clear hpe
  have c0:=blk_cell hA 0
  have e0:LC[0]? = some (.int .i64 vs.length):=by rw [HLC.out];rfl
  rw [e0] at c0
  have f0:=blk_free hA
  have i1:(0:Int) ≤ at':=by omega
  have i2:(at' : Int) ≤ (vs.length:Int):=by omega
  have i3:(vs.length:Int) ≤ 20:=by omega
  have i4:(at' : Int) + 1 ≤ 20:=by omega
  clear e0
  have hwr:IntKind.i64.wrap ((at' : Int) + 1) = (at' : Int) + 1:=IntWalk.i64_in _ (by omega)
  have hAL:Tryz.prog.arrayLen 145 = 20:=by kernel_rfl
  have i5:(0:Int) ≤ (at' : Int) + 1:=by omega
  have hfl:(flatE (vs.drop at')).length = (vs.length - at') * 2:=by rw [flatE_len];simp
  have Hn:Hid ((flatE (vs.drop at')).length = Nat.min (vs.length - at') (19 - at') * 2):=by rw [Hid,hfl];congr 1;exact (Nat.min_eq_left (by omega)).symm
  have Hda:Hid (0 < (flatE (vs.drop at')).length→(if at' = 19 then (⟨w.heap.size,1,none⟩ : Addr) else ⟨w.heap.size,1 + (at' + 1) * 2,none⟩) = ⟨w.heap.size,1 + (at' + 1) * 2,none⟩):=by
   intro h;rw [if_neg (by omega)]
  have Hsrc:Hid (∀ j u,(flatE (vs.drop at'))[j]? = some u→w1.drew.cell? ((if 20 = at' then (⟨w.heap.size,1,none⟩ : Addr) else ⟨w.heap.size,1 + at' * 2,none⟩).add j) = some u):=by
   intro j u hu
   rw [if_neg (by omega)]
   have ha:(Addr.mk w.heap.size (1 + at' * 2) none).add j = ⟨w.heap.size,1 + at' * 2 + j,none⟩:=by simp only [Addr.add];split <;> simp_all
   rw [ha]
   show w1.cell? _ = _
   rw [blk_cell hA,HLC.out]
   have e1:flatE vs = flatE (vs.take at') ++ flatE (vs.drop at'):=by rw [← flatE_app,List.take_append_drop]
   have e2:(flatE (vs.take at')).length = at' * 2:=by rw [flatE_len];simp;omega
   have hj:=(List.getElem?_eq_some_iff.1 hu).1
   rw [List.getElem?_toArray,listCells_eq,show 1 + at' * 2 + j = (at' * 2 + j) + 1 from by omega,List.getElem?_cons_succ,e1,List.append_assoc,List.getElem?_append_right (by omega),e2,show at' * 2 + j - at' * 2 = j from by omega,List.getElem?_append_left hj]
   exact hu
  have Hfit:Hid (1 + (at' + 1) * 2 + (flatE (vs.drop at')).length ≤ LC.size):=by rw [Hid,hfl,hls];omega
  have Hone:Hid (∀ u ∈ flatE (vs.drop at'),u.oneCell' = true):=by
   intro u hu;rw [List.mem_flatMap] at hu;obtain ⟨e,he,hu⟩:=hu
   obtain ⟨t,q,h⟩:=hv e (List.mem_of_mem_drop he)
   simp at hu;rcases hu with rfl | rfl
   ·rfl
   ·rw [h];rfl
  have HA:Hid _:=hA
  have HR:Hid _:=hR
  clear hfl hA hR
  go_wp2_with fail
  go_cut [7] (fun a wc => a = .int .i64 at'∧wc.heap[w.heap.size]? = some (.cells (LC.toList.take (1 + (at' + 1) * 2) ++ flatE (vs.drop at') ++ LC.toList.drop (1 + (at' + 1) * 2 + (flatE (vs.drop at')).length)).toArray 147 (0,0))∧wc.heap[w.heap.size + 1]? = some (.cells Z 147 (0,0))∧Below w.heap.size w wc)
  case first =>
   go_region_law (refine step_copy2v rfl (.tmp 19) (.tmp 24) 229 229 rfl 101 Tryz.underlying229 (by kernel_rfl) _ _ _ _ _ _ rfl rfl w.heap.size (1 + (at' + 1) * 2) LC 147 HA.out (flatE (vs.drop at')) Hn.out Hda.out Hsrc.out Hfit.out Hone.out ?_;intro w2 hA2 hfr2)
   all_goals (go_wp2_with fail)
   all_goals
    go_meet
    case rel => exact ⟨by first | rfl | (congr 1;omega),hA2,(hfr2.2.2.2.2 _ (by omega)).trans HR.out,hB.trans ⟨hfr2.1,hfr2.2.1,hfr2.2.2.1,by rw [hfr2.2.2.2.1];exact Nat.le_refl _,fun k hk => hfr2.2.2.2.2 k (by omega)⟩⟩
  case rest =>
   obtain ⟨rfl,hA2,hR2,hB2⟩:=hcut
   have hsh:=shift_cells (x:=x) (v:=.iface k (.pointer (some ⟨n,0,none⟩))) hpos hl20 (.int .i64 ((vs.length:Int) + 1))
   have hLCl:LC.toList = listCells vs:=by rw [HLC.out]
   rw [hLCl] at hA2
   have hN:((listCells vs).take (1 + (at' + 1) * 2) ++ flatE (vs.drop at') ++ (listCells vs).drop (1 + (at' + 1) * 2 + (flatE (vs.drop at')).length)).length = 41:=by
    have h1:=congrArg List.length hsh
    have e1:(flatE (vs.take at' ++ (x,Value.iface k (.pointer (some ⟨n,0,none⟩))) :: vs.drop at')).length = (vs.length + 1) * 2:=by rw [flatE_len];simp;omega
    simp only [List.length_set,List.length_cons,List.length_append] at h1
    rw [e1,padE_len] at h1
    simp only [List.length_append];omega
   have hc0' : ((listCells vs).take (1 + (at' + 1) * 2) ++ flatE (vs.drop at') ++ (listCells vs).drop (1 + (at' + 1) * 2 + (flatE (vs.drop at')).length))[0]? = some (.int .i64 vs.length):=by
    rw [listCells_eq,show 1 + (at' + 1) * 2 = ((at' + 1) * 2) + 1 from by omega,List.take_succ_cons];rfl
   generalize ((listCells vs).take (1 + (at' + 1) * 2) ++ flatE (vs.drop at') ++ (listCells vs).drop (1 + (at' + 1) * 2 + (flatE (vs.drop at')).length)) = NC at *
   have hidx:(at' : Int) < 20:=by omega
   have hLF:((NC.toArray.setIfInBounds 0 (.int .i64 ((vs.length:Int) + 1))).setIfInBounds (1 + at' * 2) (SV x)).setIfInBounds (1 + at' * 2 + 1) (.iface k (.pointer (some ⟨n,0,none⟩))) = (listCells (vs.take at' ++ (x,.iface k (.pointer (some ⟨n,0,none⟩))) :: vs.drop at')).toArray:=by
    have e1:(vs.take at' ++ (x,Value.iface k (.pointer (some ⟨n,0,none⟩))) :: vs.drop at').length = vs.length + 1:=by simp;omega
    rw [listCells_eq,e1]
    have:=congrArg List.toArray hsh
    simpa using this
   have k0:=(blk_cell hA2 0).trans (by simpa using hc0')
   obtain ⟨y1,k1⟩ : ∃ y,wc.cell? ⟨w.heap.size,1 + at' * 2,none⟩ = some y:=⟨_,(blk_cell hA2 (1 + at' * 2)).trans (by rw [List.getElem?_toArray,List.getElem?_eq_getElem (by omega)])⟩
   obtain ⟨y2,k2⟩ : ∃ y,wc.cell? ⟨w.heap.size,1 + at' * 2 + 1,none⟩ = some y:=⟨_,(blk_cell hA2 (1 + at' * 2 + 1)).trans (by rw [List.getElem?_toArray,List.getElem?_eq_getElem (by omega)])⟩
   have z0:=blk_free hA2 0
   have z1:=blk_free hA2 (1 + at' * 2)
   have z2:=blk_free hA2 (1 + at' * 2 + 1)
   have hA3:=setCell_blk (i:=1 + at' * 2 + 1) (setCell_blk (i:=1 + at' * 2) (setCell_blk (i:=0) hA2 (.int .i64 ((vs.length:Int) + 1))) (SV x)) (.iface k (.pointer (some ⟨n,0,none⟩)))
   rw [hLF] at hA3
   have hR3:(((wc.setCell ⟨w.heap.size,0,none⟩ (.int .i64 ((vs.length:Int) + 1))).setCell ⟨w.heap.size,1 + at' * 2,none⟩ (SV x)).setCell ⟨w.heap.size,1 + at' * 2 + 1,none⟩ (.iface k (.pointer (some ⟨n,0,none⟩)))).heap[w.heap.size + 1]? = some (.cells Z 147 (0,0)):=by
    rw [Below.heap_setCell _ _ _ _ (by simp),Below.heap_setCell _ _ _ _ (by simp),Below.heap_setCell _ _ _ _ (by simp)];exact hR2
   have hl3:(vs.take at' ++ (x,Value.iface k (.pointer (some ⟨n,0,none⟩))) :: vs.drop at').length ≤ 20:=by simp;omega
   have hone:(listCells (vs.take at' ++ (x,.iface k (.pointer (some ⟨n,0,none⟩))) :: vs.drop at')).toArray.all (·.oneCell') = true:=by
    refine cells_one fun e he => ?_
    simp only [List.mem_append,List.mem_cons] at he
    rcases he with h | h | h
    ·exact hv e (List.mem_of_mem_take h)
    ·exact ⟨k,n,by rw [h]⟩
    ·exact hv e (List.mem_of_mem_drop h)
   have hsz:(Tryz.prog.info? 147).map (·.size) = some (listCells (vs.take at' ++ (x,.iface k (.pointer (some ⟨n,0,none⟩))) :: vs.drop at')).toArray.size:=by
    rw [Tryz.sizeListing,List.size_toArray,listCells_len hl3]
   have hzs:Z.size = (listCells (vs.take at' ++ (x,.iface k (.pointer (some ⟨n,0,none⟩))) :: vs.drop at')).toArray.size:=by
    rw [hZ,List.size_toArray,listCells_len hl3]
   generalize hF:(listCells (vs.take at' ++ (x,.iface k (.pointer (some ⟨n,0,none⟩))) :: vs.drop at')).toArray = LF at *
   have HF:Hid _:=hF
   have HA3:Hid _:=hA3
   have HR3:Hid _:=hR3
   have HSZ:Hid _:=hsz
   have HZS:Hid _:=hzs
   clear hF hLF hA3 hR3 hsz hzs hA2 hR2 hsh hN hc0' hLCl c0 f0 hwr hAL
   go_upto_region 6 with fail
   go_wp2_with (first | (refine wpList_load_row rfl 147 (.tmp 3) rfl w.heap.size rfl 147 LF (0,0) _ HA3.out Tryz.underlying147 rfl HSZ.out ?_) | (refine wpList_store_row rfl 147 (.tmp 6) (.tmp 36) rfl (w.heap.size + 1) LF rfl rfl 147 Z HR3.out HSZ.out HZS.out hone ?_))
   refine bodyPost_ret (v:=.agg LF) ?_ rfl ⟨?_,?_⟩
   ·rw [results_one (p:=6) (ty:=147) (by kernel_rfl)]
    have hh:=setRow_heap _ (w.heap.size + 1) Z LF 147 (0,0) HR3.out
    exact run_loadVar_row _ (w.heap.size + 1) 147 147 LF (0,0) _ hh Tryz.underlying147 rfl HSZ.out
   ·rw [R.out,HF.out]
   ·exact below_setRow (((hB2.setCell (Nat.le_refl _) _).setCell (Nat.le_refl _) _).setCell (Nat.le_refl _) _) (by omega) _
 ·have hp:posE vs x < vs.length:=by
   unfold thereE at ht
   cases hx:vs[posE vs x]? with
   | none => rw [hx] at ht;simp at ht
   | some e => exact (List.getElem?_eq_some_iff.1 hx).1
  have R:Hid (withV vs x (.iface k (.pointer (some ⟨n,0,none⟩))) = vs.set (posE vs x) (x,.iface k (.pointer (some ⟨n,0,none⟩)))):=by rw [Hid,withV,if_pos ht]
  have hidx:(posE vs x:Int) < 20:=by omega
  generalize hpe:posE vs x = at' at *
  have Hpe:Hid _:=hpe
  clear hpe
  have c1:=blk_cell hA (1 + at' * 2)
  have c2:=blk_cell hA (1 + at' * 2 + 1)
  rw [Array.getElem?_eq_getElem (by omega)] at c1 c2
  have f1:=blk_free hA (1 + at' * 2)
  have f2:=blk_free hA (1 + at' * 2 + 1)
  have hLF:(LC.setIfInBounds (1 + at' * 2) (SV x)).setIfInBounds (1 + at' * 2 + 1) (.iface k (.pointer (some ⟨n,0,none⟩))) = (listCells (vs.set at' (x,.iface k (.pointer (some ⟨n,0,none⟩))))).toArray:=by
   rw [HLC.out,← set_cells hp];simp
  have hA2:=setCell_blk (i:=1 + at' * 2 + 1) (setCell_blk (i:=1 + at' * 2) hA (SV x)) (.iface k (.pointer (some ⟨n,0,none⟩)))
  rw [hLF] at hA2
  have hR2:((w1.setCell ⟨w.heap.size,1 + at' * 2,none⟩ (SV x)).setCell ⟨w.heap.size,1 + at' * 2 + 1,none⟩ (.iface k (.pointer (some ⟨n,0,none⟩)))).heap[w.heap.size + 1]? = some (.cells Z 147 (0,0)):=by
   rw [Below.heap_setCell _ _ _ _ (by simp),Below.heap_setCell _ _ _ _ (by simp)];exact hR
  have hone:(listCells (vs.set at' (x,.iface k (.pointer (some ⟨n,0,none⟩))))).toArray.all (·.oneCell') = true:=by
   refine cells_one fun e he => ?_
   rcases List.mem_or_eq_of_mem_set he with h | h
   ·exact hv e h
   ·exact ⟨k,n,by rw [h]⟩
  have hsz:(Tryz.prog.info? 147).map (·.size) = some (listCells (vs.set at' (x,.iface k (.pointer (some ⟨n,0,none⟩))))).toArray.size:=by
   rw [Tryz.sizeListing];simp [listCells_len (es:=vs.set at' (x,.iface k (.pointer (some ⟨n,0,none⟩)))) (by simpa using hl)]
  have hzs:Z.size = (listCells (vs.set at' (x,.iface k (.pointer (some ⟨n,0,none⟩))))).toArray.size:=by
   rw [hZ];simp [listCells_len (es:=vs.set at' (x,.iface k (.pointer (some ⟨n,0,none⟩)))) (by simpa using hl)]
  generalize hF:(listCells (vs.set at' (x,.iface k (.pointer (some ⟨n,0,none⟩))))).toArray = LF at *
  have HF:Hid _:=hF
  clear hF hLF
  have HA2:Hid _:=hA2
  have HR2:Hid _:=hR2
  have HSZ:Hid _:=hsz
  have HZS:Hid _:=hzs
  clear hA2 hR2 hsz hzs hA hR
  go_upto_region 6 with fail
  go_wp2_with (first | (refine wpList_load_row rfl 147 (.tmp 3) rfl w.heap.size rfl 147 LF (0,0) _ HA2.out Tryz.underlying147 rfl HSZ.out ?_) | (refine wpList_store_row rfl 147 (.tmp 6) (.tmp 36) rfl (w.heap.size + 1) LF rfl rfl 147 Z HR2.out HSZ.out HZS.out hone ?_))
  refine bodyPost_ret (v:=.agg LF) ?_ rfl ⟨?_,?_⟩
  ·rw [results_one (p:=6) (ty:=147) (by kernel_rfl)]
   have hh:=setRow_heap _ (w.heap.size + 1) Z LF 147 (0,0) HR2.out
   exact run_loadVar_row _ (w.heap.size + 1) 147 147 LF (0,0) _ hh Tryz.underlying147 rfl HSZ.out
  ·rw [R.out,HF.out]
  ·exact below_setRow ((hB.setCell (Nat.le_refl _) _).setCell (Nat.le_refl _) _) (by omega) _
end Go.Proofs.YtdcbgfhkfmohiaaGreatDoor
