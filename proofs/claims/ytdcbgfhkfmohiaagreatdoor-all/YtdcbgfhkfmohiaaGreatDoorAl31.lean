/- Items laid to the parts of a pattern: from the front (the program's way), and by rows (the document's way). No program. -/
import Derived.Test.YtdcbgfhkfmohiaaGreatDoorAl01
import Derived.Test.YtdcbgfhkfmohiaaGreatDoorAl04
namespace Go.Proofs.YtdcbgfhkfmohiaaGreatDoor
open Go.RowKit
def laidL {T:Type} (run:T→Bool) (takes:T→T→Bool):List T→List T→Bool
 | [],items => items.isEmpty
 | p :: ps,items => if run p then (List.range (items.length + 1)).any fun k => laidL run takes ps (items.drop k) else match items with
  | [] => false
  | x :: xs => takes p x && laidL run takes ps xs
section
variable {T:Type} {run:T→Bool} {takes:T→T→Bool}
theorem laid_nil (xs:List T):laidL run takes [] xs = true ↔ xs = []:=by simp [laidL]
theorem laid_run {p:T} {ps xs:List T} (h:run p = true):laidL run takes (p :: ps) xs = true ↔ ∃ ys zs,xs = ys ++ zs∧laidL run takes ps zs = true:=by
 simp only [laidL,h,if_true,List.any_eq_true,List.mem_range]
 constructor
 ·rintro ⟨k,hk,hl⟩
  exact ⟨xs.take k,xs.drop k,(List.take_append_drop k xs).symm,hl⟩
 ·rintro ⟨ys,zs,rfl,hl⟩
  exact ⟨ys.length,by simp;omega,by simpa using hl⟩
theorem laid_one {p:T} {ps xs:List T} (h:run p = false):laidL run takes (p :: ps) xs = true ↔ ∃ y zs,xs = y :: zs∧takes p y = true∧laidL run takes ps zs = true:=by
 cases xs with
 | nil => simp [laidL,h]
 | cons x xs =>
  simp only [laidL,h,Bool.false_eq_true,if_false,Bool.and_eq_true,List.cons.injEq]
  constructor
  ·rintro ⟨h1,h2⟩;exact ⟨x,xs,⟨rfl,rfl⟩,h1,h2⟩
  ·rintro ⟨y,zs,⟨rfl,rfl⟩,h1,h2⟩;exact ⟨h1,h2⟩
theorem laid_snoc_run {p:T} (h:run p = true):∀ (ps xs:List T),laidL run takes (ps ++ [p]) xs = true ↔ ∃ ys zs,xs = ys ++ zs∧laidL run takes ps ys = true
 | [],xs => by
  rw [List.nil_append,laid_run h]
  constructor
  ·rintro ⟨ys,zs,rfl,hl⟩;exact ⟨[],ys ++ zs,rfl,(laid_nil _).2 rfl⟩
  ·rintro ⟨ys,zs,rfl,hl⟩;exact ⟨ys ++ zs,[],by simp,(laid_nil _).2 rfl⟩
 | q :: ps,xs => by
  rw [List.cons_append]
  cases hq:run q
  ·rw [laid_one hq]
   constructor
   ·rintro ⟨y,zs,rfl,h1,h2⟩
    obtain ⟨az,bs,rfl,h3⟩:=(laid_snoc_run h ps zs).1 h2
    exact ⟨y :: az,bs,rfl,(laid_one hq).2 ⟨y,az,rfl,h1,h3⟩⟩
   ·rintro ⟨ys,zs,rfl,h1⟩
    obtain ⟨y,az,rfl,h2,h3⟩:=(laid_one hq).1 h1
    exact ⟨y,az ++ zs,rfl,h2,(laid_snoc_run h ps _).2 ⟨az,zs,rfl,h3⟩⟩
  ·rw [laid_run hq]
   constructor
   ·rintro ⟨ys,zs,rfl,h1⟩
    obtain ⟨az,bs,rfl,h3⟩:=(laid_snoc_run h ps zs).1 h1
    exact ⟨ys ++ az,bs,by simp,(laid_run hq).2 ⟨ys,az,rfl,h3⟩⟩
   ·rintro ⟨ys,zs,rfl,h1⟩
    obtain ⟨az,bs,rfl,h3⟩:=(laid_run hq).1 h1
    exact ⟨az,bs ++ zs,by simp,(laid_snoc_run h ps _).2 ⟨bs,zs,rfl,h3⟩⟩
theorem laid_snoc_one {p:T} (h:run p = false):∀ (ps xs:List T),laidL run takes (ps ++ [p]) xs = true ↔ ∃ ys z,xs = ys ++ [z]∧takes p z = true∧laidL run takes ps ys = true
 | [],xs => by
  rw [List.nil_append,laid_one h]
  constructor
  ·rintro ⟨y,zs,rfl,h1,h2⟩
   obtain rfl:=(laid_nil _).1 h2
   exact ⟨[],y,rfl,h1,(laid_nil _).2 rfl⟩
  ·rintro ⟨ys,z,rfl,h1,h2⟩
   obtain rfl:=(laid_nil _).1 h2
   exact ⟨z,[],rfl,h1,(laid_nil _).2 rfl⟩
 | q :: ps,xs => by
  rw [List.cons_append]
  cases hq:run q
  ·rw [laid_one hq]
   constructor
   ·rintro ⟨y,zs,rfl,h1,h2⟩
    obtain ⟨az,b,rfl,h3,h4⟩:=(laid_snoc_one h ps zs).1 h2
    exact ⟨y :: az,b,rfl,h3,(laid_one hq).2 ⟨y,az,rfl,h1,h4⟩⟩
   ·rintro ⟨ys,z,rfl,h0,h1⟩
    obtain ⟨y,az,rfl,h2,h3⟩:=(laid_one hq).1 h1
    exact ⟨y,az ++ [z],rfl,h2,(laid_snoc_one h ps _).2 ⟨az,z,rfl,h0,h3⟩⟩
  ·rw [laid_run hq]
   constructor
   ·rintro ⟨ys,zs,rfl,h1⟩
    obtain ⟨az,b,rfl,h3,h4⟩:=(laid_snoc_one h ps zs).1 h1
    exact ⟨ys ++ az,b,by simp,h3,(laid_run hq).2 ⟨ys,az,rfl,h4⟩⟩
   ·rintro ⟨ys,z,rfl,h0,h1⟩
    obtain ⟨az,bs,rfl,h3⟩:=(laid_run hq).1 h1
    exact ⟨az,bs ++ [z],by simp,(laid_snoc_one h ps _).2 ⟨bs,z,rfl,h0,h3⟩⟩
def rowL (run:T→Bool) (takes:T→T→Bool) (ps xs:List T) (k:Nat):Bool:=laidL run takes ps (xs.take k)
theorem row_start (xs:List T) {k:Nat} (hk:k ≤ xs.length):rowL run takes [] xs k = decide (k = 0):=by
 rw [Bool.eq_iff_iff]
 unfold rowL
 rw [laid_nil,decide_eq_true_iff]
 constructor
 ·intro h
  have:=congrArg List.length h
  rw [List.length_take,List.length_nil,Nat.min_eq_left hk] at this
  exact this
 ·rintro rfl;simp
theorem row_run {p:T} (h:run p = true) (ps xs:List T) {k:Nat} (hk:k ≤ xs.length):rowL run takes (ps ++ [p]) xs k = (rowL run takes ps xs k || (decide (0 < k) && rowL run takes (ps ++ [p]) xs (k - 1))):=by
 rw [Bool.eq_iff_iff]
 simp only [Bool.or_eq_true,Bool.and_eq_true,decide_eq_true_iff]
 unfold rowL
 rw [laid_snoc_run h,laid_snoc_run h]
 constructor
 ·rintro ⟨ys,zs,e,hl⟩
  by_cases hz:zs = []
  ·subst hz;rw [List.append_nil] at e;rw [e];exact .inl hl
  ·have hlen:=congrArg List.length e
   have hz' : 0 < zs.length:=List.length_pos_iff.2 hz
   rw [List.length_take,Nat.min_eq_left hk,List.length_append] at hlen
   refine .inr ⟨by omega,ys,zs.take (k - 1 - ys.length),?_,hl⟩
   have:xs.take (k - 1) = (xs.take k).take (k - 1):=by rw [List.take_take,Nat.min_eq_left (by omega)]
   rw [this,e,List.take_append,List.take_of_length_le (by omega:ys.length ≤ k - 1)]
 ·rintro (hl | ⟨h0,ys,zs,e,hl⟩)
  ·exact ⟨xs.take k,[],by simp,hl⟩
  ·refine ⟨ys,zs ++ [xs[k - 1]'(by omega)],?_,hl⟩
   rw [← List.append_assoc,← e]
   conv => lhs;rw [show k = k - 1 + 1 by omega]
   exact List.take_succ_eq_append_getElem (by omega)
theorem row_one0 {p:T} (h:run p = false) (ps xs:List T):rowL run takes (ps ++ [p]) xs 0 = false:=by
 rw [Bool.eq_false_iff]
 unfold rowL
 rw [Ne,laid_snoc_one h]
 rintro ⟨ys,z,e,_⟩
 simp at e
theorem row_one {p:T} (h:run p = false) (ps xs:List T) {k:Nat} (hk:k < xs.length):rowL run takes (ps ++ [p]) xs (k + 1) = (takes p xs[k] && rowL run takes ps xs k):=by
 rw [Bool.eq_iff_iff]
 simp only [Bool.and_eq_true]
 unfold rowL
 rw [laid_snoc_one h,List.take_succ_eq_append_getElem hk]
 constructor
 ·rintro ⟨ys,z,e,h1,h2⟩
  obtain ⟨rfl,e2⟩:=List.append_inj' e rfl
  simp at e2
  rw [e2]
  exact ⟨h1,h2⟩
 ·rintro ⟨h1,h2⟩
  exact ⟨_,_,rfl,h1,h2⟩
theorem row_end (ps xs:List T):rowL run takes ps xs xs.length = laidL run takes ps xs:=by unfold rowL;rw [List.take_length]
end

open Go.RowKit
def BoolsAt (w:World) (g N:Nat) (f:Nat→Bool):Prop:=w.heap[g]? = some (.cells ((List.range N).map fun k => Value.bool (f k)).toArray 4 (0,0))
theorem BoolsAt.cell {w:World} {g N:Nat} {f:Nat→Bool} (h:BoolsAt w g N f) {k:Nat} (hk:k < N):w.cell? ⟨g,k,none⟩ = some (.bool (f k)):=by
 unfold BoolsAt at h
 simp [World.cell?,h,hk]
theorem BoolsAt.lt {w:World} {g N:Nat} {f:Nat→Bool} (h:BoolsAt w g N f):g < w.heap.size:=(Array.getElem?_eq_some_iff.1 h).1
theorem BoolsAt.frozen {w:World} {g N:Nat} {f:Nat→Bool} (h:BoolsAt w g N f) (k:Nat):w.frozen? ⟨g,k,none⟩ = false:=Lib.frozen_of_heap h k
theorem BoolsAt.set {w:World} {g N:Nat} {f:Nat→Bool} (h:BoolsAt w g N f) (k:Nat) (b:Bool):BoolsAt (w.setCell ⟨g,k,none⟩ (.bool b)) g N (fun j => if j = k then b else f j):=by
 unfold BoolsAt at h ⊢
 simp only [World.setCell,Array.getElem?_modify,if_true,h,Option.map_some]
 congr 2
 apply Array.ext'
 apply List.ext_getElem?
 intro j
 simp [List.getElem?_set]
 by_cases hj:j < N
 ·by_cases e:k = j
  ·subst e;simp [hj]
  ·have e' : ¬ j = k:=fun h => e h.symm
   simp [hj,e,e']
 ·simp [hj]
  intro e;omega
theorem BoolsAt.other {w:World} {g N:Nat} {f:Nat→Bool} (h:BoolsAt w g N f) {g' : Nat} (hg:g' ≠ g) (k:Nat) (v:Value):BoolsAt (w.setCell ⟨g',k,none⟩ v) g N f:=by
 unfold BoolsAt at h ⊢
 rw [Below.heap_setCell _ _ _ _ (fun e => hg e.symm)];exact h
theorem BoolsAt.congr {w:World} {g N:Nat} {f f' : Nat→Bool} (h:BoolsAt w g N f) (he:∀ k,k < N→f k = f' k):BoolsAt w g N f':=by
 unfold BoolsAt at h ⊢
 rw [h]
 congr 3
 exact List.map_congr_left fun k hk => by rw [he k (List.mem_range.1 hk)]
theorem bools_step {w:World} {g N k:Nat} {F:Nat→Bool} (h:BoolsAt w g N fun j => if j < k then F j else false) {v:Bool} (hv:F k = v):BoolsAt (w.setCell ⟨g,k,none⟩ (.bool v)) g N fun j => if j < k + 1 then F j else false :=
 (h.set k v).congr fun j _ => by
  by_cases e:j = k
  ·subst e;simp [hv]
  ·by_cases h1:j < k
   ·simp [e,h1,show j < k + 1 by omega]
   ·simp [e,h1,show ¬ j < k + 1 by omega]
theorem bools_skip {w:World} {g N k:Nat} {F:Nat→Bool} (h:BoolsAt w g N fun j => if j < k then F j else false) (hv:F k = false):BoolsAt w g N fun j => if j < k + 1 then F j else false :=
 h.congr fun j _ => by
  by_cases e:j = k
  ·subst e;simp [hv]
  ·by_cases h1:j < k
   ·simp [h1,show j < k + 1 by omega]
   ·simp [h1,show ¬ j < k + 1 by omega]
theorem Tryz.infoBool:(Tryz.prog.info? 4).map (fun i => (i.zero,i.size,i.bytes)) = some (some (.bool false),1,1):=by kernel_rfl
theorem make_bools (n:Nat) (hn:n ≤ 1000) (W:World):∃ W',(Instr.makeSlice 30 (.int .i64 ((n:Int) + 1)) (.int .i64 ((n:Int) + 1))).run Tryz.prog W = .ok (.slice (some ⟨W.heap.size,0,none⟩) (n + 1) (n + 1)) W'∧BoolsAt W' W.heap.size (n + 1) (fun _ => false)∧Below W.heap.size W W':=by
 obtain ⟨i,hi,hz0,hz1,hz2⟩:=info_parts Tryz.infoBool
 have h:=run_makeSlice (P:=Tryz.prog) W 30 4 i (.bool false) (by kernel_rfl) hi hz0 .i64 .i64 ((n:Int) + 1) ((n:Int) + 1) (by omega) (Int.le_refl _) (by rw [hz1];omega) (by rw [hz2];omega) (by omega)
 refine ⟨_,h,?_,(Below.refl _ W).alloc (Nat.le_refl _) _⟩
 unfold BoolsAt
 have e:((n:Int) + 1).toNat = n + 1:=by omega
 have e2:madeCells (Value.bool false).cells (n + 1) = ((List.range (n + 1)).map fun _ => Value.bool false).toArray:=by
  apply Array.ext'
  have e1:(Value.bool false).cells = #[.bool false]:=rfl
  simp [madeCells,e1,Nat.mod_one]
 rw [heap_alloc_new,hz1,e,Nat.mul_one,e2]
def starB (p:UInt8):Bool:=p == 42
def takesB (p c:UInt8):Bool:=p == 63 || p == c
def spelledL (part name:Str):Bool:=laidL starB takesB part name
set_option maxHeartbeats 2000000 in
set_option maxRecDepth 100000 in
theorem spelled_any (part name:Str) (w:World) (hp:part.length ≤ 1000) (hn:name.length ≤ 1000) :
  Calls Tryz.prog 185 #[SV part,SV name] w fun e w' => e = .returned (.bool (spelledL part name))∧Below w.heap.size w w':=by
 have hG:=get_list
 have MB:=make_bools name.length hn
 obtain ⟨w1,mk1,hB1,hb1⟩:=MB w
 have lt1:=hB1.lt
 have fz1:=hB1.frozen
 have c1:=hB1.cell (k:=0) (by omega)
 have HB1:Hid (BoolsAt w1 w.heap.size (name.length + 1) fun _ => false):=hB1
 clear hB1
 go_enter Tryz.func185,Tryz.ntmps185
 go_wp2
 have HB1' : Hid (BoolsAt (w1.setCell ⟨w.heap.size,0,none⟩ (.bool true)) w.heap.size (name.length + 1) (rowL starB takesB (part.take 0) name)) :=
  (HB1.out.set 0 true).congr fun k hk => by rw [List.take_zero,row_start name (by omega)];by_cases h:k = 0 <;> simp [h]
 have hb1' : Hid (Below w.heap.size w (w1.setCell ⟨w.heap.size,0,none⟩ (.bool true))):=hb1.setCell (p:=⟨w.heap.size,0,none⟩) (Nat.le_refl _) _
 clear HB1 hb1 c1 fz1 lt1 mk1
 generalize w1.setCell ⟨w.heap.size,0,none⟩ (.bool true) = w2 at *
 go_loopw [5,6] (fun ok i wz => ∃ (x g:Nat),x ≤ part.length∧i = .int .i64 x∧w.heap.size ≤ g∧ok = .slice (some ⟨g,0,none⟩) (name.length + 1) (name.length + 1)∧BoolsAt wz g (name.length + 1) (rowL starB takesB (part.take x) name)∧Below w.heap.size w wz) (fun _ i _ => part.length - (intOf i).toNat)
 case atStart => exact ⟨0,w.heap.size,Nat.zero_le _,rfl,Nat.le_refl _,rfl,HB1'.out,hb1'.out⟩
 case round =>
  obtain ⟨x,g,hx,rfl,hg,rfl,hB,hb⟩:=hrel
  clear HB1' hb1'
  by_cases hlt:x < part.length
  ·obtain ⟨wy,mk,hBn,hbn⟩:=MB wr
   have ltn:=hB.lt
   have HN0:Hid (BoolsAt wy wr.heap.size (name.length + 1) (fun j => if j < 0 then rowL starB takesB (part.take (x + 1)) name j else false)):=hBn.congr fun k _ => by simp
   have HO0:Hid (BoolsAt wy g (name.length + 1) (rowL starB takesB (part.take x) name)):=(hbn.block _ ltn).trans hB
   have HBy:Hid (Below w.heap.size w wy):=hb.trans (hbn.mono hb.size)
   have hgn:Hid (g < wr.heap.size):=ltn
   have hwn:Hid (w.heap.size ≤ wr.heap.size):=hb.size
   clear hBn hB hb hbn ltn
   generalize wr.heap.size = gn at *
   go_wp2
   go_loopw [8] (fun j wz => ∃ k:Nat,k ≤ name.length + 1∧j = .int .i64 k∧BoolsAt wz gn (name.length + 1) (fun j => if j < k then rowL starB takesB (part.take (x + 1)) name j else false)∧BoolsAt wz g (name.length + 1) (rowL starB takesB (part.take x) name)∧Below w.heap.size w wz) (fun j _ => name.length + 1 - (intOf j).toNat)
   case atStart => exact ⟨0,Nat.zero_le _,rfl,HN0.out,HO0.out,HBy.out⟩
   case round =>
    obtain ⟨k,hk,rfl,hN,hO,hBz⟩:=hrel
    clear HN0 HO0 HBy
    by_cases hkl:k ≤ name.length
    ·have cO:=hO.cell (k:=k) (by omega)
     have fN:=hN.frozen k
     have ltN:=hN.lt
     have tk:Hid (part.take (x + 1) = part.take x ++ [part[x]]):=List.take_succ_eq_append_getElem hlt
     have HN:Hid (BoolsAt wr gn (name.length + 1) (fun j => if j < k then rowL starB takesB (part.take (x + 1)) name j else false)):=hN
     have HO:Hid (BoolsAt wr g (name.length + 1) (rowL starB takesB (part.take x) name)):=hO
     have HBz:Hid (Below w.heap.size w wr):=hBz
     have cS:wr.cell? ⟨gn,k,none⟩ = some (.bool false):=(HN.out.cell (by omega)).trans (by rw [if_neg (by omega)])
     have done:Hid (∀ v:Bool,rowL starB takesB (part.take (x + 1)) name k = v→∀ W,(W = wr∨∃ q,W = wr.drewN q)→∃ k' : Nat,k' ≤ name.length + 1∧Value.int .i64 ((k:Int) + 1) = .int .i64 k'∧BoolsAt (W.setCell ⟨gn,k,none⟩ (.bool v)) gn (name.length + 1) (fun j => if j < k' then rowL starB takesB (part.take (x + 1)) name j else false)∧BoolsAt (W.setCell ⟨gn,k,none⟩ (.bool v)) g (name.length + 1) (rowL starB takesB (part.take x) name)∧Below w.heap.size w (W.setCell ⟨gn,k,none⟩ (.bool v))):=fun v hv W hW => by
      have hh:W.heap = wr.heap:=by rcases hW with rfl | ⟨q,rfl⟩ <;> rfl
      have hbW:Below w.heap.size w W:=by rcases hW with rfl | ⟨q,rfl⟩;exact HBz.out;exact below_drewN HBz.out _
      have h1:=HN.out
      have h2:=HO.out
      unfold BoolsAt at h1 h2
      rw [← hh] at h1 h2
      exact ⟨k + 1,by omega,rfl,bools_step h1 hv,BoolsAt.other h2 (by have:=hgn.out;omega) _ _,hbW.setCell (p:=⟨gn,k,none⟩) hwn.out _⟩
     have skip:Hid (rowL starB takesB (part.take (x + 1)) name k = false→∀ q,∃ k' : Nat,k' ≤ name.length + 1∧Value.int .i64 ((k:Int) + 1) = .int .i64 k'∧BoolsAt (wr.drewN q) gn (name.length + 1) (fun j => if j < k' then rowL starB takesB (part.take (x + 1)) name j else false)∧BoolsAt (wr.drewN q) g (name.length + 1) (rowL starB takesB (part.take x) name)∧Below w.heap.size w (wr.drewN q)):=fun hv q =>
      ⟨k + 1,by omega,rfl,bools_skip (w:=wr.drewN q) HN.out hv,HO.out,below_drewN HBz.out _⟩
     have hkl' : (k:Int) ≤ name.length:=by omega
     have hpx:((part[x].toNat:Int) == 42) = starB part[x]:=by unfold starB;rw [Bool.eq_iff_iff];simp [← UInt8.toNat_inj];omega
     clear hN hO hBz
     cases hst:starB part[x]
     ·rw [hst] at hpx
      by_cases hk0:k = 0
      ·subst hk0
       have R:Hid (rowL starB takesB (part.take (x + 1)) name 0 = false):=by rw [Hid,tk.out];exact row_one0 hst _ _
       have S:Hid _:=skip.out R.out
       clear done skip cO HN HO
       go_wp2
       go_quiet (fail)
       go_wp2
       go_roundw
       case rel => exact S.out _
       case measure => simp [intOf]
      ·obtain ⟨j,rfl⟩ : ∃ j,k = j + 1:=⟨k - 1,by omega⟩
       have hjl:j < name.length:=by omega
       have cO':=HO.out.cell (k:=j) (by omega)
       have R:Hid (rowL starB takesB (part.take (x + 1)) name (j + 1) = (takesB part[x] name[j] && rowL starB takesB (part.take x) name j)):=by rw [Hid,tk.out];exact row_one hst _ _ hjl
       have hst2:(part[x].toNat:Int) ≠ 42:=by simpa using hpx
       cases htk:takesB part[x] name[j]
       ·have S:Hid _:=skip.out (by rw [R.out,htk,Bool.false_and])
        have t1:((part[x].toNat:Int) == 63) = false:=by
         unfold takesB at htk;simp [← UInt8.toNat_inj] at htk ⊢;omega
        have t2:((part[x].toNat:Int) == (name[j].toNat:Int)) = false:=by
         unfold takesB at htk;simp [← UInt8.toNat_inj] at htk ⊢;omega
        clear done skip cO HN HO cO' htk R
        go_wp2
        go_quiet (fail)
        go_wp2
        go_roundw
        case rel => exact S.out _
        case measure => simp [intOf];omega
       ·have S:Hid _:=done.out _ (by rw [R.out,htk,Bool.true_and])
        generalize rowL starB takesB (part.take x) name j = b at *
        by_cases t1:((part[x].toNat:Int) == 63) = true
        ·clear done skip cO HN HO htk R
         go_wp2
         go_quiet (fail)
         go_wp2
         go_roundw
         case rel => exact S.out _ (.inr ⟨_,rfl⟩)
         case measure => simp [intOf];omega
        ·have t1' : ((part[x].toNat:Int) == 63) = false:=by simpa using t1
         have t2:((part[x].toNat:Int) == (name[j].toNat:Int)) = true:=by
          unfold takesB at htk;simp [← UInt8.toNat_inj] at htk t1 ⊢;omega
         clear done skip cO HN HO htk R t1
         go_wp2
         go_quiet (fail)
         go_wp2
         go_roundw
         case rel => exact S.out _ (.inr ⟨_,rfl⟩)
         case measure => simp [intOf];omega
     ·rw [hst] at hpx
      by_cases hk0:k = 0
      ·subst hk0
       have R:Hid (rowL starB takesB (part.take (x + 1)) name 0 = rowL starB takesB (part.take x) name 0):=by rw [Hid,tk.out,row_run hst _ _ (Nat.zero_le _)];simp
       have S:Hid _:=done.out _ R.out
       clear done skip HN HO
       generalize rowL starB takesB (part.take x) name 0 = b at *
       cases b
       all_goals
        go_wp2
        go_roundw
        case rel => exact S.out _ (.inl rfl)
        case measure => simp [intOf]
      ·obtain ⟨j,rfl⟩ : ∃ j,k = j + 1:=⟨k - 1,by omega⟩
       have hjl:j < name.length:=by omega
       have cN:=HN.out.cell (k:=j) (by omega)
       rw [if_pos (by omega)] at cN
       have R:Hid (rowL starB takesB (part.take (x + 1)) name (j + 1) = (rowL starB takesB (part.take x) name (j + 1) || rowL starB takesB (part.take (x + 1)) name j)):=by
        rw [Hid,tk.out,row_run hst _ _ hkl];simp
       have S:Hid _:=done.out _ R.out
       clear done skip HN HO
       generalize rowL starB takesB (part.take x) name (j + 1) = b at *
       generalize rowL starB takesB (part.take (x + 1)) name j = c at *
       cases b
       ·cases c
        all_goals
         go_wp2
         go_roundw
         case rel => exact S.out _ (.inl rfl)
         case measure => simp [intOf];omega
       ·go_wp2
        go_roundw
        case rel => exact S.out _ (.inl rfl)
        case measure => simp [intOf];omega
    ·have hkl' : ¬ (k:Int) ≤ name.length:=by omega
     have hke:k = name.length + 1:=by omega
     have F:Hid (BoolsAt wr gn (name.length + 1) (rowL starB takesB (part.take (x + 1)) name)):=hN.congr fun j hj => by rw [if_pos (by omega)]
     have HBz:Hid (Below w.heap.size w wr):=hBz
     clear hN hO hBz hke
     go_wp2
     go_roundw
     case rel => exact ⟨x + 1,gn,by omega,rfl,hwn.out,rfl,F.out,HBz.out⟩
     case measure => simp [intOf];omega
  ·have cL:=hB.cell (k:=name.length) (by omega)
   have R:Hid (rowL starB takesB (part.take x) name name.length = spelledL part name):=by rw [Hid,row_end,List.take_of_length_le (by omega)];rfl
   rw [R.out] at cL
   have HBz:Hid (Below w.heap.size w wr):=hb
   clear hB hb
   go_wp2
   go_ret
   exact ⟨rfl,HBz.out⟩

open Go.RowKit
def runS (p:Str):Bool:=p == [42,42]
def fitsL (pat path:Str):Bool:=laidL runS spelledL (splitL 47 pat) (splitL 47 path)
set_option maxHeartbeats 4000000 in
set_option maxRecDepth 100000 in
theorem fits_any (pat path:Str) (w:World) (hp:pat.length ≤ 900) (hn:path.length ≤ 900) :
  Calls Tryz.prog 168 #[SV pat,SV path] w fun e w' => e = .returned (.bool (fitsL pat path))∧Below w.heap.size w w':=by
 have hc:(UInt8.toNat 47:Int) = 47:=rfl
 have hne1:=splitL_ne 47 pat
 have hne2:=splitL_ne 47 path
 have hl1:=splitL_len 47 pat
 have hl2:=splitL_len 47 path
 have hpc1:=splitL_piece 47 pat
 have hpc2:=splitL_piece 47 path
 go_enter Tryz.func168,Tryz.ntmps168
 go_wp2_with fail
 refine (split_any pat 47 _ (by omega)).mono ?_
 rintro e w1 ⟨v1,rfl,hown1,hbel1⟩
 go_wp2_with fail
 refine (split_any path 47 _ (by omega)).mono ?_
 rintro e w2 ⟨v2,rfl,hown2,hbel2⟩
 rcases strs_cells hown1 with ⟨rfl,h0,h2⟩ | ⟨g1,cap1,rfl,hn1,hg1,hgb1,hcap1,hm1,hcell1⟩
 ·exact absurd h2 hne1
 rcases strs_cells hown2 with ⟨rfl,h0,h2⟩ | ⟨g2,cap2,rfl,hn2,hg2,hgb2,hcap2,hm2,hcell2⟩
 ·exact absurd h2 hne2
 have HC1:Hid (∀ W,Below w2.heap.size w2 W→∀ k (h:k < (splitL 47 pat).length),W.cell? ⟨g1,k,none⟩ = some (SV (splitL 47 pat)[k])):=fun W hb k h => (hb.cell (p:=⟨g1,k,none⟩) (by have:=hbel2.size;simp only;omega)).trans ((hbel2.cell hg1).trans (hcell1 k h))
 have HC2:Hid (∀ W,Below w2.heap.size w2 W→∀ k (h:k < (splitL 47 path).length),W.cell? ⟨g2,k,none⟩ = some (SV (splitL 47 path)[k])):=fun W hb k h => (hb.cell (p:=⟨g2,k,none⟩) hg2).trans (hcell2 k h)
 have HB:Hid (Below w.heap.size w w2):=hbel1.trans (hbel2.mono hbel1.size)
 clear hcell1 hcell2 hown1 hown2 hbel1 hbel2 hgb1 hgb2 hn1 hn2
 have HL:Hid (fitsL pat path = laidL runS spelledL (splitL 47 pat) (splitL 47 path)):=rfl
 have hq1:(splitL 47 pat).length ≤ 901:=by omega
 have hq2:(splitL 47 path).length ≤ 901:=by omega
 have hpc1' : Hid (∀ x ∈ splitL 47 pat,x.length ≤ 900):=fun x hx => by have:=hpc1 x hx;omega
 have hpc2' : Hid (∀ x ∈ splitL 47 path,x.length ≤ 900):=fun x hx => by have:=hpc2 x hx;omega
 clear hpc1 hpc2 hl1 hl2
 generalize splitL 47 pat = ps at *
 generalize splitL 47 path = xs at *
 unfold maxLen at hm1 hm2
 have MB:=make_bools xs.length (by omega)
 obtain ⟨w3,mk3,hB3,hb3⟩:=MB w2
 have lt3:=hB3.lt
 have fz3:=hB3.frozen
 have c3:=hB3.cell (k:=0) (by omega)
 have HB3:Hid (BoolsAt w3 w2.heap.size (xs.length + 1) fun _ => false):=hB3
 clear hB3
 go_wp2
 have HB3' : Hid (BoolsAt (w3.setCell ⟨w2.heap.size,0,none⟩ (.bool true)) w2.heap.size (xs.length + 1) (rowL runS spelledL (ps.take 0) xs)) :=
  (HB3.out.set 0 true).congr fun k hk => by rw [List.take_zero,row_start xs (by omega)];by_cases h:k = 0 <;> simp [h]
 have hb3' : Hid (Below w2.heap.size w2 (w3.setCell ⟨w2.heap.size,0,none⟩ (.bool true))):=hb3.setCell (p:=⟨w2.heap.size,0,none⟩) (Nat.le_refl _) _
 clear HB3 hb3 c3 fz3 lt3 mk3
 generalize w3.setCell ⟨w2.heap.size,0,none⟩ (.bool true) = w4 at *
 go_loopw [7,8] (fun ok i wz => ∃ (x g:Nat),x ≤ ps.length∧i = .int .i64 x∧w2.heap.size ≤ g∧ok = .slice (some ⟨g,0,none⟩) (xs.length + 1) (xs.length + 1)∧BoolsAt wz g (xs.length + 1) (rowL runS spelledL (ps.take x) xs)∧Below w2.heap.size w2 wz) (fun _ i _ => ps.length - (intOf i).toNat)
 case atStart => exact ⟨0,w2.heap.size,Nat.zero_le _,rfl,Nat.le_refl _,rfl,HB3'.out,hb3'.out⟩
 case round =>
  obtain ⟨x,g,hx,rfl,hg,rfl,hB,hb⟩:=hrel
  clear HB3' hb3'
  by_cases hlt:x < ps.length
  ·obtain ⟨wy,mk,hBn,hbn⟩:=MB wr
   have ltn:=hB.lt
   have HN0:Hid (BoolsAt wy wr.heap.size (xs.length + 1) (fun j => if j < 0 then rowL runS spelledL (ps.take (x + 1)) xs j else false)):=hBn.congr fun k _ => by simp
   have HO0:Hid (BoolsAt wy g (xs.length + 1) (rowL runS spelledL (ps.take x) xs)):=(hbn.block _ ltn).trans hB
   have HBy:Hid (Below w2.heap.size w2 wy):=hb.trans (hbn.mono hb.size)
   have hgn:Hid (g < wr.heap.size):=ltn
   have hwn:Hid (w2.heap.size ≤ wr.heap.size):=hb.size
   clear hBn hB hb hbn ltn
   generalize wr.heap.size = gn at *
   go_wp2
   go_loopw [10] (fun j wz => ∃ k:Nat,k ≤ xs.length + 1∧j = .int .i64 k∧BoolsAt wz gn (xs.length + 1) (fun j => if j < k then rowL runS spelledL (ps.take (x + 1)) xs j else false)∧BoolsAt wz g (xs.length + 1) (rowL runS spelledL (ps.take x) xs)∧Below w2.heap.size w2 wz) (fun j _ => xs.length + 1 - (intOf j).toNat)
   case atStart => exact ⟨0,Nat.zero_le _,rfl,HN0.out,HO0.out,HBy.out⟩
   case round =>
    obtain ⟨k,hk,rfl,hN,hO,hBz⟩:=hrel
    clear HN0 HO0 HBy
    by_cases hkl:k ≤ xs.length
    ·have cO:=hO.cell (k:=k) (by omega)
     have fN:=hN.frozen k
     have ltN:=hN.lt
     have cP:=HC1.out wr hBz x hlt
     have tk:Hid (ps.take (x + 1) = ps.take x ++ [ps[x]]):=List.take_succ_eq_append_getElem hlt
     have HN:Hid (BoolsAt wr gn (xs.length + 1) (fun j => if j < k then rowL runS spelledL (ps.take (x + 1)) xs j else false)):=hN
     have HO:Hid (BoolsAt wr g (xs.length + 1) (rowL runS spelledL (ps.take x) xs)):=hO
     have HBz:Hid (Below w2.heap.size w2 wr):=hBz
     have cS:wr.cell? ⟨gn,k,none⟩ = some (.bool false):=(HN.out.cell (by omega)).trans (by rw [if_neg (by omega)])
     have done:Hid (∀ v:Bool,rowL runS spelledL (ps.take (x + 1)) xs k = v→∀ W,Below wr.heap.size wr W→∃ k' : Nat,k' ≤ xs.length + 1∧Value.int .i64 ((k:Int) + 1) = .int .i64 k'∧BoolsAt (W.setCell ⟨gn,k,none⟩ (.bool v)) gn (xs.length + 1) (fun j => if j < k' then rowL runS spelledL (ps.take (x + 1)) xs j else false)∧BoolsAt (W.setCell ⟨gn,k,none⟩ (.bool v)) g (xs.length + 1) (rowL runS spelledL (ps.take x) xs)∧Below w2.heap.size w2 (W.setCell ⟨gn,k,none⟩ (.bool v))):=fun v hv W hW => by
      have h1:BoolsAt W gn (xs.length + 1) (fun j => if j < k then rowL runS spelledL (ps.take (x + 1)) xs j else false):=(hW.block _ HN.out.lt).trans HN.out
      have h2:BoolsAt W g (xs.length + 1) (rowL runS spelledL (ps.take x) xs):=(hW.block _ HO.out.lt).trans HO.out
      exact ⟨k + 1,by omega,rfl,bools_step h1 hv,BoolsAt.other h2 (by have:=hgn.out;omega) _ _,(HBz.out.trans (hW.mono HBz.out.size)).setCell (p:=⟨gn,k,none⟩) hwn.out _⟩
     have skip:Hid (rowL runS spelledL (ps.take (x + 1)) xs k = false→∃ k' : Nat,k' ≤ xs.length + 1∧Value.int .i64 ((k:Int) + 1) = .int .i64 k'∧BoolsAt wr gn (xs.length + 1) (fun j => if j < k' then rowL runS spelledL (ps.take (x + 1)) xs j else false)∧BoolsAt wr g (xs.length + 1) (rowL runS spelledL (ps.take x) xs)∧Below w2.heap.size w2 wr):=fun hv =>
      ⟨k + 1,by omega,rfl,bools_skip HN.out hv,HO.out,HBz.out⟩
     have hkl' : (k:Int) ≤ xs.length:=by omega
     clear hN hO hBz
     cases hst:runS ps[x]
     ·have hpx:(ps[x] == [42,42]) = false:=hst
      by_cases hk0:k = 0
      ·subst hk0
       have R:Hid (rowL runS spelledL (ps.take (x + 1)) xs 0 = false):=by rw [Hid,tk.out];exact row_one0 hst _ _
       have S:Hid _:=skip.out R.out
       clear done skip cO HN HO
       go_wp2
       go_roundw
       case rel => exact S.out
       case measure => simp [intOf]
      ·obtain ⟨j,rfl⟩ : ∃ j,k = j + 1:=⟨k - 1,by omega⟩
       have hjl:j < xs.length:=by omega
       have cO':=HO.out.cell (k:=j) (by omega)
       have cX:=HC2.out wr HBz.out j hjl
       have R:Hid (rowL runS spelledL (ps.take (x + 1)) xs (j + 1) = (spelledL ps[x] xs[j] && rowL runS spelledL (ps.take x) xs j)):=by rw [Hid,tk.out];exact row_one hst _ _ hjl
       cases hrj:rowL runS spelledL (ps.take x) xs j
       ·have S:Hid _:=skip.out (by rw [R.out,hrj,Bool.and_false])
        rw [hrj] at cO'
        clear done skip cO HN HO R
        go_wp2
        go_roundw
        case rel => exact S.out
        case measure => simp [intOf];omega
       ·have S:Hid _:=done.out (spelledL ps[x] xs[j]) (by rw [R.out,hrj,Bool.and_true])
        have C:=fun W => spelled_any ps[x] xs[j] W (by have:=hpc1'.out _ (List.getElem_mem hlt);omega) (by have:=hpc2'.out _ (List.getElem_mem hjl);omega)
        rw [hrj] at cO'
        have hji:(j:Int) < (xs.length:Int):=by omega
        have hwr:IntKind.i64.wrap (j:Int) = (j:Int):=IntWalk.i64_in _ (by omega)
        clear done skip cO HO R
        go_wp2
        go_cut [11] (fun a wc => a = .bool (spelledL ps[x] xs[j])∧Below wr.heap.size wr wc)
        case first =>
         go_region_with (go_at_call 185;refine (C _).mono ?_;rintro e w1 ⟨rfl,hb1⟩)
         all_goals
          go_wp2_with fail
          go_meet
          case rel => exact ⟨rfl,((Below.refl _ _).drew).trans hb1⟩
        case rest =>
         obtain ⟨rfl,hbc⟩:=hcut
         have S2:Hid _:=S.out _ hbc
         have cS2:=(hbc.cell (p:=⟨gn,j + 1,none⟩) ltN).trans cS
         have hN2:BoolsAt _ gn (xs.length + 1) _:=(hbc.block _ ltN).trans HN.out
         have fN2:=hN2.frozen (j + 1)
         have ltN2:=hN2.lt
         clear S hbc cP cX cO' C HN hN2 cS fN ltN
         go_wp2
         go_roundw
         case rel => exact S2.out
         case measure => simp [intOf];omega
     ·have hpx:(ps[x] == [42,42]) = true:=hst
      by_cases hk0:k = 0
      ·subst hk0
       have R:Hid (rowL runS spelledL (ps.take (x + 1)) xs 0 = rowL runS spelledL (ps.take x) xs 0):=by rw [Hid,tk.out,row_run hst _ _ (Nat.zero_le _)];simp
       have S:Hid _:=done.out _ R.out wr (Below.refl _ _)
       clear done skip HN HO
       generalize rowL runS spelledL (ps.take x) xs 0 = b at *
       cases b
       all_goals
        go_wp2
        go_roundw
        case rel => exact S.out
        case measure => simp [intOf]
      ·obtain ⟨j,rfl⟩ : ∃ j,k = j + 1:=⟨k - 1,by omega⟩
       have hjl:j < xs.length:=by omega
       have cN:=HN.out.cell (k:=j) (by omega)
       rw [if_pos (by omega)] at cN
       have R:Hid (rowL runS spelledL (ps.take (x + 1)) xs (j + 1) = (rowL runS spelledL (ps.take x) xs (j + 1) || rowL runS spelledL (ps.take (x + 1)) xs j)):=by
        rw [Hid,tk.out,row_run hst _ _ hkl];simp
       have S:Hid _:=done.out _ R.out wr (Below.refl _ _)
       clear done skip HN HO
       generalize rowL runS spelledL (ps.take x) xs (j + 1) = b at *
       generalize rowL runS spelledL (ps.take (x + 1)) xs j = c at *
       cases b
       ·cases c
        all_goals
         go_wp2
         go_roundw
         case rel => exact S.out
         case measure => simp [intOf];omega
       ·go_wp2
        go_roundw
        case rel => exact S.out
        case measure => simp [intOf];omega
    ·have hkl' : ¬ (k:Int) ≤ xs.length:=by omega
     have hke:k = xs.length + 1:=by omega
     have F:Hid (BoolsAt wr gn (xs.length + 1) (rowL runS spelledL (ps.take (x + 1)) xs)):=hN.congr fun j hj => by rw [if_pos (by omega)]
     have HBz:Hid (Below w2.heap.size w2 wr):=hBz
     clear hN hO hBz hke
     go_wp2
     go_roundw
     case rel => exact ⟨x + 1,gn,by omega,rfl,hwn.out,rfl,F.out,HBz.out⟩
     case measure => simp [intOf];omega
  ·have cL:=hB.cell (k:=xs.length) (by omega)
   have R:Hid (rowL runS spelledL (ps.take x) xs xs.length = fitsL pat path):=by rw [Hid,row_end,List.take_of_length_le (by omega),HL.out]
   rw [R.out] at cL
   have HBz:Hid (Below w2.heap.size w2 wr):=hb
   clear hB hb
   go_wp2
   go_ret
   exact ⟨rfl,HB.out.trans (HBz.out.mono HB.out.size)⟩

open Go.RowKit
def starsAt (s:Str) (k:Nat):Bool:=s[k]? == some 42 && s[k - 1]? == some 42
def hasStars (s:Str):Bool:=(List.range s.length).any fun k => decide (1 ≤ k) && starsAt s k
def partOkL (s:Str):Bool:=s == [42,42] || (isNameL s true && !hasStars s)
def isPatternL (p:Str):Bool:=decide ((splitL 47 p).length ≤ 5) && (splitL 47 p).all partOkL
theorem hasStars_yes {s:Str} {k:Nat} (h1:1 ≤ k) (hk:k < s.length) (h:starsAt s k = true):hasStars s = true:=by
 unfold hasStars;rw [List.any_eq_true];exact ⟨k,by simp [hk],by simp [h1,h]⟩
theorem hasStars_no {s:Str} (h:∀ k,1 ≤ k→k < s.length→starsAt s k = false):hasStars s = false:=by
 unfold hasStars;rw [List.any_eq_false];intro k hk
 by_cases h1:1 ≤ k
 ·simp [h1,h k h1 (by simpa using hk)]
 ·simp [h1]
theorem pattern_bad {p:Str} {k:Nat} (hk:k < (splitL 47 p).length) (h:partOkL (splitL 47 p)[k] = false):isPatternL p = false:=by
 unfold isPatternL
 rw [show (splitL 47 p).all partOkL = false from List.all_eq_false.2 ⟨_,List.getElem_mem hk,by simp [h]⟩,Bool.and_false]
theorem pattern_end {p:Str} (h:∀ j (hj:j < (splitL 47 p).length),partOkL (splitL 47 p)[j] = true):isPatternL p = decide ((splitL 47 p).length ≤ 5):=by
 unfold isPatternL
 rw [show (splitL 47 p).all partOkL = true from List.all_eq_true.2 fun x hx => by obtain ⟨j,hj,rfl⟩:=List.getElem_of_mem hx;exact h j hj,Bool.and_true]
set_option maxHeartbeats 2000000 in
set_option maxRecDepth 50000 in
theorem isPattern_any (p:Str) (w:World) (hp:p.length ≤ 900) :
  Calls Tryz.prog 166 #[SV p] w fun e w' => e = .returned (.bool (isPatternL p))∧Below w.heap.size w w':=by
 have hc:(UInt8.toNat 47:Int) = 47:=rfl
 have hG:=get_list
 have hne1:=splitL_ne 47 p
 have hl1:=splitL_len 47 p
 have hpc1:=splitL_piece 47 p
 go_enter Tryz.func166,Tryz.ntmps166
 go_wp2_with fail
 refine (split_any p 47 _ (by omega)).mono ?_
 rintro e w1 ⟨v1,rfl,hown1,hbel1⟩
 rcases strs_cells hown1 with ⟨rfl,h0,h2⟩ | ⟨g1,cap1,rfl,hn1,hg1,hgb1,hcap1,hm1,hcell1⟩
 ·exact absurd h2 hne1
 have HB:Hid (Below w.heap.size w w1):=hbel1
 have hq1:(splitL 47 p).length ≤ 901:=by omega
 have hpc:Hid (∀ x ∈ splitL 47 p,x.length ≤ 900):=fun x hx => by have:=hpc1 x hx;omega
 have BAD:Hid (∀ k (hk:k < (splitL 47 p).length),partOkL (splitL 47 p)[k] = false→isPatternL p = false):=fun k hk h => pattern_bad hk h
 have END:Hid ((∀ j (hj:j < (splitL 47 p).length),partOkL (splitL 47 p)[j] = true)→isPatternL p = decide ((splitL 47 p).length ≤ 5)):=fun h => pattern_end h
 clear hown1 hbel1 hgb1 hn1 hpc1 hl1
 generalize splitL 47 p = xs at *
 unfold maxLen at hm1
 go_wp2
 go_loopw [4] (fun i wr => ∃ k n:Nat,k ≤ xs.length∧i = .int .i64 k∧wr = w1.drewN n∧∀ j (hj:j < xs.length),j < k→partOkL xs[j] = true) (fun i _ => xs.length - (intOf i).toNat)
 case atStart => exact ⟨0,0,Nat.zero_le _,rfl,rfl,fun j _ h => by omega⟩
 case round =>
  obtain ⟨k,n,hk,rfl,rfl,hall⟩:=hrel
  by_cases hlt:k < xs.length
  ·have ck:=hcell1 k hlt
   have hl:=hpc.out _ (List.getElem_mem hlt)
   have CN:=fun W => isName_any xs[k] true W (by unfold maxLen;omega)
   have NEXT:Hid (partOkL xs[k] = true→∀ j (hj:j < xs.length),j < k + 1→partOkL xs[j] = true):=fun h => str_step (q:=partOkL) hlt hall h
   have BK:Hid _:=BAD.out k hlt
   clear hall hcell1 BAD
   cases hss:(xs[k] == [42,42])
   ·cases hnm:isNameL xs[k] true
    ·have R:Hid (isPatternL p = false):=BK.out (by unfold partOkL;rw [hss,hnm];rfl)
     rw [hnm] at CN
     clear NEXT BK
     go_wp2_with (go_at_call 163;refine (CN _).mono ?_;rintro e w' ⟨rfl,rfl⟩)
     go_ret
     exact ⟨by rw [R.out];rfl,below_drewN HB.out _⟩
    ·rw [hnm] at CN
     go_wp2_with (go_at_call 163;refine (CN _).mono ?_;rintro e w' ⟨rfl,rfl⟩)
     go_loopw [6] (fun i wz => ∃ j n:Nat,1 ≤ j∧i = .int .i64 j∧wz = w1.drewN n∧∀ y,1 ≤ y→y < xs[k].length→y < j→starsAt xs[k] y = false) (fun i _ => xs[k].length - (intOf i).toNat)
     case atStart => exact ⟨1,n,Nat.le_refl _,rfl,rfl,fun y h1 _ h2 => by omega⟩
     case round =>
      obtain ⟨j,n',hj1,rfl,rfl,hno⟩:=hrel
      by_cases hjl:j < xs[k].length
      ·have hji:(j:Int) < (xs[k].length:Int):=by omega
       cases ha:starsAt xs[k] j
       ·have S:Hid (∀ y,1 ≤ y→y < xs[k].length→y < j + 1→starsAt xs[k] y = false):=fun y h1 h2 h3 => by
         by_cases e:y = j
         ·subst e;exact ha
         ·exact hno y h1 h2 (by omega)
        obtain ⟨i,rfl⟩ : ∃ i,j = i + 1:=⟨j - 1,by omega⟩
        have hil:i < xs[k].length:=by omega
        by_cases hb:xs[k][i + 1] = 42
        ·have t1:((xs[k][i + 1].toNat:Int) == 42) = true:=by rw [hb];rfl
         have t2:((xs[k][i].toNat:Int) == 42) = false:=by
          unfold starsAt at ha
          simp [hjl,hil,hb,← UInt8.toNat_inj] at ha ⊢;omega
         clear hno ha hb NEXT BK CN
         go_wp2
         go_roundw
         case rel => exact ⟨i + 1 + 1,_,by omega,by go_num,rfl,S.out⟩
         case measure => simp [intOf];omega
        ·have t1:((xs[k][i + 1].toNat:Int) == 42) = false:=by
          simp [← UInt8.toNat_inj] at hb ⊢;omega
         clear hno ha hb NEXT BK CN
         go_wp2
         go_roundw
         case rel => exact ⟨i + 1 + 1,_,by omega,by go_num,rfl,S.out⟩
         case measure => simp [intOf];omega
       ·have R:Hid (isPatternL p = false):=BK.out (by unfold partOkL;rw [hss,hasStars_yes hj1 hjl ha];simp)
        obtain ⟨i,rfl⟩ : ∃ i,j = i + 1:=⟨j - 1,by omega⟩
        have hil:i < xs[k].length:=by omega
        have t:xs[k][i + 1] = 42∧xs[k][i] = 42:=by
         unfold starsAt at ha
         simpa [hjl,hil] using ha
        have t1:((xs[k][i + 1].toNat:Int) == 42) = true:=by rw [t.1];rfl
        have t2:((xs[k][i].toNat:Int) == 42) = true:=by rw [t.2];rfl
        clear hno ha t NEXT BK CN
        go_wp2
        go_ret
        exact ⟨by rw [R.out];rfl,below_drewN HB.out _⟩
      ·have hji:¬ (j:Int) < (xs[k].length:Int):=by omega
       have R:=NEXT.out (by unfold partOkL;rw [hnm,hasStars_no (fun y h1 h2 => hno y h1 h2 (by omega))];simp)
       clear hno NEXT BK CN
       go_wp2
       go_roundw
       case rel => exact ⟨k + 1,_,by omega,by go_num,rfl,R⟩
       case measure => simp [intOf];omega
   ·have hss' : partOkL xs[k] = true:=by unfold partOkL;rw [hss];rfl
    have R:=NEXT.out hss'
    clear NEXT BK CN
    go_wp2
    go_roundw
    case rel => exact ⟨k + 1,_,by omega,by go_num,rfl,R⟩
    case measure => simp [intOf];omega
  ·have R:Hid _:=END.out fun j hj => hall j hj (by omega)
   clear hall hcell1 BAD END
   go_wp2
   go_ret
   exact ⟨by rw [R.out];first | rfl | (simp;omega),below_drewN HB.out _⟩

open Go.RowKit
def WordsAt (w:World) (v:Value) (xs:List Str):Prop :=
 ∃ g cap,v = .slice (some ⟨g,0,none⟩) xs.length cap∧xs.length ≤ cap∧cap ≤ maxLen∧g < w.heap.size∧∀ k (h:k < xs.length),w.cell? ⟨g,k,none⟩ = some (SV xs[k])
theorem WordsAt.below {w W:World} {v:Value} {xs:List Str} (h:WordsAt w v xs) (hb:Below w.heap.size w W):WordsAt W v xs:=by
 obtain ⟨g,cap,h1,h2,h3,h4,h5⟩:=h
 exact ⟨g,cap,h1,h2,h3,by have:=hb.size;omega,fun k hk => (hb.cell (p:=⟨g,k,none⟩) h4).trans (h5 k hk)⟩
def kExists:Str:=[101,120,105,115,116,115]
def kList:Str:=[108,105,115,116]
def kRead:Str:=[114,101,97,100]
def kGlob:Str:=[103,108,111,98]
def kFirst:Str:=[102,105,114,115,116]
def wordOk (k:Str) (i:Nat) (x:Str):Bool:=if k == kFirst && i == 1 then isNameL x false else isPlaceL x
def placesE (xs:List Str):Nat:=if (List.range xs.length).all (fun i => i == 0 || wordOk (xs.headD []) i (xs.getD i [])) then 0 else 3
def checkW (xs:List Str):Nat :=
 if xs.any (· == []) then 10
 else if xs.headD [] == kGlob then (if xs.length = 2 then (if isPatternL (xs.getD 1 []) then 0 else 9) else 10)
 else if xs.headD [] == kFirst then (if xs.length < 3 then 10 else placesE xs)
 else if xs.headD [] == kExists || xs.headD [] == kList || xs.headD [] == kRead then (if xs.length = 2 then placesE xs else 10)
 else 10
def checkL (q:Str):Nat:=if 60 < q.length then 4 else checkW (splitL 32 q)
theorem places_bad {xs:List Str} {i:Nat} (h1:1 ≤ i) (hi:i < xs.length) (h:wordOk (xs.headD []) i xs[i] = false):placesE xs = 3:=by
 unfold placesE
 generalize xs.headD [] = k at *
 rw [if_neg]
 intro ha
 have:=List.all_eq_true.1 ha i (by simp [hi])
 simp [show ¬ i = 0 by omega,h,hi] at this
theorem places_good {xs:List Str} (h:∀ i (hi:i < xs.length),1 ≤ i→wordOk (xs.headD []) i xs[i] = true):placesE xs = 0:=by
 unfold placesE
 generalize xs.headD [] = k at *
 rw [if_pos]
 rw [List.all_eq_true]
 intro i hi
 simp at hi
 by_cases h0:i = 0
 ·simp [h0]
 ·simp [hi,h i hi (by omega)]
def CheckOut (w:World) (q:Str) (e:Ending) (w' : World):Prop :=
 Below w.heap.size w w'∧((checkL q = 0∧∃ v,e = .returned (.tuple #[v,.int .i64 0])∧WordsAt w' v (splitL 32 q))∨(checkL q ≠ 0∧e = .returned (.tuple #[.slice none 0 0,.int .i64 (checkL q)])))
theorem CheckOut.bad {w w' : World} {q:Str} {n:Nat} (hb:Below w.heap.size w w') (h:checkL q = n) (hn:n ≠ 0):CheckOut w q (.returned (.tuple #[.slice none 0 0,.int .i64 n])) w':=⟨hb,.inr ⟨by omega,by rw [h]⟩⟩
set_option maxHeartbeats 4000000 in
set_option maxRecDepth 50000 in
theorem check_any (q:Str) (w:World) (hq:q.length + 1 < maxLen) :
  Calls Tryz.prog 139 #[SV q] w fun e w' => CheckOut w q e w':=by
 unfold maxLen at hq
 have hc:(UInt8.toNat 32:Int) = 32:=rfl
 by_cases h60:60 < q.length
 ·have R:Hid (CheckOut w q (.returned (.tuple #[.slice none 0 0,.int .i64 (4:Nat)])) w):=CheckOut.bad (Below.refl _ _) (by unfold checkL;rw [if_pos h60]) (by omega)
  have h60' : (60:Int) < q.length:=by omega
  go_enter Tryz.func139,Tryz.ntmps139
  go_wp2_with fail
  go_ret2
  exact R.out
 have h60' : ¬ (60:Int) < q.length:=by omega
 have HQ:Hid (checkL q = checkW (splitL 32 q)):=by unfold checkL;rw [Hid,if_neg h60]
 have hne1:=splitL_ne 32 q
 have hl1:=splitL_len 32 q
 have hpc1:=splitL_piece 32 q
 go_enter Tryz.func139,Tryz.ntmps139
 go_wp2_with fail
 refine (split_any q 32 _ (by omega)).mono ?_
 rintro e w1 ⟨v1,rfl,hown1,hbel1⟩
 rcases strs_cells hown1 with ⟨rfl,h0,h2⟩ | ⟨g1,cap1,rfl,hn1,hg1,hgb1,hcap1,hm1,hcell1⟩
 ·exact absurd h2 hne1
 have HB:Hid (Below w.heap.size w w1):=hbel1
 have hq1:(splitL 32 q).length ≤ 61:=by omega
 have hpc:Hid (∀ x ∈ splitL 32 q,x.length ≤ 60):=fun x hx => by have:=hpc1 x hx;omega
 have HW:Hid (∀ W,Below w1.heap.size w1 W→WordsAt W (.slice (some ⟨g1,0,none⟩) (splitL 32 q).length cap1) (splitL 32 q)):=fun W hb => WordsAt.below ⟨g1,cap1,rfl,hcap1,hm1,hg1,hcell1⟩ hb
 have HC:Hid (∀ W,Below w1.heap.size w1 W→∀ k (h:k < (splitL 32 q).length),W.cell? ⟨g1,k,none⟩ = some (SV (splitL 32 q)[k])):=fun W hb k h => (hb.cell (p:=⟨g1,k,none⟩) hg1).trans (hcell1 k h)
 have BADR:Hid (∀ (n:Nat) W,checkW (splitL 32 q) = n→n ≠ 0→Below w1.heap.size w1 W→CheckOut w q (.returned (.tuple #[.slice none 0 0,.int .i64 n])) W):=fun n W h hn hb => CheckOut.bad (HB.out.trans (hb.mono HB.out.size)) (by rw [HQ.out,h]) hn
 have OKR:Hid (∀ W,checkW (splitL 32 q) = 0→Below w1.heap.size w1 W→CheckOut w q (.returned (.tuple #[.slice (some ⟨g1,0,none⟩) (splitL 32 q).length cap1,.int .i64 0])) W):=fun W h hb => ⟨HB.out.trans (hb.mono HB.out.size),.inl ⟨by rw [HQ.out,h],_,rfl,HW.out W hb⟩⟩
 clear hown1 hbel1 hgb1 hn1 hpc1 hl1 HW HQ
 generalize splitL 32 q = xs at *
 unfold maxLen at hm1
 have h0l:0 < xs.length:=List.length_pos_iff.2 hne1
 go_wp2
 go_loopw [5] (fun i wr => ∃ k:Nat,k ≤ xs.length∧i = .int .i64 k∧wr = w1∧∀ j (hj:j < xs.length),j < k→(xs[j] == []) = false) (fun i _ => xs.length - (intOf i).toNat)
 case atStart => exact ⟨0,Nat.zero_le _,rfl,rfl,fun j _ h => by omega⟩
 case round =>
  obtain ⟨k,hk,rfl,hw,hall⟩:=hrel
  have hw':=hw.symm
  subst hw'
  clear hw
  by_cases hlt:k < xs.length
  ·have ck:=hcell1 k hlt
   cases he:(xs[k] == [])
   ·have R:=str_step (q:=fun x => x == []) hlt hall he
    clear hall hcell1
    go_wp2
    go_roundw
    case rel => exact ⟨k + 1,by omega,by go_num,trivial,R⟩
    case measure => simp [intOf];omega
   ·have R:Hid _:=BADR.out 10 w1 (by unfold checkW;rw [if_pos (List.any_eq_true.2 ⟨_,List.getElem_mem hlt,he⟩)]) (by omega) (Below.refl _ _)
    clear hall hcell1 BADR OKR
    go_wp2
    go_ret2
    exact R.out
  ·have hany:Hid (xs.any (· == []) = false):=List.any_eq_false.2 fun x hx => by
    obtain ⟨j,hj,rfl⟩:=List.getElem_of_mem hx
    simpa using hall j hj (by omega)
   have hki:¬ (k:Int) < (xs.length:Int):=by omega
   have hhd:Hid (xs.headD [] = xs[0]):=by
    cases xs with
    | nil => exact absurd rfl hne1
    | cons a l => rfl
   have c0:=hcell1 0 h0l
   have HX0:Hid (∀ x0,x0 = xs[0]→checkW xs = if x0 == kGlob then (if xs.length = 2 then (if isPatternL (xs.getD 1 []) then 0 else 9) else 10) else if x0 == kFirst then (if xs.length < 3 then 10 else placesE xs) else if x0 == kExists || x0 == kList || x0 == kRead then (if xs.length = 2 then placesE xs else 10) else 10):=fun x0 h => by
    subst h;unfold checkW;rw [hany.out,hhd.out];rfl
   have PB:Hid (∀ i (hi:i < xs.length),1 ≤ i→wordOk xs[0] i xs[i] = false→placesE xs = 3):=fun i hi h1 h => places_bad h1 hi (by rw [hhd.out];exact h)
   have PG:Hid ((∀ i (hi:i < xs.length),1 ≤ i→wordOk xs[0] i xs[i] = true)→placesE xs = 0):=fun h => places_good (by rw [hhd.out];exact h)
   obtain ⟨x0,hx0⟩ : ∃ x0,x0 = xs[0]:=⟨_,rfl⟩
   have CK:Hid _:=HX0.out x0 hx0
   rw [← hx0] at c0 PB PG
   have HX:Hid _:=hx0
   clear hall HX0 hany hhd hx0 hne1
   by_cases kG:(x0 == [103,108,111,98]) = true
   ·by_cases h2:xs.length = 2
    ·have h1l:1 < xs.length:=by omega
     have c1:=hcell1 1 h1l
     have CP:Hid (Calls Tryz.prog 166 #[SV xs[1]] w1 fun e w' => e = .returned (.bool (isPatternL xs[1]))∧Below w1.heap.size w1 w'):=isPattern_any xs[1] w1 (by have:=hpc.out _ (List.getElem_mem h1l);omega)
     have e1:xs.getD 1 [] = xs[1]:=by simp [List.getD,h1l]
     have CK2:Hid (checkW xs = if isPatternL xs[1] then 0 else 9):=by
      have:=CK.out
      rw [show (x0 == kGlob) = true from kG,if_pos rfl,if_pos h2,e1] at this
      exact this
     simp at kG
     subst kG
     have h2i:(xs.length:Int) = 2:=by omega
     clear hcell1 e1 CK h2
     cases hP:isPatternL xs[1]
     ·rw [hP] at CP CK2
      have R:=BADR.out 9
      clear BADR OKR
      go_wp2_with fail
      refine CP.out.mono ?_
      rintro e w3 ⟨rfl,hb3⟩
      have R2:Hid _:=R w3 CK2.out (by omega) hb3
      clear R hb3
      go_wp2
      go_ret2
      exact R2.out
     ·rw [hP] at CP CK2
      have R:=OKR.out
      clear BADR OKR
      go_wp2_with fail
      refine CP.out.mono ?_
      rintro e w3 ⟨rfl,hb3⟩
      have R2:Hid _:=R w3 CK2.out hb3
      clear R hb3
      go_wp2
      go_ret2
      exact R2.out
    ·have R:Hid _:=BADR.out 10 w1 (by
      have:=CK.out
      rw [show (x0 == kGlob) = true from kG,if_pos rfl,if_neg h2] at this
      exact this) (by omega) (Below.refl _ _)
     simp at kG
     subst kG
     have h2i:¬ (xs.length:Int) = 2:=by omega
     clear hcell1 CK h2 BADR OKR
     go_wp2
     go_ret2
     exact R.out
   ·have kG' : (x0 == kGlob) = false:=by simpa [kGlob] using kG
    by_cases kF:(x0 == [102,105,114,115,116]) = true
    ·by_cases h3:xs.length < 3
     ·have R:Hid _:=BADR.out 10 w1 (by
       have:=CK.out
       rw [kG',show (x0 == kFirst) = true from kF,if_neg (by simp),if_pos rfl,if_pos h3] at this
       exact this) (by omega) (Below.refl _ _)
      simp at kF
      subst kF
      have h2i:(xs.length:Int) < 3:=by omega
      clear hcell1 CK h3 BADR OKR kG kG'
      go_wp2
      go_ret2
      exact R.out
     ·have CK2:Hid (checkW xs = placesE xs):=by
       have:=CK.out
       rw [kG',show (x0 == kFirst) = true from kF,if_neg (by simp),if_pos rfl,if_neg h3] at this
       exact this
      simp at kF
      subst kF
      have h2i:¬ (xs.length:Int) < 3:=by omega
      clear CK kG kG' hcell1
      have BAD3:Hid (∀ i (hi:i < xs.length),1 ≤ i→wordOk ([102,105,114,115,116]:Str) i xs[i] = false→∀ W,Below w1.heap.size w1 W→CheckOut w q (.returned (.tuple #[.slice none 0 0,.int .i64 (3:Nat)])) W):=fun i hi h1 h W hb => BADR.out 3 W (by rw [CK2.out];exact PB.out i hi h1 h) (by omega) hb
      have GOOD:Hid ((∀ i (hi:i < xs.length),1 ≤ i→wordOk ([102,105,114,115,116]:Str) i xs[i] = true)→∀ W,Below w1.heap.size w1 W→CheckOut w q (.returned (.tuple #[.slice (some ⟨g1,0,none⟩) xs.length cap1,.int .i64 0])) W):=fun h W hb => OKR.out W (by rw [CK2.out];exact PG.out h) hb
      clear BADR OKR PB PG CK2
      go_wp2
      go_loopw [7] (fun i wz => ∃ j:Nat,1 ≤ j∧j ≤ xs.length∧i = .int .i64 j∧Below w1.heap.size w1 wz∧∀ y (hy:y < xs.length),1 ≤ y→y < j→wordOk ([102,105,114,115,116]:Str) y xs[y] = true) (fun i _ => xs.length - (intOf i).toNat)
      case atStart => exact ⟨1,Nat.le_refl _,by omega,rfl,Below.refl _ _,fun y _ h1 h2 => by omega⟩
      case round =>
       obtain ⟨j,hj1,hjl,rfl,hbz,hpl⟩:=hrel
       by_cases hjx:j < xs.length
       ·have hji:(j:Int) < (xs.length:Int):=by omega
        have cz0:wr.cell? ⟨g1,0,none⟩ = some (SV ([102,105,114,115,116]:Str)):=(hbz.cell (p:=⟨g1,0,none⟩) hg1).trans c0
        have czj:wr.cell? ⟨g1,j,none⟩ = some (SV xs[j]):=HC.out wr hbz j hjx
        have NX:Hid (wordOk ([102,105,114,115,116]:Str) j xs[j] = true→∀ y (hy:y < xs.length),1 ≤ y→y < j + 1→wordOk ([102,105,114,115,116]:Str) y xs[y] = true):=fun h y hy h1 h2 => by
         by_cases e:y = j
         ·subst e;exact h
         ·exact hpl y hy h1 (by omega)
        have B3:Hid _:=BAD3.out j hjx hj1
        have hxl:=hpc.out _ (List.getElem_mem hjx)
        have CI:=isPlace_any xs[j] wr (by unfold maxLen;omega)
        have HBZ:Hid (Below w1.heap.size w1 wr):=hbz
        clear hpl BAD3 GOOD c0
        by_cases hj:j = 1
        ·subst hj
         have RES:Hid (wordOk ([102,105,114,115,116]:Str) 1 xs[1] = isNameL xs[1] false):=by unfold wordOk;rw [Hid,if_pos (by simp [kFirst])]
         have CN:=fun W => isName_any xs[1] false W (by unfold maxLen;omega)
         generalize isPlaceL xs[1] = bp at *
         cases hpj:isNameL xs[1] false
         ·rw [hpj] at CN
          go_wp2_with fail
          refine CI.mono ?_
          rintro e w4 ⟨rfl,hb4⟩
          have cz4:=(hb4.cell (p:=⟨g1,0,none⟩) (by have:=HBZ.out.size;simp only;omega)).trans cz0
          have cz5:=(hb4.cell (p:=⟨g1,1,none⟩) (by have:=HBZ.out.size;simp only;omega)).trans czj
          have R:Hid _:=B3.out (by rw [RES.out,hpj]) w4 (HBZ.out.trans (hb4.mono HBZ.out.size))
          clear cz0 czj CI B3 NX hb4 hbz
          go_wp2_with (go_at_call 163;refine (CN _).mono ?_;rintro e w' ⟨rfl,rfl⟩)
          go_ret2
          exact R.out
         ·rw [hpj] at CN
          go_wp2_with fail
          refine CI.mono ?_
          rintro e w4 ⟨rfl,hb4⟩
          have cz4:=(hb4.cell (p:=⟨g1,0,none⟩) (by have:=HBZ.out.size;simp only;omega)).trans cz0
          have cz5:=(hb4.cell (p:=⟨g1,1,none⟩) (by have:=HBZ.out.size;simp only;omega)).trans czj
          have HB4:Hid (Below w1.heap.size w1 w4):=HBZ.out.trans (hb4.mono HBZ.out.size)
          have R:Hid _:=NX.out (by rw [RES.out,hpj])
          clear cz0 czj CI B3 NX hb4 hbz
          go_wp2_with (go_at_call 163;refine (CN _).mono ?_;rintro e w' ⟨rfl,rfl⟩)
          go_roundw
          case rel => exact ⟨1 + 1,by omega,by omega,by go_num,HB4.out,R.out⟩
          case measure => simp [intOf];omega
        ·have hj1i:((j:Int) == 1) = false:=by simp;omega
         have RES:Hid (wordOk ([102,105,114,115,116]:Str) j xs[j] = isPlaceL xs[j]):=by unfold wordOk;rw [Hid,if_neg (by simp [hj])]
         cases hpj:isPlaceL xs[j]
         ·rw [hpj] at CI
          go_wp2_with fail
          refine CI.mono ?_
          rintro e w4 ⟨rfl,hb4⟩
          have cz4:=(hb4.cell (p:=⟨g1,0,none⟩) (by have:=HBZ.out.size;simp only;omega)).trans cz0
          have R:Hid _:=B3.out (by rw [RES.out,hpj]) w4 (HBZ.out.trans (hb4.mono HBZ.out.size))
          clear cz0 czj CI B3 NX hb4 hbz
          go_wp2
          go_ret2
          exact R.out
         ·rw [hpj] at CI
          go_wp2_with fail
          refine CI.mono ?_
          rintro e w4 ⟨rfl,hb4⟩
          have cz4:=(hb4.cell (p:=⟨g1,0,none⟩) (by have:=HBZ.out.size;simp only;omega)).trans cz0
          have HB4:Hid (Below w1.heap.size w1 w4):=HBZ.out.trans (hb4.mono HBZ.out.size)
          have R:Hid _:=NX.out (by rw [RES.out,hpj])
          clear cz0 czj CI B3 NX hb4 hbz
          go_wp2
          go_roundw
          case rel => exact ⟨j + 1,by omega,by omega,by go_num,HB4.out,R.out⟩
          case measure => simp [intOf];omega
       ·have hji:¬ (j:Int) < (xs.length:Int):=by omega
        have R:Hid _:=GOOD.out (fun y hy h1 => hpl y hy h1 (by omega)) wr hbz
        clear hpl BAD3 GOOD hbz
        go_wp2
        go_ret2
        exact R.out
    ·have kF' : (x0 == kFirst) = false:=by simpa [kFirst] using kF
     by_cases kE:x0 = [101,120,105,115,116,115]∨x0 = [108,105,115,116]∨x0 = [114,101,97,100]
     ·have kE' : (x0 == kExists || x0 == kList || x0 == kRead) = true:=by rcases kE with rfl | rfl | rfl <;> rfl
      by_cases h2:xs.length = 2
      ·have CK2:Hid (checkW xs = placesE xs):=by
        have:=CK.out
        rw [kG',kF',kE',if_neg (by simp),if_neg (by simp),if_pos rfl,if_pos h2] at this
        exact this
       have h2i:(xs.length:Int) = 2:=by omega
       have h2g:1 < xs.length:=by omega
       clear CK kG kG' kF kF' kE' hcell1 h2
       rcases kE with rfl | rfl | rfl
       ·have BAD3:Hid (∀ i (hi:i < xs.length),1 ≤ i→wordOk ([101,120,105,115,116,115]:Str) i xs[i] = false→∀ W,Below w1.heap.size w1 W→CheckOut w q (.returned (.tuple #[.slice none 0 0,.int .i64 (3:Nat)])) W):=fun i hi h1 h W hb => BADR.out 3 W (by rw [CK2.out];exact PB.out i hi h1 h) (by omega) hb
        have GOOD:Hid ((∀ i (hi:i < xs.length),1 ≤ i→wordOk ([101,120,105,115,116,115]:Str) i xs[i] = true)→∀ W,Below w1.heap.size w1 W→CheckOut w q (.returned (.tuple #[.slice (some ⟨g1,0,none⟩) xs.length cap1,.int .i64 0])) W):=fun h W hb => OKR.out W (by rw [CK2.out];exact PG.out h) hb
        clear BADR OKR PB PG CK2
        go_wp2
        go_loopw [7] (fun i wz => ∃ j:Nat,1 ≤ j∧j ≤ xs.length∧i = .int .i64 j∧Below w1.heap.size w1 wz∧∀ y (hy:y < xs.length),1 ≤ y→y < j→wordOk ([101,120,105,115,116,115]:Str) y xs[y] = true) (fun i _ => xs.length - (intOf i).toNat)
        case atStart => exact ⟨1,Nat.le_refl _,by omega,rfl,Below.refl _ _,fun y _ h1 h2 => by omega⟩
        case round =>
         obtain ⟨j,hj1,hjl,rfl,hbz,hpl⟩:=hrel
         by_cases hjx:j < xs.length
         ·have hji:(j:Int) < (xs.length:Int):=by omega
          have cz0:wr.cell? ⟨g1,0,none⟩ = some (SV ([101,120,105,115,116,115]:Str)):=(hbz.cell (p:=⟨g1,0,none⟩) hg1).trans c0
          have czj:wr.cell? ⟨g1,j,none⟩ = some (SV xs[j]):=HC.out wr hbz j hjx
          have NX:Hid (wordOk ([101,120,105,115,116,115]:Str) j xs[j] = true→∀ y (hy:y < xs.length),1 ≤ y→y < j + 1→wordOk ([101,120,105,115,116,115]:Str) y xs[y] = true):=fun h y hy h1 h2 => by
           by_cases e:y = j
           ·subst e;exact h
           ·exact hpl y hy h1 (by omega)
          have B3:Hid _:=BAD3.out j hjx hj1
          have hxl:=hpc.out _ (List.getElem_mem hjx)
          have CI:=isPlace_any xs[j] wr (by unfold maxLen;omega)
          have HBZ:Hid (Below w1.heap.size w1 wr):=hbz
          clear hpl BAD3 GOOD c0
          have RES:Hid (wordOk ([101,120,105,115,116,115]:Str) j xs[j] = isPlaceL xs[j]):=by unfold wordOk;rw [Hid,if_neg (by simp [kFirst])]
          cases hpj:isPlaceL xs[j]
          ·rw [hpj] at CI
           go_wp2_with fail
           refine CI.mono ?_
           rintro e w4 ⟨rfl,hb4⟩
           have cz4:=(hb4.cell (p:=⟨g1,0,none⟩) (by have:=HBZ.out.size;simp only;omega)).trans cz0
           have R:Hid _:=B3.out (by rw [RES.out,hpj]) w4 (HBZ.out.trans (hb4.mono HBZ.out.size))
           clear cz0 czj CI B3 NX hb4 hbz
           go_wp2
           go_ret2
           exact R.out
          ·rw [hpj] at CI
           go_wp2_with fail
           refine CI.mono ?_
           rintro e w4 ⟨rfl,hb4⟩
           have cz4:=(hb4.cell (p:=⟨g1,0,none⟩) (by have:=HBZ.out.size;simp only;omega)).trans cz0
           have HB4:Hid (Below w1.heap.size w1 w4):=HBZ.out.trans (hb4.mono HBZ.out.size)
           have R:Hid _:=NX.out (by rw [RES.out,hpj])
           clear cz0 czj CI B3 NX hb4 hbz
           go_wp2
           go_roundw
           case rel => exact ⟨j + 1,by omega,by omega,by go_num,HB4.out,R.out⟩
           case measure => simp [intOf];omega
         ·have hji:¬ (j:Int) < (xs.length:Int):=by omega
          have R:Hid _:=GOOD.out (fun y hy h1 => hpl y hy h1 (by omega)) wr hbz
          clear hpl BAD3 GOOD hbz
          go_wp2
          go_ret2
          exact R.out
       ·have BAD3:Hid (∀ i (hi:i < xs.length),1 ≤ i→wordOk ([108,105,115,116]:Str) i xs[i] = false→∀ W,Below w1.heap.size w1 W→CheckOut w q (.returned (.tuple #[.slice none 0 0,.int .i64 (3:Nat)])) W):=fun i hi h1 h W hb => BADR.out 3 W (by rw [CK2.out];exact PB.out i hi h1 h) (by omega) hb
        have GOOD:Hid ((∀ i (hi:i < xs.length),1 ≤ i→wordOk ([108,105,115,116]:Str) i xs[i] = true)→∀ W,Below w1.heap.size w1 W→CheckOut w q (.returned (.tuple #[.slice (some ⟨g1,0,none⟩) xs.length cap1,.int .i64 0])) W):=fun h W hb => OKR.out W (by rw [CK2.out];exact PG.out h) hb
        clear BADR OKR PB PG CK2
        go_wp2
        go_loopw [7] (fun i wz => ∃ j:Nat,1 ≤ j∧j ≤ xs.length∧i = .int .i64 j∧Below w1.heap.size w1 wz∧∀ y (hy:y < xs.length),1 ≤ y→y < j→wordOk ([108,105,115,116]:Str) y xs[y] = true) (fun i _ => xs.length - (intOf i).toNat)
        case atStart => exact ⟨1,Nat.le_refl _,by omega,rfl,Below.refl _ _,fun y _ h1 h2 => by omega⟩
        case round =>
         obtain ⟨j,hj1,hjl,rfl,hbz,hpl⟩:=hrel
         by_cases hjx:j < xs.length
         ·have hji:(j:Int) < (xs.length:Int):=by omega
          have cz0:wr.cell? ⟨g1,0,none⟩ = some (SV ([108,105,115,116]:Str)):=(hbz.cell (p:=⟨g1,0,none⟩) hg1).trans c0
          have czj:wr.cell? ⟨g1,j,none⟩ = some (SV xs[j]):=HC.out wr hbz j hjx
          have NX:Hid (wordOk ([108,105,115,116]:Str) j xs[j] = true→∀ y (hy:y < xs.length),1 ≤ y→y < j + 1→wordOk ([108,105,115,116]:Str) y xs[y] = true):=fun h y hy h1 h2 => by
           by_cases e:y = j
           ·subst e;exact h
           ·exact hpl y hy h1 (by omega)
          have B3:Hid _:=BAD3.out j hjx hj1
          have hxl:=hpc.out _ (List.getElem_mem hjx)
          have CI:=isPlace_any xs[j] wr (by unfold maxLen;omega)
          have HBZ:Hid (Below w1.heap.size w1 wr):=hbz
          clear hpl BAD3 GOOD c0
          have RES:Hid (wordOk ([108,105,115,116]:Str) j xs[j] = isPlaceL xs[j]):=by unfold wordOk;rw [Hid,if_neg (by simp [kFirst])]
          cases hpj:isPlaceL xs[j]
          ·rw [hpj] at CI
           go_wp2_with fail
           refine CI.mono ?_
           rintro e w4 ⟨rfl,hb4⟩
           have cz4:=(hb4.cell (p:=⟨g1,0,none⟩) (by have:=HBZ.out.size;simp only;omega)).trans cz0
           have R:Hid _:=B3.out (by rw [RES.out,hpj]) w4 (HBZ.out.trans (hb4.mono HBZ.out.size))
           clear cz0 czj CI B3 NX hb4 hbz
           go_wp2
           go_ret2
           exact R.out
          ·rw [hpj] at CI
           go_wp2_with fail
           refine CI.mono ?_
           rintro e w4 ⟨rfl,hb4⟩
           have cz4:=(hb4.cell (p:=⟨g1,0,none⟩) (by have:=HBZ.out.size;simp only;omega)).trans cz0
           have HB4:Hid (Below w1.heap.size w1 w4):=HBZ.out.trans (hb4.mono HBZ.out.size)
           have R:Hid _:=NX.out (by rw [RES.out,hpj])
           clear cz0 czj CI B3 NX hb4 hbz
           go_wp2
           go_roundw
           case rel => exact ⟨j + 1,by omega,by omega,by go_num,HB4.out,R.out⟩
           case measure => simp [intOf];omega
         ·have hji:¬ (j:Int) < (xs.length:Int):=by omega
          have R:Hid _:=GOOD.out (fun y hy h1 => hpl y hy h1 (by omega)) wr hbz
          clear hpl BAD3 GOOD hbz
          go_wp2
          go_ret2
          exact R.out
       ·have BAD3:Hid (∀ i (hi:i < xs.length),1 ≤ i→wordOk ([114,101,97,100]:Str) i xs[i] = false→∀ W,Below w1.heap.size w1 W→CheckOut w q (.returned (.tuple #[.slice none 0 0,.int .i64 (3:Nat)])) W):=fun i hi h1 h W hb => BADR.out 3 W (by rw [CK2.out];exact PB.out i hi h1 h) (by omega) hb
        have GOOD:Hid ((∀ i (hi:i < xs.length),1 ≤ i→wordOk ([114,101,97,100]:Str) i xs[i] = true)→∀ W,Below w1.heap.size w1 W→CheckOut w q (.returned (.tuple #[.slice (some ⟨g1,0,none⟩) xs.length cap1,.int .i64 0])) W):=fun h W hb => OKR.out W (by rw [CK2.out];exact PG.out h) hb
        clear BADR OKR PB PG CK2
        go_wp2
        go_loopw [7] (fun i wz => ∃ j:Nat,1 ≤ j∧j ≤ xs.length∧i = .int .i64 j∧Below w1.heap.size w1 wz∧∀ y (hy:y < xs.length),1 ≤ y→y < j→wordOk ([114,101,97,100]:Str) y xs[y] = true) (fun i _ => xs.length - (intOf i).toNat)
        case atStart => exact ⟨1,Nat.le_refl _,by omega,rfl,Below.refl _ _,fun y _ h1 h2 => by omega⟩
        case round =>
         obtain ⟨j,hj1,hjl,rfl,hbz,hpl⟩:=hrel
         by_cases hjx:j < xs.length
         ·have hji:(j:Int) < (xs.length:Int):=by omega
          have cz0:wr.cell? ⟨g1,0,none⟩ = some (SV ([114,101,97,100]:Str)):=(hbz.cell (p:=⟨g1,0,none⟩) hg1).trans c0
          have czj:wr.cell? ⟨g1,j,none⟩ = some (SV xs[j]):=HC.out wr hbz j hjx
          have NX:Hid (wordOk ([114,101,97,100]:Str) j xs[j] = true→∀ y (hy:y < xs.length),1 ≤ y→y < j + 1→wordOk ([114,101,97,100]:Str) y xs[y] = true):=fun h y hy h1 h2 => by
           by_cases e:y = j
           ·subst e;exact h
           ·exact hpl y hy h1 (by omega)
          have B3:Hid _:=BAD3.out j hjx hj1
          have hxl:=hpc.out _ (List.getElem_mem hjx)
          have CI:=isPlace_any xs[j] wr (by unfold maxLen;omega)
          have HBZ:Hid (Below w1.heap.size w1 wr):=hbz
          clear hpl BAD3 GOOD c0
          have RES:Hid (wordOk ([114,101,97,100]:Str) j xs[j] = isPlaceL xs[j]):=by unfold wordOk;rw [Hid,if_neg (by simp [kFirst])]
          cases hpj:isPlaceL xs[j]
          ·rw [hpj] at CI
           go_wp2_with fail
           refine CI.mono ?_
           rintro e w4 ⟨rfl,hb4⟩
           have cz4:=(hb4.cell (p:=⟨g1,0,none⟩) (by have:=HBZ.out.size;simp only;omega)).trans cz0
           have R:Hid _:=B3.out (by rw [RES.out,hpj]) w4 (HBZ.out.trans (hb4.mono HBZ.out.size))
           clear cz0 czj CI B3 NX hb4 hbz
           go_wp2
           go_ret2
           exact R.out
          ·rw [hpj] at CI
           go_wp2_with fail
           refine CI.mono ?_
           rintro e w4 ⟨rfl,hb4⟩
           have cz4:=(hb4.cell (p:=⟨g1,0,none⟩) (by have:=HBZ.out.size;simp only;omega)).trans cz0
           have HB4:Hid (Below w1.heap.size w1 w4):=HBZ.out.trans (hb4.mono HBZ.out.size)
           have R:Hid _:=NX.out (by rw [RES.out,hpj])
           clear cz0 czj CI B3 NX hb4 hbz
           go_wp2
           go_roundw
           case rel => exact ⟨j + 1,by omega,by omega,by go_num,HB4.out,R.out⟩
           case measure => simp [intOf];omega
         ·have hji:¬ (j:Int) < (xs.length:Int):=by omega
          have R:Hid _:=GOOD.out (fun y hy h1 => hpl y hy h1 (by omega)) wr hbz
          clear hpl BAD3 GOOD hbz
          go_wp2
          go_ret2
          exact R.out
      ·have R:Hid _:=BADR.out 10 w1 (by
        have:=CK.out
        rw [kG',kF',kE',if_neg (by simp),if_neg (by simp),if_pos rfl,if_neg h2] at this
        exact this) (by omega) (Below.refl _ _)
       have h2i:¬ (xs.length:Int) = 2:=by omega
       clear hcell1 CK h2 BADR OKR kG kG' kF kF' kE'
       rcases kE with rfl | rfl | rfl
       all_goals
        go_wp2
        go_ret2
        exact R.out
     ·have n1:(x0 == [101,120,105,115,116,115]) = false:=by simp;exact fun h => kE (.inl h)
      have n2:(x0 == [108,105,115,116]) = false:=by simp;exact fun h => kE (.inr (.inl h))
      have n3:(x0 == [114,101,97,100]) = false:=by simp;exact fun h => kE (.inr (.inr h))
      have n4:(x0 == [103,108,111,98]) = false:=kG'
      have n5:(x0 == [102,105,114,115,116]) = false:=kF'
      have R:Hid _:=BADR.out 10 w1 (by
       have:=CK.out
       rw [kG',kF',show (x0 == kExists || x0 == kList || x0 == kRead) = false by rw [show (x0 == kExists) = false from n1,show (x0 == kList) = false from n2,show (x0 == kRead) = false from n3];rfl,if_neg (by simp),if_neg (by simp),if_neg (by simp)] at this
       exact this) (by omega) (Below.refl _ _)
      clear hcell1 CK BADR OKR kG kG' kF kF' kE
      go_wp2
      go_ret2
      exact R.out

open Go.RowKit
def labelL (p:Str):Str:=if 1 < (splitL 47 p).length then (splitL 47 p).headD [] ++ [47] else (splitL 47 p).headD []
def sepI (i:Nat):Str:=if i = 0 then [] else [32]
def listStep (i:Nat) (st:Str × Str) (f:Fl):Str × Str:=if labelL f.1 == st.2 then st else (st.1 ++ (sepI i ++ labelL f.1),labelL f.1)
def listF:Nat→Str × Str→List Fl→Str × Str
 | _,st,[] => st
 | i,st,f :: l => listF (i + 1) (listStep i st f) l
def listedL (l:List Fl):Str:=(listF 0 ([58],[]) l).1
theorem listF_app (i:Nat) (st:Str × Str) (l m:List Fl):listF i st (l ++ m) = listF (i + l.length) (listF i st l) m:=by
 induction l generalizing i st with
 | nil => simp [listF]
 | cons f l ih => rw [List.cons_append,listF,ih,listF,List.length_cons,Nat.add_assoc,Nat.add_comm 1]
theorem listF_take {l:List Fl} {k:Nat} (hk:k < l.length):listF 0 ([58],[]) (l.take (k + 1)) = listStep k (listF 0 ([58],[]) (l.take k)) l[k]:=by
 rw [List.take_succ_eq_append_getElem hk,listF_app,listF,listF,List.length_take,Nat.min_eq_left (by omega),Nat.zero_add]
theorem labelL_len (p:Str):(labelL p).length ≤ p.length + 1:=by
 unfold labelL
 have h:((splitL 47 p).headD []).length ≤ p.length:=by
  cases h:splitL 47 p with
  | nil => exact absurd h (splitL_ne 47 p)
  | cons x r => exact splitL_piece 47 p x (by rw [h];simp)
 split
 ·rw [List.length_append,List.length_singleton];omega
 ·omega
theorem listF_len {l:List Fl} (hs:∀ f ∈ l,f.1.length ≤ 1000) (k:Nat):(listF 0 ([58],[]) (l.take k)).1.length ≤ 1 + 1002 * k∧(listF 0 ([58],[]) (l.take k)).2.length ≤ 1001:=by
 induction k with
 | zero => simp [listF]
 | succ k ih =>
  by_cases hk:k < l.length
  ·rw [listF_take hk]
   have h1:=labelL_len l[k].1
   have h2:=hs l[k] (List.getElem_mem hk)
   unfold listStep
   split
   ·exact ⟨by omega,ih.2⟩
   ·simp only [List.length_append]
    refine ⟨?_,by omega⟩
    have:(sepI k).length ≤ 1:=by unfold sepI;split <;> simp
    omega
  ·rw [List.take_of_length_le (by omega)] at *;exact ⟨by omega,ih.2⟩
def noT:Str:=[110,111]
def fileT:Str:=[102,105,108,101]
def dirT:Str:=[100,105,114,101,99,116,111,114,121]
def inDir (d x:Str):Str:=if d == [47] then x else d ++ 47 :: x
def globL (l:List Fl) (p:Str):Str:=l.flatMap fun f => if fitsL p f.1 then f.1 ++ [10] else []
def firstL (l:List Fl) (x:Str):List Str→Str
 | [] => noT
 | d :: ds => if 0 ≤ getI l (inDir d x) then inDir d x else firstL l x ds
def kindL (l:List Fl) (p:Str):Str:=if 0 ≤ getI l p then fileT else if isDirL l p then dirT else noT
def readL (l:List Fl) (p:Str):Str:=if 0 ≤ getI l p then 61 :: dataAt l (getI l p) else noT
def listL (l:List Fl) (p:Str):Str:=if isDirL l p then listedL (inL l p) else noT
def answerL (l:List Fl) (xs:List Str):Str :=
 if xs.headD [] == kExists then kindL l (xs.getD 1 [])
 else if xs.headD [] == kList then listL l (xs.getD 1 [])
 else if xs.headD [] == kRead then readL l (xs.getD 1 [])
 else if xs.headD [] == kGlob then globL l (xs.getD 1 [])
 else if xs.headD [] == kFirst then firstL l (xs.getD 1 []) (xs.drop 2)
 else noT
def askR (r:RSt) (n:Int) (q:Str):Str × Nat :=
 match findL r.all n with
 | none => ([],2)
 | some l => if checkL q = 0 then (answerL l (splitL 32 q),0) else ([],checkL q)

open Go.RowKit
theorem headD_get {xs:List Str} (h:0 < xs.length):xs.headD [] = xs[0]:=by
 cases xs with
 | nil => simp at h
 | cons x r => rfl
theorem label_one {p:Str} (h:¬ 1 < (splitL 47 p).length):labelL p = (splitL 47 p).headD []:=by unfold labelL;rw [if_neg h]
theorem label_more {p:Str} (h:1 < (splitL 47 p).length):labelL p = (splitL 47 p).headD [] ++ [47]:=by unfold labelL;rw [if_pos h]
theorem step_same {i:Nat} {s t:Str} {f:Fl} (h:(labelL f.1 == t) = true):listStep i (s,t) f = (s,t):=by unfold listStep;rw [if_pos h]
theorem step_first {s t:Str} {f:Fl} (h:(labelL f.1 == t) = false):listStep 0 (s,t) f = (s ++ labelL f.1,labelL f.1):=by unfold listStep;rw [if_neg (by simp only at h ⊢;rw [h];simp)];simp [sepI]
theorem step_next {i:Nat} {s t:Str} {f:Fl} (hi:i ≠ 0) (h:(labelL f.1 == t) = false):listStep i (s,t) f = (s ++ [32] ++ labelL f.1,labelL f.1):=by unfold listStep;rw [if_neg (by simp only at h ⊢;rw [h];simp)];simp [sepI,hi]
set_option maxHeartbeats 4000000 in
set_option maxRecDepth 50000 in
theorem listed_any (l:List Fl) (v:Value) (w:World) (hl:FilesAt w v l) (hs:Small l) :
  Calls Tryz.prog 167 #[v] w fun e w' => e = .returned (SV (listedL l))∧Below w.heap.size w w':=by
 have hap:=app_list
 have hc:(UInt8.toNat 47:Int) = 47:=rfl
 have hnl:=hs.1
 obtain ⟨a1,c1,rfl,hm1,hc1,hv1⟩:=files_view hl
 have HS:Hid _:=hs.2
 have HLN:Hid (∀ k,(listF 0 ([58],[]) (l.take k)).1.length ≤ 1 + 1002 * k∧(listF 0 ([58],[]) (l.take k)).2.length ≤ 1001):=fun k => listF_len (fun f hf => (hs.2 f hf).1) k
 have HE:Hid (listedL l = (listF 0 ([58],[]) (l.take l.length)).1):=by rw [Hid,List.take_length];rfl
 clear hl hs
 go_enter Tryz.func167,Tryz.ntmps167
 go_wp2
 go_loopw [3,4,5] (fun s t i wr => ∃ k:Nat,k ≤ l.length∧i = .int .i64 k∧s = SV (listF 0 ([58],[]) (l.take k)).1∧t = SV (listF 0 ([58],[]) (l.take k)).2∧Below w.heap.size w wr) (fun _ _ i _ => l.length - (intOf i).toNat)
 case atStart => exact ⟨0,Nat.zero_le _,rfl,rfl,rfl,Below.refl _ _⟩
 case round =>
  obtain ⟨k,hk,rfl,rfl,rfl,hbel⟩:=hrel
  by_cases hlt:k < l.length
  ·obtain ⟨g,rfl,hg,hpc,_⟩:=hv1 k hlt
   have hkl:=(HS.out l[k] (List.getElem_mem hlt)).1
   have hpk:wr.cell? ⟨g,k * 2,none⟩ = some (SV l[k].1):=(hbel.cell (p:=⟨g,k * 2,none⟩) hg).trans hpc
   have HT:Hid _:=listF_take hlt
   obtain ⟨hln1,hln2⟩:=HLN.out k
   generalize listF 0 ([58],[]) (l.take k) = st at *
   obtain ⟨s,t⟩:=st
   simp only at hln1 hln2
   have hi:(k:Int) < (l.length:Int):=by omega
   have hne1:=splitL_ne 47 l[k].1
   have hpc1:=splitL_piece 47 l[k].1
   have L1:=label_one (p:=l[k].1)
   have L2:=label_more (p:=l[k].1)
   have S1:Hid ((labelL l[k].1 == t) = true→listF 0 ([58],[]) (l.take (k + 1)) = (s,t)):=fun h => by rw [HT.out];exact step_same h
   have S2:Hid (k = 0→(labelL l[k].1 == t) = false→listF 0 ([58],[]) (l.take (k + 1)) = (s ++ labelL l[k].1,labelL l[k].1)):=fun h0 h => by rw [HT.out];subst h0;exact step_first h
   have S3:Hid (k ≠ 0→(labelL l[k].1 == t) = false→listF 0 ([58],[]) (l.take (k + 1)) = (s ++ [32] ++ labelL l[k].1,labelL l[k].1)):=fun h0 h => by rw [HT.out];exact step_next h0 h
   clear HT hpc
   go_wp2_with fail
   refine (split_any l[k].1 47 _ (by omega)).mono ?_
   rintro e w1 ⟨v1,rfl,hown1,hb1⟩
   rcases strs_cells hown1 with ⟨rfl,h0,h2⟩ | ⟨g1,cap1,rfl,hn1,hg1,hgb1,hcap1,hmx1,hcell1⟩
   ·exact absurd h2 hne1
   have HB:Hid (Below w.heap.size w w1):=hbel.trans (hb1.mono hbel.size)
   clear hown1 hb1 hbel hpk hn1 hgb1
   generalize labelL l[k].1 = lab at *
   generalize splitL 47 l[k].1 = xs at *
   unfold maxLen at hmx1
   have h0l:0 < xs.length:=List.length_pos_iff.2 hne1
   have c0:=hcell1 0 h0l
   rw [headD_get h0l] at L1 L2
   have hx0:=hpc1 _ (List.getElem_mem h0l)
   clear hcell1 hpc1
   by_cases h1:1 < xs.length
   ·have e1:=L2 h1
    have h1i:(1:Int) < (xs.length:Int):=by omega
    clear L1 L2
    generalize xs[0] = x0 at *
    subst e1
    cases he:(x0 ++ [47] == t)
    ·by_cases hk0:k = 0
     ·have R:Hid _:=S2.out hk0 he
      have hki:¬ (0:Int) < (k:Int):=by omega
      clear S1 S2 S3
      go_wp2
      go_roundw
      case rel => exact ⟨k + 1,by omega,by first | go_num | simp [hk0],by rw [R.out] <;> simp,by rw [R.out] <;> simp,HB.out⟩
      case measure => simp [intOf];omega
     ·have R:Hid _:=S3.out hk0 he
      have hki:(0:Int) < (k:Int):=by omega
      clear S1 S2 S3
      go_wp2
      go_roundw
      case rel => exact ⟨k + 1,by omega,by first | go_num | simp [hk0],by rw [R.out] <;> simp,by rw [R.out] <;> simp,HB.out⟩
      case measure => simp [intOf];omega
    ·have R:Hid _:=S1.out he
     clear S1 S2 S3
     go_wp2
     go_roundw
     case rel => exact ⟨k + 1,by omega,by first | go_num | simp [hk0],by rw [R.out] <;> simp,by rw [R.out] <;> simp,HB.out⟩
     case measure => simp [intOf];omega
   ·have e1:=L1 h1
    have h1i:¬ (1:Int) < (xs.length:Int):=by omega
    clear L1 L2
    generalize xs[0] = x0 at *
    subst e1
    cases he:(lab == t)
    ·by_cases hk0:k = 0
     ·have R:Hid _:=S2.out hk0 he
      have hki:¬ (0:Int) < (k:Int):=by omega
      clear S1 S2 S3
      go_wp2
      go_roundw
      case rel => exact ⟨k + 1,by omega,by first | go_num | simp [hk0],by rw [R.out] <;> simp,by rw [R.out] <;> simp,HB.out⟩
      case measure => simp [intOf];omega
     ·have R:Hid _:=S3.out hk0 he
      have hki:(0:Int) < (k:Int):=by omega
      clear S1 S2 S3
      go_wp2
      go_roundw
      case rel => exact ⟨k + 1,by omega,by first | go_num | simp [hk0],by rw [R.out] <;> simp,by rw [R.out] <;> simp,HB.out⟩
      case measure => simp [intOf];omega
    ·have R:Hid _:=S1.out he
     clear S1 S2 S3
     go_wp2
     go_roundw
     case rel => exact ⟨k + 1,by omega,by first | go_num | simp [hk0],by rw [R.out] <;> simp,by rw [R.out] <;> simp,HB.out⟩
     case measure => simp [intOf];omega
  ·have hke:k = l.length:=by omega
   have HB:Hid (Below w.heap.size w wr):=hbel
   have R:Hid (SV (listF 0 ([58],[]) (l.take k)).1 = SV (listedL l)):=by rw [Hid,HE.out,hke]
   have hi:¬ (k:Int) < (l.length:Int):=by omega
   clear hbel HE HLN hke
   generalize listF 0 ([58],[]) (l.take k) = st at *
   go_wp2
   go_ret
   exact ⟨congrArg Ending.returned R.out,HB.out⟩

open Go.RowKit
theorem answerL_exists {l:List Fl} {xs:List Str} {p:Str} (h:xs.headD [] = kExists) (hp:xs.getD 1 [] = p):answerL l xs = kindL l p:=by
 unfold answerL;rw [h,hp,if_pos (by rfl)]
theorem answerL_list {l:List Fl} {xs:List Str} {p:Str} (h:xs.headD [] = kList) (hp:xs.getD 1 [] = p):answerL l xs = listL l p:=by
 unfold answerL;rw [h,hp,if_neg (by decide),if_pos (by rfl)]
theorem answerL_read {l:List Fl} {xs:List Str} {p:Str} (h:xs.headD [] = kRead) (hp:xs.getD 1 [] = p):answerL l xs = readL l p:=by
 unfold answerL;rw [h,hp,if_neg (by decide),if_neg (by decide),if_pos (by rfl)]
theorem answerL_glob {l:List Fl} {xs:List Str} {p:Str} (h:xs.headD [] = kGlob) (hp:xs.getD 1 [] = p):answerL l xs = globL l p:=by
 unfold answerL;rw [h,hp,if_neg (by decide),if_neg (by decide),if_neg (by decide),if_pos (by rfl)]
theorem answerL_first {l:List Fl} {xs:List Str} {p:Str} (h:xs.headD [] = kFirst) (hp:xs.getD 1 [] = p):answerL l xs = firstL l p (xs.drop 2):=by
 unfold answerL;rw [h,hp,if_neg (by decide),if_neg (by decide),if_neg (by decide),if_neg (by decide),if_pos (by rfl)]
theorem glob_take {l:List Fl} {p:Str} {k:Nat} (hk:k < l.length):globL (l.take (k + 1)) p = globL (l.take k) p ++ (if fitsL p l[k].1 then l[k].1 ++ [10] else []):=by
 unfold globL;rw [List.take_succ_eq_append_getElem hk,List.flatMap_append];simp
theorem glob_len {l:List Fl} {p:Str} (hs:∀ f ∈ l,f.1.length ≤ 100) (k:Nat):(globL (l.take k) p).length ≤ 101 * k:=by
 induction k with
 | zero => simp [globL]
 | succ k ih =>
  by_cases hk:k < l.length
  ·rw [glob_take hk,List.length_append]
   have:=hs l[k] (List.getElem_mem hk)
   split
   ·rw [List.length_append,List.length_singleton];omega
   ·simp;omega
  ·rw [List.take_of_length_le (by omega)] at *;omega
theorem first_hit {l:List Fl} {x:Str} {xs:List Str} {k:Nat} (hk:k < xs.length) (h:0 ≤ getI l (inDir xs[k] x)):firstL l x (xs.drop k) = inDir xs[k] x:=by
 rw [List.drop_eq_getElem_cons hk,firstL,if_pos h]
theorem first_miss {l:List Fl} {x:Str} {xs:List Str} {k:Nat} (hk:k < xs.length) (h:¬ 0 ≤ getI l (inDir xs[k] x)):firstL l x (xs.drop k) = firstL l x (xs.drop (k + 1)):=by
 rw [List.drop_eq_getElem_cons hk,firstL,if_neg h]
theorem inL_small {l:List Fl} {d:Str} (h:Small l):Small (inL l d):=by
 refine ⟨?_,?_⟩
 ·have:=flatMap_len (l:=l) (f:=fun f => if (belowL f.1 d).isEmpty then [] else [(belowL f.1 d,f.2)]) (fun x => by split <;> simp) l.length
  rw [List.take_length] at this
  have h1:=h.1
  unfold inL;omega
 ·intro f hf
  unfold inL at hf
  rw [List.mem_flatMap] at hf
  obtain ⟨g,hg,hf⟩:=hf
  split at hf
  ·simp at hf
  ·simp at hf;subst hf
   have h1:=h.2 g hg
   have h2:=belowL_len g.1 d
   exact ⟨by simp only;omega,h1.2⟩
structure AnsAt (w:World) (v:Value) (g cap:Nat) (l:List Fl) (xs:List Str):Prop where
 files:FilesAt w v l
 small:Tiny l
 cells:∀ k (h:k < xs.length),w.cell? ⟨g,k,none⟩ = some (SV xs[k])
 lt:g < w.heap.size
 cap:xs.length ≤ cap∧cap ≤ maxLen
 two:2 ≤ xs.length
 few:xs.length ≤ 1000
 short:∀ x ∈ xs,x.length ≤ 60
theorem AnsAt.below {w W:World} {v:Value} {g cap:Nat} {l:List Fl} {xs:List Str} (h:AnsAt w v g cap l xs) (hb:Below w.heap.size w W):AnsAt W v g cap l xs :=
 ⟨files_below h.files hb (Nat.le_refl _),h.small,fun k hk => (hb.cell (p:=⟨g,k,none⟩) h.lt).trans (h.cells k hk),Nat.lt_of_lt_of_le h.lt hb.size,h.cap,h.two,h.few,h.short⟩
set_option maxHeartbeats 4000000 in
set_option maxRecDepth 50000 in
theorem answer_exists (l:List Fl) (v:Value) (g cap:Nat) (xs:List Str) (w:World) (hA:AnsAt w v g cap l xs) (h0:xs.headD [] = kExists) :
  Calls Tryz.prog 140 #[v,.slice (some ⟨g,0,none⟩) xs.length cap] w fun e w' => e = .returned (SV (answerL l xs))∧Below w.heap.size w w':=by
 obtain ⟨x0,x1,r,rfl⟩ : ∃ x0 x1 r,xs = x0 :: x1 :: r:=by
  match xs,hA.two with
  | x0 :: x1 :: r,_ => exact ⟨x0,x1,r,rfl⟩
 obtain rfl:x0 = kExists:=h0
 have c1:w.cell? ⟨g,1,none⟩ = some (SV x1):=hA.cells 1 (by simp)
 have hl1:=hA.short x1 (by simp)
 have HR:Hid (answerL l (kExists :: x1 :: r) = _):=answerL_exists (l:=l) (xs:=kExists :: x1 :: r) (p:=x1) rfl rfl
 have HA:Hid _:=hA
 have hfew:=hA.few
 have hcap:=hA.cap
 unfold maxLen at hcap
 simp only [List.length_cons] at hfew hcap ⊢
 clear hA
 go_enter Tryz.func140,Tryz.ntmps140
 go_wp2_with fail
 refine (get_any l v x1 _ HA.out.files).mono ?_
 rintro e w ⟨rfl,rfl⟩
 go_wp2_with fail
 refine (isDir_any l v x1 _ HA.out.files HA.out.small.small (by unfold maxLen;omega)).mono ?_
 rintro e w2 ⟨rfl,hb2⟩
 have c0:w2.cell? ⟨g,0,none⟩ = some (SV [101,120,105,115,116,115]):=(HA.out.below hb2).cells 0 (by simp)
 have HB:Hid _:=hb2
 clear c1 hb2 HA
 by_cases hf:0 ≤ getI l x1
 ·have R:Hid (answerL l (kExists :: x1 :: r) = fileT):=by rw [Hid,HR.out,kindL,if_pos hf]
  generalize getI l x1 = gi at *
  go_wp2
  go_ret
  exact ⟨by rw [R.out];rfl,HB.out⟩
 ·cases hd:isDirL l x1
  ·have R:Hid (answerL l (kExists :: x1 :: r) = noT):=by rw [Hid,HR.out,kindL,if_neg hf,hd];rfl
   generalize getI l x1 = gi at *
   go_wp2
   go_ret
   exact ⟨by rw [R.out];rfl,HB.out⟩
  ·have R:Hid (answerL l (kExists :: x1 :: r) = dirT):=by rw [Hid,HR.out,kindL,if_neg hf,hd];rfl
   generalize getI l x1 = gi at *
   go_wp2
   go_ret
   exact ⟨by rw [R.out];rfl,HB.out⟩
set_option maxHeartbeats 4000000 in
set_option maxRecDepth 50000 in
theorem answer_list (l:List Fl) (v:Value) (g cap:Nat) (xs:List Str) (w:World) (hA:AnsAt w v g cap l xs) (h0:xs.headD [] = kList) :
  Calls Tryz.prog 140 #[v,.slice (some ⟨g,0,none⟩) xs.length cap] w fun e w' => e = .returned (SV (answerL l xs))∧Below w.heap.size w w':=by
 obtain ⟨x0,x1,r,rfl⟩ : ∃ x0 x1 r,xs = x0 :: x1 :: r:=by
  match xs,hA.two with
  | x0 :: x1 :: r,_ => exact ⟨x0,x1,r,rfl⟩
 obtain rfl:x0 = kList:=h0
 have c1:w.cell? ⟨g,1,none⟩ = some (SV x1):=hA.cells 1 (by simp)
 have hl1:=hA.short x1 (by simp)
 have HR:Hid (answerL l (kList :: x1 :: r) = _):=answerL_list (l:=l) (xs:=kList :: x1 :: r) (p:=x1) rfl rfl
 have HA:Hid _:=hA
 have hfew:=hA.few
 have hcap:=hA.cap
 unfold maxLen at hcap
 simp only [List.length_cons] at hfew hcap ⊢
 clear hA
 go_enter Tryz.func140,Tryz.ntmps140
 go_wp2_with fail
 refine (get_any l v x1 _ HA.out.files).mono ?_
 rintro e w ⟨rfl,rfl⟩
 go_wp2_with fail
 refine (isDir_any l v x1 _ HA.out.files HA.out.small.small (by unfold maxLen;omega)).mono ?_
 rintro e w2 ⟨rfl,hb2⟩
 have HA2:Hid _:=HA.out.below hb2
 have c0:w2.cell? ⟨g,0,none⟩ = some (SV [108,105,115,116]):=HA2.out.cells 0 (by simp)
 have HB:Hid _:=hb2
 clear c1 hb2 HA
 generalize getI l x1 = gi at *
 cases hd:isDirL l x1
 ·have R:Hid (answerL l (kList :: x1 :: r) = noT):=by rw [Hid,HR.out,listL,hd];rfl
  go_wp2
  go_ret
  exact ⟨by rw [R.out];rfl,HB.out⟩
 ·have R:Hid (answerL l (kList :: x1 :: r) = listedL (inL l x1)):=by rw [Hid,HR.out,listL,hd];rfl
  go_wp2_with fail
  refine (in_any l v x1 _ HA2.out.files HA2.out.small.small (by unfold maxLen;omega)).mono ?_
  rintro e w3 ⟨v3,rfl,hown3,hb3⟩
  have hF3:FilesAt w3 v3 (inL l x1):=ownsRow_le hown3 (Nat.zero_le _)
  have hS3:Small (inL l x1):=inL_small HA2.out.small.small
  clear hown3
  go_wp2_with fail
  refine (listed_any (inL l x1) v3 _ hF3 hS3).mono ?_
  rintro e w4 ⟨rfl,hb4⟩
  have HB4:Hid (Below w.heap.size w w4):=(HB.out.trans (hb3.mono HB.out.size)).trans (hb4.mono (Nat.le_trans HB.out.size hb3.size))
  clear hb3 hb4 hF3 hS3 c0
  go_wp2
  go_ret
  exact ⟨congrArg (fun s => Ending.returned (SV s)) R.out.symm,HB4.out⟩
set_option maxHeartbeats 4000000 in
set_option maxRecDepth 50000 in
theorem answer_read (l:List Fl) (v:Value) (g cap:Nat) (xs:List Str) (w:World) (hA:AnsAt w v g cap l xs) (h0:xs.headD [] = kRead) :
  Calls Tryz.prog 140 #[v,.slice (some ⟨g,0,none⟩) xs.length cap] w fun e w' => e = .returned (SV (answerL l xs))∧Below w.heap.size w w':=by
 have hap:=app_list
 obtain ⟨x0,x1,r,rfl⟩ : ∃ x0 x1 r,xs = x0 :: x1 :: r:=by
  match xs,hA.two with
  | x0 :: x1 :: r,_ => exact ⟨x0,x1,r,rfl⟩
 obtain rfl:x0 = kRead:=h0
 have c1:w.cell? ⟨g,1,none⟩ = some (SV x1):=hA.cells 1 (by simp)
 have hl1:=hA.short x1 (by simp)
 have HR:Hid (answerL l (kRead :: x1 :: r) = _):=answerL_read (l:=l) (xs:=kRead :: x1 :: r) (p:=x1) rfl rfl
 have HA:Hid _:=hA
 have hfew:=hA.few
 have hcap:=hA.cap
 unfold maxLen at hcap
 simp only [List.length_cons] at hfew hcap ⊢
 clear hA
 go_enter Tryz.func140,Tryz.ntmps140
 go_wp2_with fail
 refine (get_any l v x1 _ HA.out.files).mono ?_
 rintro e w ⟨rfl,rfl⟩
 go_wp2_with fail
 refine (isDir_any l v x1 _ HA.out.files HA.out.small.small (by unfold maxLen;omega)).mono ?_
 rintro e w2 ⟨rfl,hb2⟩
 have HA2:Hid _:=HA.out.below hb2
 have c0:w2.cell? ⟨g,0,none⟩ = some (SV [114,101,97,100]):=HA2.out.cells 0 (by simp)
 have HB:Hid _:=hb2
 clear c1 hb2 HA
 by_cases hf:0 ≤ getI l x1
 ·obtain ⟨k,hk,hkl⟩:=getI_lt hf
  have R:Hid (answerL l (kRead :: x1 :: r) = [61] ++ l[k].2):=by rw [Hid,HR.out,readL,if_pos hf,hk,dataAt,Int.toNat_natCast,List.getElem?_eq_getElem hkl];rfl
  obtain ⟨a1,cp1,rfl,hm1,hc1,hv1⟩:=files_view HA2.out.files
  obtain ⟨g2,rfl,hg2,_,cd⟩:=hv1 k hkl
  have hdl:=(HA2.out.small.2 l[k] (List.getElem_mem hkl)).2
  have hki:(k:Int) < (l.length:Int):=by omega
  have hl20:=HA2.out.small.1
  rw [hk] at hf ⊢
  clear hv1 HA2 hk
  go_wp2
  go_ret
  exact ⟨congrArg (fun s => Ending.returned (SV s)) R.out.symm,HB.out⟩
 ·have R:Hid (answerL l (kRead :: x1 :: r) = noT):=by rw [Hid,HR.out,readL,if_neg hf]
  generalize getI l x1 = gi at *
  go_wp2
  go_ret
  exact ⟨by rw [R.out];rfl,HB.out⟩
set_option maxHeartbeats 8000000 in
set_option maxRecDepth 50000 in
theorem answer_glob (l:List Fl) (v:Value) (g cap:Nat) (xs:List Str) (w:World) (hA:AnsAt w v g cap l xs) (h0:xs.headD [] = kGlob) :
  Calls Tryz.prog 140 #[v,.slice (some ⟨g,0,none⟩) xs.length cap] w fun e w' => e = .returned (SV (answerL l xs))∧Below w.heap.size w w':=by
 have hap:=app_list
 obtain ⟨x0,x1,r,rfl⟩ : ∃ x0 x1 r,xs = x0 :: x1 :: r:=by
  match xs,hA.two with
  | x0 :: x1 :: r,_ => exact ⟨x0,x1,r,rfl⟩
 obtain rfl:x0 = kGlob:=h0
 have c1:w.cell? ⟨g,1,none⟩ = some (SV x1):=hA.cells 1 (by simp)
 have hl1:=hA.short x1 (by simp)
 have HR:Hid (answerL l (kGlob :: x1 :: r) = _):=answerL_glob (l:=l) (xs:=kGlob :: x1 :: r) (p:=x1) rfl rfl
 have HA:Hid _:=hA
 have hfew:=hA.few
 have hcap:=hA.cap
 unfold maxLen at hcap
 simp only [List.length_cons] at hfew hcap ⊢
 clear hA
 go_enter Tryz.func140,Tryz.ntmps140
 go_wp2_with fail
 refine (get_any l v x1 _ HA.out.files).mono ?_
 rintro e w ⟨rfl,rfl⟩
 go_wp2_with fail
 refine (isDir_any l v x1 _ HA.out.files HA.out.small.small (by unfold maxLen;omega)).mono ?_
 rintro e w2 ⟨rfl,hb2⟩
 have HA2:Hid _:=HA.out.below hb2
 have c0:w2.cell? ⟨g,0,none⟩ = some (SV [103,108,111,98]):=HA2.out.cells 0 (by simp)
 have HB:Hid _:=hb2
 clear c1 hb2 HA
 generalize getI l x1 = gi at *
 generalize isDirL l x1 = dd at *
 obtain ⟨a1,cp1,rfl,hm1,hc1,hv1⟩:=files_view HA2.out.files
 have HV:Hid _:=hv1
 have HT:Hid _:=HA2.out.small.2
 have hl20:=HA2.out.small.1
 clear HA2 hv1
 go_wp2
 go_loopw [8,9] (fun s i wz => ∃ k:Nat,k ≤ l.length∧i = .int .i64 k∧s = SV (globL (l.take k) x1)∧Below w2.heap.size w2 wz) (fun _ i _ => l.length - (intOf i).toNat)
 case atStart => exact ⟨0,Nat.zero_le _,rfl,rfl,Below.refl _ _⟩
 case round =>
  obtain ⟨k,hk,rfl,rfl,hbz⟩:=hrel
  clear c0
  by_cases hlt:k < l.length
  ·obtain ⟨g2,rfl,hg2,hpc,_⟩:=HV.out k hlt
   have hpk:wr.cell? ⟨g2,k * 2,none⟩ = some (SV l[k].1):=(hbz.cell (p:=⟨g2,k * 2,none⟩) hg2).trans hpc
   have hkl:=(HT.out l[k] (List.getElem_mem hlt)).1
   have hgl:=glob_len (p:=x1) (fun f hf => (HT.out f hf).1) k
   have HG:Hid _:=glob_take (p:=x1) hlt
   have hki:(k:Int) < (l.length:Int):=by omega
   have C:=fits_any x1 l[k].1 wr (by omega) (by omega)
   have HBZ:Hid _:=hbz
   clear hpc hbz
   generalize globL (l.take k) x1 = s at *
   cases hft:fitsL x1 l[k].1
   ·have R:Hid (globL (l.take (k + 1)) x1 = s):=by rw [Hid,HG.out,hft];simp
    rw [hft] at C
    clear HG
    go_wp2_with fail
    refine C.mono ?_
    rintro e w4 ⟨rfl,hb4⟩
    have HB4:Hid _:=HBZ.out.trans (hb4.mono HBZ.out.size)
    clear C hb4 hpk
    go_wp2
    go_roundw
    case rel => exact ⟨k + 1,by omega,by go_num,by rw [R.out] <;> simp,HB4.out⟩
    case measure => simp [intOf];omega
   ·have R:Hid (globL (l.take (k + 1)) x1 = s ++ l[k].1 ++ [10]):=by rw [Hid,HG.out,hft];simp
    rw [hft] at C
    clear HG
    go_wp2_with fail
    refine C.mono ?_
    rintro e w4 ⟨rfl,hb4⟩
    have hpk4:w4.cell? ⟨g2,k * 2,none⟩ = some (SV l[k].1):=(hb4.cell (p:=⟨g2,k * 2,none⟩) (by have:=HBZ.out.size;simp only;omega)).trans hpk
    have HB4:Hid _:=HBZ.out.trans (hb4.mono HBZ.out.size)
    clear C hb4 hpk
    go_wp2
    go_roundw
    case rel => exact ⟨k + 1,by omega,by go_num,by rw [R.out] <;> simp,HB4.out⟩
    case measure => simp [intOf];omega
  ·have R:Hid (SV (globL (l.take k) x1) = SV (answerL l (kGlob :: x1 :: r))):=by rw [Hid,HR.out,List.take_of_length_le (by omega)]
   have HBZ:Hid _:=hbz
   have hki:¬ (k:Int) < (l.length:Int):=by omega
   clear hbz
   generalize globL (l.take k) x1 = s at *
   go_wp2
   go_ret
   exact ⟨congrArg Ending.returned R.out,HB.out.trans (HBZ.out.mono HB.out.size)⟩

open Go.RowKit
set_option maxHeartbeats 8000000 in
set_option maxRecDepth 50000 in
theorem answer_first (l:List Fl) (v:Value) (g cap:Nat) (xs:List Str) (w:World) (hA:AnsAt w v g cap l xs) (h0:xs.headD [] = kFirst) :
  Calls Tryz.prog 140 #[v,.slice (some ⟨g,0,none⟩) xs.length cap] w fun e w' => e = .returned (SV (answerL l xs))∧Below w.heap.size w w':=by
 have hap:=app_list
 have h2:=hA.two
 have h1l:1 < xs.length:=by omega
 have h0l:0 < xs.length:=by omega
 have c1:=hA.cells 1 h1l
 have hl1:=hA.short xs[1] (List.getElem_mem h1l)
 have HR:Hid _:=answerL_first (l:=l) (p:=xs[1]) h0 (by simp [h1l])
 have hx0:xs[0] = [102,105,114,115,116]:=by
  rw [show ([102,105,114,115,116]:Str) = kFirst from rfl,← h0]
  cases xs with
  | nil => simp at h0l
  | cons x r => rfl
 have HA:Hid _:=hA
 have hfew:=hA.few
 have hcap:=hA.cap
 unfold maxLen at hcap
 clear hA h0
 go_enter Tryz.func140,Tryz.ntmps140
 go_wp2_with fail
 refine (get_any l v xs[1] _ HA.out.files).mono ?_
 rintro e w ⟨rfl,rfl⟩
 go_wp2_with fail
 refine (isDir_any l v xs[1] _ HA.out.files HA.out.small.small (by unfold maxLen;omega)).mono ?_
 rintro e w2 ⟨rfl,hb2⟩
 have HA2:Hid _:=HA.out.below hb2
 have c0:=HA2.out.cells 0 h0l
 rw [hx0] at c0
 have HB:Hid _:=hb2
 clear c1 hb2 HA hx0
 generalize getI l xs[1] = gi at *
 generalize isDirL l xs[1] = dd at *
 go_wp2
 go_loopw [11] (fun i wz => ∃ k:Nat,2 ≤ k∧k ≤ xs.length∧i = .int .i64 k∧Below w2.heap.size w2 wz∧answerL l xs = firstL l xs[1] (xs.drop k)) (fun i _ => xs.length - (intOf i).toNat)
 case atStart => exact ⟨2,Nat.le_refl _,by omega,rfl,Below.refl _ _,HR.out⟩
 case round =>
  obtain ⟨k,hk2,hk,rfl,hbz,hans⟩:=hrel
  have HAr:Hid _:=HA2.out.below hbz
  have HBZ:Hid _:=hbz
  clear hbz
  clear c0
  by_cases hlt:k < xs.length
  ·have ck:=HAr.out.cells k hlt
   have cx:=HAr.out.cells 1 h1l
   have hxl:=HA2.out.short _ (List.getElem_mem hlt)
   have FH:Hid _:=first_hit (l:=l) (x:=xs[1]) hlt
   have FM:Hid _:=first_miss (l:=l) (x:=xs[1]) hlt
   have HANS:Hid _:=hans
   have hki:(k:Int) < (xs.length:Int):=by omega
   have h1i:(1:Int) < (xs.length:Int):=by omega
   have HD:Hid (∀ d x:Str,(d == [47]) = false→inDir d x = d ++ 47 :: x):=fun d x h => by unfold inDir;rw [if_neg (by simpa using h)]
   have HD2:Hid (∀ d x:Str,(d == [47]) = true→inDir d x = x):=fun d x h => by unfold inDir;rw [if_pos h]
   have CG:Hid (∀ p n',Calls Tryz.prog 129 #[v,SV p] (wr.drewN n') fun e w' => e = .returned (.int .i64 (getI l p))∧w' = wr.drewN n'):=fun p n' => get_any l v p _ (HAr.out.below (below_drewN (Below.refl _ _) _)).files
   clear hans
   cases hr:(xs[k] == [47])
   ·have HI:Hid _:=HD.out xs[k] xs[1] hr
    rw [HI.out] at FH FM
    by_cases hf:0 ≤ getI l (xs[k] ++ (47:UInt8) :: xs[1])
    ·have R:Hid _:=HANS.out.trans (FH.out hf)
     clear FH FM HANS HD HD2 HI
     go_wp2_with fail
     go_quiet (fail)
     go_wp2_with (go_at_call 129;refine (CG.out (xs[k] ++ (47:UInt8) :: xs[1]) _).mono ?_;rintro e w4 ⟨rfl,rfl⟩)
     go_ret
     exact ⟨congrArg (fun s => Ending.returned (SV s)) R.out.symm,below_drewN (HB.out.trans (HBZ.out.mono HB.out.size)) _⟩
    ·have R:Hid _:=HANS.out.trans (FM.out hf)
     clear FH FM HANS HD HD2 HI
     go_wp2_with fail
     go_quiet (fail)
     go_wp2_with (go_at_call 129;refine (CG.out (xs[k] ++ (47:UInt8) :: xs[1]) _).mono ?_;rintro e w4 ⟨rfl,rfl⟩)
     go_roundw
     case rel => exact ⟨k + 1,by omega,by omega,by go_num,below_drewN HBZ.out _,R.out⟩
     case measure => simp [intOf];omega
   ·have HI:Hid _:=HD2.out xs[k] xs[1] hr
    rw [HI.out] at FH FM
    by_cases hf:0 ≤ getI l xs[1]
    ·have R:Hid _:=HANS.out.trans (FH.out hf)
     clear FH FM HANS HD HD2 HI
     go_wp2_with fail
     go_quiet (fail)
     go_wp2_with (go_at_call 129;refine (CG.out xs[1] _).mono ?_;rintro e w4 ⟨rfl,rfl⟩)
     go_ret
     exact ⟨congrArg (fun s => Ending.returned (SV s)) R.out.symm,below_drewN (HB.out.trans (HBZ.out.mono HB.out.size)) _⟩
    ·have R:Hid _:=HANS.out.trans (FM.out hf)
     clear FH FM HANS HD HD2 HI
     go_wp2_with fail
     go_quiet (fail)
     go_wp2_with (go_at_call 129;refine (CG.out xs[1] _).mono ?_;rintro e w4 ⟨rfl,rfl⟩)
     go_roundw
     case rel => exact ⟨k + 1,by omega,by omega,by go_num,below_drewN HBZ.out _,R.out⟩
     case measure => simp [intOf];omega
  ·have R:Hid (answerL l xs = noT):=by rw [Hid,hans,List.drop_eq_nil_of_le (by omega)];rfl
   have hki:¬ (k:Int) < (xs.length:Int):=by omega
   clear hans
   go_wp2
   go_ret
   exact ⟨by rw [R.out];rfl,HB.out.trans (HBZ.out.mono HB.out.size)⟩
theorem refAnswer_any (l:List Fl) (v wv:Value) (xs:List Str) (w:World) (hl:FilesAt w v l) (ht:Tiny l) (hw:WordsAt w wv xs) (hx:∀ x ∈ xs,x.length ≤ 60) (hn:xs.length ≤ 1000) (hc:checkW xs = 0) :
  Calls Tryz.prog 140 #[v,wv] w fun e w' => e = .returned (SV (answerL l xs))∧Below w.heap.size w w':=by
 obtain ⟨g,cap,rfl,h1,h2,h3,h4⟩:=hw
 have h2l:2 ≤ xs.length∧(xs.headD [] = kGlob∨xs.headD [] = kFirst∨xs.headD [] = kExists∨xs.headD [] = kList∨xs.headD [] = kRead):=by
  unfold checkW at hc
  split at hc
  ·omega
  ·split at hc
   ·rename_i h
    split at hc
    ·rename_i e;exact ⟨by omega,.inl (by simpa using h)⟩
    ·omega
   ·split at hc
    ·rename_i h
     split at hc
     ·omega
     ·exact ⟨by omega,.inr (.inl (by simpa using h))⟩
    ·split at hc
     ·rename_i h
      split at hc
      ·refine ⟨by omega,.inr (.inr ?_)⟩
       simpa [Bool.or_eq_true,or_assoc] using h
      ·omega
     ·omega
 have hA:AnsAt w v g cap l xs:=⟨hl,ht,h4,h3,⟨h1,h2⟩,h2l.1,hn,hx⟩
 rcases h2l.2 with h | h | h | h | h
 ·exact answer_glob l v g cap xs w hA h
 ·exact answer_first l v g cap xs w hA h
 ·exact answer_exists l v g cap xs w hA h
 ·exact answer_list l v g cap xs w hA h
 ·exact answer_read l v g cap xs w hA h
theorem askR_none {r:RSt} {n:Int} {q:Str} (h:findL r.all n = none):askR r n q = ([],2):=by unfold askR;rw [h]
theorem askR_bad {r:RSt} {n:Int} {q:Str} {l:List Fl} (h:findL r.all n = some l) (hc:checkL q ≠ 0):askR r n q = ([],checkL q):=by unfold askR;rw [h];simp only;rw [if_neg hc]
theorem askR_ok {r:RSt} {n:Int} {q:Str} {l:List Fl} (h:findL r.all n = some l) (hc:checkL q = 0):askR r n q = (answerL l (splitL 32 q),0):=by unfold askR;rw [h];simp only;rw [if_pos hc]
theorem check_ok {q:Str} (h:checkL q = 0):q.length ≤ 60∧checkW (splitL 32 q) = 0:=by
 unfold checkL at h
 split at h
 ·omega
 ·exact ⟨by omega,h⟩
theorem words_ok {q:Str} (h:q.length ≤ 60):(∀ x ∈ splitL 32 q,x.length ≤ 60)∧(splitL 32 q).length ≤ 1000 :=
 ⟨fun x hx => by have:=splitL_piece 32 q x hx;omega,by have:=splitL_len 32 q;omega⟩
set_option maxHeartbeats 4000000 in
set_option maxRecDepth 50000 in
theorem refAsk_any (b:Nat) (r:RSt) (va vr:Value) (sn:List (Nat × Value)) (n:Int) (q:Str) (w:World) (h:RefAt w b r va vr sn) (hq:q.length + 1 < maxLen) :
  Calls Tryz.prog 104 #[.pointer (some ⟨b,0,none⟩),.int .i64 n,SV q] w fun e w' => DiffOut w (askR r n q) e w':=by
 have H:Hid _:=h
 clear h
 go_enter Tryz.func104,Tryz.ntmps104
 go_wp2_with fail
 refine (find_any b r va vr sn n _ H.out).mono ?_
 rintro e w ⟨rfl,hf⟩
 rcases hf with ⟨k,h1,h2,hfl,rfl⟩ | ⟨hfl,rfl⟩
 ·have hF:=H.out.fil k h1 h2
  have hT:=H.out.tiny r.all[k] (List.getElem_mem h2)
  generalize r.all[k].2 = l at *
  generalize sn[k].2 = v at *
  obtain ⟨ao,cap,rfl⟩:=row_form hF
  have Hfl:Hid _:=hfl
  clear h1 h2 hfl
  go_wp2_with fail
  refine (check_any q w hq).mono ?_
  rintro e w2 ⟨hb2,⟨hc,v2,rfl,hw2⟩ | ⟨hc,rfl⟩⟩
  ·obtain ⟨hc1,hc2⟩:=check_ok hc
   obtain ⟨hx,hn⟩:=words_ok hc1
   have R:Hid _:=askR_ok Hfl.out hc
   have CA:Hid (Calls Tryz.prog 140 #[.slice ao l.length cap,v2] w2 fun e w' => e = .returned (SV (answerL l (splitL 32 q)))∧Below w2.heap.size w2 w'):=refAnswer_any l _ v2 (splitL 32 q) w2 (files_below hF hb2 (Nat.le_refl _)) hT hw2 hx hn hc2
   have HB2:Hid _:=hb2
   obtain ⟨g2,cap2,rfl,_⟩:=hw2
   clear hF hT hb2 Hfl hc hc2 hx hn H
   generalize answerL l (splitL 32 q) = an at *
   go_wp2_with fail
   refine CA.out.mono ?_
   rintro e w3 ⟨rfl,hb3⟩
   have RR:Hid (DiffOut w (askR r n q) (.returned (.tuple #[SV an,.int .i64 0])) w3):=by rw [Hid,R.out];exact ⟨rfl,HB2.out.trans (hb3.mono HB2.out.size)⟩
   clear hb3 CA R
   go_wp2
   go_ret2
   exact RR.out
  ·have R:Hid (DiffOut w (askR r n q) (.returned (.tuple #[SV [],.int .i64 (checkL q:Nat)])) w2):=by rw [Hid,askR_bad Hfl.out hc];exact ⟨rfl,hb2⟩
   have hc' : ¬ (checkL q:Int) = 0:=by omega
   clear hF hT hb2 Hfl H hc
   generalize (checkL q:Int) = ce at *
   go_wp2
   go_ret2
   exact R.out
 ·have R:Hid (DiffOut w (askR r n q) (.returned (.tuple #[SV [],.int .i64 2])) w):=by rw [Hid,askR_none hfl];exact ⟨rfl,Below.refl _ _⟩
  clear hfl H
  go_wp2
  go_ret2
  exact R.out

open Go.RowKit
def CheckNew (w:World) (q:Str) (e:Ending) (w' : World):Prop :=
 Below w.heap.size w w'∧((checkL q = 0∧∃ v,e = .returned (.tuple #[v,.int .i64 0])∧WordsAt w' v (splitL 32 q)∧∀ k,v.ownBlock = some k→w.heap.size ≤ k)∨(checkL q ≠ 0∧e = .returned (.tuple #[.slice none 0 0,.int .i64 (checkL q)])))
theorem CheckNew.bad {w w' : World} {q:Str} {n:Nat} (hb:Below w.heap.size w w') (h:checkL q = n) (hn:n ≠ 0):CheckNew w q (.returned (.tuple #[.slice none 0 0,.int .i64 n])) w':=⟨hb,.inr ⟨by omega,by rw [h]⟩⟩
set_option maxHeartbeats 4000000 in
set_option maxRecDepth 50000 in
theorem check_new (q:Str) (w:World) (hq:q.length + 1 < maxLen) :
  Calls Tryz.prog 139 #[SV q] w fun e w' => CheckNew w q e w':=by
 unfold maxLen at hq
 have hc:(UInt8.toNat 32:Int) = 32:=rfl
 by_cases h60:60 < q.length
 ·have R:Hid (CheckNew w q (.returned (.tuple #[.slice none 0 0,.int .i64 (4:Nat)])) w):=CheckNew.bad (Below.refl _ _) (by unfold checkL;rw [if_pos h60]) (by omega)
  have h60' : (60:Int) < q.length:=by omega
  go_enter Tryz.func139,Tryz.ntmps139
  go_wp2_with fail
  go_ret2
  exact R.out
 have h60' : ¬ (60:Int) < q.length:=by omega
 have HQ:Hid (checkL q = checkW (splitL 32 q)):=by unfold checkL;rw [Hid,if_neg h60]
 have hne1:=splitL_ne 32 q
 have hl1:=splitL_len 32 q
 have hpc1:=splitL_piece 32 q
 go_enter Tryz.func139,Tryz.ntmps139
 go_wp2_with fail
 refine (split_any q 32 _ (by omega)).mono ?_
 rintro e w1 ⟨v1,rfl,hown1,hbel1⟩
 rcases strs_cells hown1 with ⟨rfl,h0,h2⟩ | ⟨g1,cap1,rfl,hn1,hg1,hgb1,hcap1,hm1,hcell1⟩
 ·exact absurd h2 hne1
 have HB:Hid (Below w.heap.size w w1):=hbel1
 have hq1:(splitL 32 q).length ≤ 61:=by omega
 have hpc:Hid (∀ x ∈ splitL 32 q,x.length ≤ 60):=fun x hx => by have:=hpc1 x hx;omega
 have HW:Hid (∀ W,Below w1.heap.size w1 W→WordsAt W (.slice (some ⟨g1,0,none⟩) (splitL 32 q).length cap1) (splitL 32 q)):=fun W hb => WordsAt.below ⟨g1,cap1,rfl,hcap1,hm1,hg1,hcell1⟩ hb
 have HC:Hid (∀ W,Below w1.heap.size w1 W→∀ k (h:k < (splitL 32 q).length),W.cell? ⟨g1,k,none⟩ = some (SV (splitL 32 q)[k])):=fun W hb k h => (hb.cell (p:=⟨g1,k,none⟩) hg1).trans (hcell1 k h)
 have BADR:Hid (∀ (n:Nat) W,checkW (splitL 32 q) = n→n ≠ 0→Below w1.heap.size w1 W→CheckNew w q (.returned (.tuple #[.slice none 0 0,.int .i64 n])) W):=fun n W h hn hb => CheckNew.bad (HB.out.trans (hb.mono HB.out.size)) (by rw [HQ.out,h]) hn
 have OKR:Hid (∀ W,checkW (splitL 32 q) = 0→Below w1.heap.size w1 W→CheckNew w q (.returned (.tuple #[.slice (some ⟨g1,0,none⟩) (splitL 32 q).length cap1,.int .i64 0])) W):=fun W h hb => ⟨HB.out.trans (hb.mono HB.out.size),.inl ⟨by rw [HQ.out,h],_,rfl,HW.out W hb,fun k hk => by simp [Value.ownBlock] at hk;omega⟩⟩
 clear hown1 hbel1 hgb1 hn1 hpc1 hl1 HW HQ
 generalize splitL 32 q = xs at *
 unfold maxLen at hm1
 have h0l:0 < xs.length:=List.length_pos_iff.2 hne1
 go_wp2
 go_loopw [5] (fun i wr => ∃ k:Nat,k ≤ xs.length∧i = .int .i64 k∧wr = w1∧∀ j (hj:j < xs.length),j < k→(xs[j] == []) = false) (fun i _ => xs.length - (intOf i).toNat)
 case atStart => exact ⟨0,Nat.zero_le _,rfl,rfl,fun j _ h => by omega⟩
 case round =>
  obtain ⟨k,hk,rfl,hw,hall⟩:=hrel
  have hw':=hw.symm
  subst hw'
  clear hw
  by_cases hlt:k < xs.length
  ·have ck:=hcell1 k hlt
   cases he:(xs[k] == [])
   ·have R:=str_step (q:=fun x => x == []) hlt hall he
    clear hall hcell1
    go_wp2
    go_roundw
    case rel => exact ⟨k + 1,by omega,by go_num,trivial,R⟩
    case measure => simp [intOf];omega
   ·have R:Hid _:=BADR.out 10 w1 (by unfold checkW;rw [if_pos (List.any_eq_true.2 ⟨_,List.getElem_mem hlt,he⟩)]) (by omega) (Below.refl _ _)
    clear hall hcell1 BADR OKR
    go_wp2
    go_ret2
    exact R.out
  ·have hany:Hid (xs.any (· == []) = false):=List.any_eq_false.2 fun x hx => by
    obtain ⟨j,hj,rfl⟩:=List.getElem_of_mem hx
    simpa using hall j hj (by omega)
   have hki:¬ (k:Int) < (xs.length:Int):=by omega
   have hhd:Hid (xs.headD [] = xs[0]):=by
    cases xs with
    | nil => exact absurd rfl hne1
    | cons a l => rfl
   have c0:=hcell1 0 h0l
   have HX0:Hid (∀ x0,x0 = xs[0]→checkW xs = if x0 == kGlob then (if xs.length = 2 then (if isPatternL (xs.getD 1 []) then 0 else 9) else 10) else if x0 == kFirst then (if xs.length < 3 then 10 else placesE xs) else if x0 == kExists || x0 == kList || x0 == kRead then (if xs.length = 2 then placesE xs else 10) else 10):=fun x0 h => by
    subst h;unfold checkW;rw [hany.out,hhd.out];rfl
   have PB:Hid (∀ i (hi:i < xs.length),1 ≤ i→wordOk xs[0] i xs[i] = false→placesE xs = 3):=fun i hi h1 h => places_bad h1 hi (by rw [hhd.out];exact h)
   have PG:Hid ((∀ i (hi:i < xs.length),1 ≤ i→wordOk xs[0] i xs[i] = true)→placesE xs = 0):=fun h => places_good (by rw [hhd.out];exact h)
   obtain ⟨x0,hx0⟩ : ∃ x0,x0 = xs[0]:=⟨_,rfl⟩
   have CK:Hid _:=HX0.out x0 hx0
   rw [← hx0] at c0 PB PG
   have HX:Hid _:=hx0
   clear hall HX0 hany hhd hx0 hne1
   by_cases kG:(x0 == [103,108,111,98]) = true
   ·by_cases h2:xs.length = 2
    ·have h1l:1 < xs.length:=by omega
     have c1:=hcell1 1 h1l
     have CP:Hid (Calls Tryz.prog 166 #[SV xs[1]] w1 fun e w' => e = .returned (.bool (isPatternL xs[1]))∧Below w1.heap.size w1 w'):=isPattern_any xs[1] w1 (by have:=hpc.out _ (List.getElem_mem h1l);omega)
     have e1:xs.getD 1 [] = xs[1]:=by simp [List.getD,h1l]
     have CK2:Hid (checkW xs = if isPatternL xs[1] then 0 else 9):=by
      have:=CK.out
      rw [show (x0 == kGlob) = true from kG,if_pos rfl,if_pos h2,e1] at this
      exact this
     simp at kG
     subst kG
     have h2i:(xs.length:Int) = 2:=by omega
     clear hcell1 e1 CK h2
     cases hP:isPatternL xs[1]
     ·rw [hP] at CP CK2
      have R:=BADR.out 9
      clear BADR OKR
      go_wp2_with fail
      refine CP.out.mono ?_
      rintro e w3 ⟨rfl,hb3⟩
      have R2:Hid _:=R w3 CK2.out (by omega) hb3
      clear R hb3
      go_wp2
      go_ret2
      exact R2.out
     ·rw [hP] at CP CK2
      have R:=OKR.out
      clear BADR OKR
      go_wp2_with fail
      refine CP.out.mono ?_
      rintro e w3 ⟨rfl,hb3⟩
      have R2:Hid _:=R w3 CK2.out hb3
      clear R hb3
      go_wp2
      go_ret2
      exact R2.out
    ·have R:Hid _:=BADR.out 10 w1 (by
      have:=CK.out
      rw [show (x0 == kGlob) = true from kG,if_pos rfl,if_neg h2] at this
      exact this) (by omega) (Below.refl _ _)
     simp at kG
     subst kG
     have h2i:¬ (xs.length:Int) = 2:=by omega
     clear hcell1 CK h2 BADR OKR
     go_wp2
     go_ret2
     exact R.out
   ·have kG' : (x0 == kGlob) = false:=by simpa [kGlob] using kG
    by_cases kF:(x0 == [102,105,114,115,116]) = true
    ·by_cases h3:xs.length < 3
     ·have R:Hid _:=BADR.out 10 w1 (by
       have:=CK.out
       rw [kG',show (x0 == kFirst) = true from kF,if_neg (by simp),if_pos rfl,if_pos h3] at this
       exact this) (by omega) (Below.refl _ _)
      simp at kF
      subst kF
      have h2i:(xs.length:Int) < 3:=by omega
      clear hcell1 CK h3 BADR OKR kG kG'
      go_wp2
      go_ret2
      exact R.out
     ·have CK2:Hid (checkW xs = placesE xs):=by
       have:=CK.out
       rw [kG',show (x0 == kFirst) = true from kF,if_neg (by simp),if_pos rfl,if_neg h3] at this
       exact this
      simp at kF
      subst kF
      have h2i:¬ (xs.length:Int) < 3:=by omega
      clear CK kG kG' hcell1
      have BAD3:Hid (∀ i (hi:i < xs.length),1 ≤ i→wordOk ([102,105,114,115,116]:Str) i xs[i] = false→∀ W,Below w1.heap.size w1 W→CheckNew w q (.returned (.tuple #[.slice none 0 0,.int .i64 (3:Nat)])) W):=fun i hi h1 h W hb => BADR.out 3 W (by rw [CK2.out];exact PB.out i hi h1 h) (by omega) hb
      have GOOD:Hid ((∀ i (hi:i < xs.length),1 ≤ i→wordOk ([102,105,114,115,116]:Str) i xs[i] = true)→∀ W,Below w1.heap.size w1 W→CheckNew w q (.returned (.tuple #[.slice (some ⟨g1,0,none⟩) xs.length cap1,.int .i64 0])) W):=fun h W hb => OKR.out W (by rw [CK2.out];exact PG.out h) hb
      clear BADR OKR PB PG CK2
      go_wp2
      go_loopw [7] (fun i wz => ∃ j:Nat,1 ≤ j∧j ≤ xs.length∧i = .int .i64 j∧Below w1.heap.size w1 wz∧∀ y (hy:y < xs.length),1 ≤ y→y < j→wordOk ([102,105,114,115,116]:Str) y xs[y] = true) (fun i _ => xs.length - (intOf i).toNat)
      case atStart => exact ⟨1,Nat.le_refl _,by omega,rfl,Below.refl _ _,fun y _ h1 h2 => by omega⟩
      case round =>
       obtain ⟨j,hj1,hjl,rfl,hbz,hpl⟩:=hrel
       by_cases hjx:j < xs.length
       ·have hji:(j:Int) < (xs.length:Int):=by omega
        have cz0:wr.cell? ⟨g1,0,none⟩ = some (SV ([102,105,114,115,116]:Str)):=(hbz.cell (p:=⟨g1,0,none⟩) hg1).trans c0
        have czj:wr.cell? ⟨g1,j,none⟩ = some (SV xs[j]):=HC.out wr hbz j hjx
        have NX:Hid (wordOk ([102,105,114,115,116]:Str) j xs[j] = true→∀ y (hy:y < xs.length),1 ≤ y→y < j + 1→wordOk ([102,105,114,115,116]:Str) y xs[y] = true):=fun h y hy h1 h2 => by
         by_cases e:y = j
         ·subst e;exact h
         ·exact hpl y hy h1 (by omega)
        have B3:Hid _:=BAD3.out j hjx hj1
        have hxl:=hpc.out _ (List.getElem_mem hjx)
        have CI:=isPlace_any xs[j] wr (by unfold maxLen;omega)
        have HBZ:Hid (Below w1.heap.size w1 wr):=hbz
        clear hpl BAD3 GOOD c0
        by_cases hj:j = 1
        ·subst hj
         have RES:Hid (wordOk ([102,105,114,115,116]:Str) 1 xs[1] = isNameL xs[1] false):=by unfold wordOk;rw [Hid,if_pos (by simp [kFirst])]
         have CN:=fun W => isName_any xs[1] false W (by unfold maxLen;omega)
         generalize isPlaceL xs[1] = bp at *
         cases hpj:isNameL xs[1] false
         ·rw [hpj] at CN
          go_wp2_with fail
          refine CI.mono ?_
          rintro e w4 ⟨rfl,hb4⟩
          have cz4:=(hb4.cell (p:=⟨g1,0,none⟩) (by have:=HBZ.out.size;simp only;omega)).trans cz0
          have cz5:=(hb4.cell (p:=⟨g1,1,none⟩) (by have:=HBZ.out.size;simp only;omega)).trans czj
          have R:Hid _:=B3.out (by rw [RES.out,hpj]) w4 (HBZ.out.trans (hb4.mono HBZ.out.size))
          clear cz0 czj CI B3 NX hb4 hbz
          go_wp2_with (go_at_call 163;refine (CN _).mono ?_;rintro e w' ⟨rfl,rfl⟩)
          go_ret2
          exact R.out
         ·rw [hpj] at CN
          go_wp2_with fail
          refine CI.mono ?_
          rintro e w4 ⟨rfl,hb4⟩
          have cz4:=(hb4.cell (p:=⟨g1,0,none⟩) (by have:=HBZ.out.size;simp only;omega)).trans cz0
          have cz5:=(hb4.cell (p:=⟨g1,1,none⟩) (by have:=HBZ.out.size;simp only;omega)).trans czj
          have HB4:Hid (Below w1.heap.size w1 w4):=HBZ.out.trans (hb4.mono HBZ.out.size)
          have R:Hid _:=NX.out (by rw [RES.out,hpj])
          clear cz0 czj CI B3 NX hb4 hbz
          go_wp2_with (go_at_call 163;refine (CN _).mono ?_;rintro e w' ⟨rfl,rfl⟩)
          go_roundw
          case rel => exact ⟨1 + 1,by omega,by omega,by go_num,HB4.out,R.out⟩
          case measure => simp [intOf];omega
        ·have hj1i:((j:Int) == 1) = false:=by simp;omega
         have RES:Hid (wordOk ([102,105,114,115,116]:Str) j xs[j] = isPlaceL xs[j]):=by unfold wordOk;rw [Hid,if_neg (by simp [hj])]
         cases hpj:isPlaceL xs[j]
         ·rw [hpj] at CI
          go_wp2_with fail
          refine CI.mono ?_
          rintro e w4 ⟨rfl,hb4⟩
          have cz4:=(hb4.cell (p:=⟨g1,0,none⟩) (by have:=HBZ.out.size;simp only;omega)).trans cz0
          have R:Hid _:=B3.out (by rw [RES.out,hpj]) w4 (HBZ.out.trans (hb4.mono HBZ.out.size))
          clear cz0 czj CI B3 NX hb4 hbz
          go_wp2
          go_ret2
          exact R.out
         ·rw [hpj] at CI
          go_wp2_with fail
          refine CI.mono ?_
          rintro e w4 ⟨rfl,hb4⟩
          have cz4:=(hb4.cell (p:=⟨g1,0,none⟩) (by have:=HBZ.out.size;simp only;omega)).trans cz0
          have HB4:Hid (Below w1.heap.size w1 w4):=HBZ.out.trans (hb4.mono HBZ.out.size)
          have R:Hid _:=NX.out (by rw [RES.out,hpj])
          clear cz0 czj CI B3 NX hb4 hbz
          go_wp2
          go_roundw
          case rel => exact ⟨j + 1,by omega,by omega,by go_num,HB4.out,R.out⟩
          case measure => simp [intOf];omega
       ·have hji:¬ (j:Int) < (xs.length:Int):=by omega
        have R:Hid _:=GOOD.out (fun y hy h1 => hpl y hy h1 (by omega)) wr hbz
        clear hpl BAD3 GOOD hbz
        go_wp2
        go_ret2
        exact R.out
    ·have kF' : (x0 == kFirst) = false:=by simpa [kFirst] using kF
     by_cases kE:x0 = [101,120,105,115,116,115]∨x0 = [108,105,115,116]∨x0 = [114,101,97,100]
     ·have kE' : (x0 == kExists || x0 == kList || x0 == kRead) = true:=by rcases kE with rfl | rfl | rfl <;> rfl
      by_cases h2:xs.length = 2
      ·have CK2:Hid (checkW xs = placesE xs):=by
        have:=CK.out
        rw [kG',kF',kE',if_neg (by simp),if_neg (by simp),if_pos rfl,if_pos h2] at this
        exact this
       have h2i:(xs.length:Int) = 2:=by omega
       have h2g:1 < xs.length:=by omega
       clear CK kG kG' kF kF' kE' hcell1 h2
       rcases kE with rfl | rfl | rfl
       ·have BAD3:Hid (∀ i (hi:i < xs.length),1 ≤ i→wordOk ([101,120,105,115,116,115]:Str) i xs[i] = false→∀ W,Below w1.heap.size w1 W→CheckNew w q (.returned (.tuple #[.slice none 0 0,.int .i64 (3:Nat)])) W):=fun i hi h1 h W hb => BADR.out 3 W (by rw [CK2.out];exact PB.out i hi h1 h) (by omega) hb
        have GOOD:Hid ((∀ i (hi:i < xs.length),1 ≤ i→wordOk ([101,120,105,115,116,115]:Str) i xs[i] = true)→∀ W,Below w1.heap.size w1 W→CheckNew w q (.returned (.tuple #[.slice (some ⟨g1,0,none⟩) xs.length cap1,.int .i64 0])) W):=fun h W hb => OKR.out W (by rw [CK2.out];exact PG.out h) hb
        clear BADR OKR PB PG CK2
        go_wp2
        go_loopw [7] (fun i wz => ∃ j:Nat,1 ≤ j∧j ≤ xs.length∧i = .int .i64 j∧Below w1.heap.size w1 wz∧∀ y (hy:y < xs.length),1 ≤ y→y < j→wordOk ([101,120,105,115,116,115]:Str) y xs[y] = true) (fun i _ => xs.length - (intOf i).toNat)
        case atStart => exact ⟨1,Nat.le_refl _,by omega,rfl,Below.refl _ _,fun y _ h1 h2 => by omega⟩
        case round =>
         obtain ⟨j,hj1,hjl,rfl,hbz,hpl⟩:=hrel
         by_cases hjx:j < xs.length
         ·have hji:(j:Int) < (xs.length:Int):=by omega
          have cz0:wr.cell? ⟨g1,0,none⟩ = some (SV ([101,120,105,115,116,115]:Str)):=(hbz.cell (p:=⟨g1,0,none⟩) hg1).trans c0
          have czj:wr.cell? ⟨g1,j,none⟩ = some (SV xs[j]):=HC.out wr hbz j hjx
          have NX:Hid (wordOk ([101,120,105,115,116,115]:Str) j xs[j] = true→∀ y (hy:y < xs.length),1 ≤ y→y < j + 1→wordOk ([101,120,105,115,116,115]:Str) y xs[y] = true):=fun h y hy h1 h2 => by
           by_cases e:y = j
           ·subst e;exact h
           ·exact hpl y hy h1 (by omega)
          have B3:Hid _:=BAD3.out j hjx hj1
          have hxl:=hpc.out _ (List.getElem_mem hjx)
          have CI:=isPlace_any xs[j] wr (by unfold maxLen;omega)
          have HBZ:Hid (Below w1.heap.size w1 wr):=hbz
          clear hpl BAD3 GOOD c0
          have RES:Hid (wordOk ([101,120,105,115,116,115]:Str) j xs[j] = isPlaceL xs[j]):=by unfold wordOk;rw [Hid,if_neg (by simp [kFirst])]
          cases hpj:isPlaceL xs[j]
          ·rw [hpj] at CI
           go_wp2_with fail
           refine CI.mono ?_
           rintro e w4 ⟨rfl,hb4⟩
           have cz4:=(hb4.cell (p:=⟨g1,0,none⟩) (by have:=HBZ.out.size;simp only;omega)).trans cz0
           have R:Hid _:=B3.out (by rw [RES.out,hpj]) w4 (HBZ.out.trans (hb4.mono HBZ.out.size))
           clear cz0 czj CI B3 NX hb4 hbz
           go_wp2
           go_ret2
           exact R.out
          ·rw [hpj] at CI
           go_wp2_with fail
           refine CI.mono ?_
           rintro e w4 ⟨rfl,hb4⟩
           have cz4:=(hb4.cell (p:=⟨g1,0,none⟩) (by have:=HBZ.out.size;simp only;omega)).trans cz0
           have HB4:Hid (Below w1.heap.size w1 w4):=HBZ.out.trans (hb4.mono HBZ.out.size)
           have R:Hid _:=NX.out (by rw [RES.out,hpj])
           clear cz0 czj CI B3 NX hb4 hbz
           go_wp2
           go_roundw
           case rel => exact ⟨j + 1,by omega,by omega,by go_num,HB4.out,R.out⟩
           case measure => simp [intOf];omega
         ·have hji:¬ (j:Int) < (xs.length:Int):=by omega
          have R:Hid _:=GOOD.out (fun y hy h1 => hpl y hy h1 (by omega)) wr hbz
          clear hpl BAD3 GOOD hbz
          go_wp2
          go_ret2
          exact R.out
       ·have BAD3:Hid (∀ i (hi:i < xs.length),1 ≤ i→wordOk ([108,105,115,116]:Str) i xs[i] = false→∀ W,Below w1.heap.size w1 W→CheckNew w q (.returned (.tuple #[.slice none 0 0,.int .i64 (3:Nat)])) W):=fun i hi h1 h W hb => BADR.out 3 W (by rw [CK2.out];exact PB.out i hi h1 h) (by omega) hb
        have GOOD:Hid ((∀ i (hi:i < xs.length),1 ≤ i→wordOk ([108,105,115,116]:Str) i xs[i] = true)→∀ W,Below w1.heap.size w1 W→CheckNew w q (.returned (.tuple #[.slice (some ⟨g1,0,none⟩) xs.length cap1,.int .i64 0])) W):=fun h W hb => OKR.out W (by rw [CK2.out];exact PG.out h) hb
        clear BADR OKR PB PG CK2
        go_wp2
        go_loopw [7] (fun i wz => ∃ j:Nat,1 ≤ j∧j ≤ xs.length∧i = .int .i64 j∧Below w1.heap.size w1 wz∧∀ y (hy:y < xs.length),1 ≤ y→y < j→wordOk ([108,105,115,116]:Str) y xs[y] = true) (fun i _ => xs.length - (intOf i).toNat)
        case atStart => exact ⟨1,Nat.le_refl _,by omega,rfl,Below.refl _ _,fun y _ h1 h2 => by omega⟩
        case round =>
         obtain ⟨j,hj1,hjl,rfl,hbz,hpl⟩:=hrel
         by_cases hjx:j < xs.length
         ·have hji:(j:Int) < (xs.length:Int):=by omega
          have cz0:wr.cell? ⟨g1,0,none⟩ = some (SV ([108,105,115,116]:Str)):=(hbz.cell (p:=⟨g1,0,none⟩) hg1).trans c0
          have czj:wr.cell? ⟨g1,j,none⟩ = some (SV xs[j]):=HC.out wr hbz j hjx
          have NX:Hid (wordOk ([108,105,115,116]:Str) j xs[j] = true→∀ y (hy:y < xs.length),1 ≤ y→y < j + 1→wordOk ([108,105,115,116]:Str) y xs[y] = true):=fun h y hy h1 h2 => by
           by_cases e:y = j
           ·subst e;exact h
           ·exact hpl y hy h1 (by omega)
          have B3:Hid _:=BAD3.out j hjx hj1
          have hxl:=hpc.out _ (List.getElem_mem hjx)
          have CI:=isPlace_any xs[j] wr (by unfold maxLen;omega)
          have HBZ:Hid (Below w1.heap.size w1 wr):=hbz
          clear hpl BAD3 GOOD c0
          have RES:Hid (wordOk ([108,105,115,116]:Str) j xs[j] = isPlaceL xs[j]):=by unfold wordOk;rw [Hid,if_neg (by simp [kFirst])]
          cases hpj:isPlaceL xs[j]
          ·rw [hpj] at CI
           go_wp2_with fail
           refine CI.mono ?_
           rintro e w4 ⟨rfl,hb4⟩
           have cz4:=(hb4.cell (p:=⟨g1,0,none⟩) (by have:=HBZ.out.size;simp only;omega)).trans cz0
           have R:Hid _:=B3.out (by rw [RES.out,hpj]) w4 (HBZ.out.trans (hb4.mono HBZ.out.size))
           clear cz0 czj CI B3 NX hb4 hbz
           go_wp2
           go_ret2
           exact R.out
          ·rw [hpj] at CI
           go_wp2_with fail
           refine CI.mono ?_
           rintro e w4 ⟨rfl,hb4⟩
           have cz4:=(hb4.cell (p:=⟨g1,0,none⟩) (by have:=HBZ.out.size;simp only;omega)).trans cz0
           have HB4:Hid (Below w1.heap.size w1 w4):=HBZ.out.trans (hb4.mono HBZ.out.size)
           have R:Hid _:=NX.out (by rw [RES.out,hpj])
           clear cz0 czj CI B3 NX hb4 hbz
           go_wp2
           go_roundw
           case rel => exact ⟨j + 1,by omega,by omega,by go_num,HB4.out,R.out⟩
           case measure => simp [intOf];omega
         ·have hji:¬ (j:Int) < (xs.length:Int):=by omega
          have R:Hid _:=GOOD.out (fun y hy h1 => hpl y hy h1 (by omega)) wr hbz
          clear hpl BAD3 GOOD hbz
          go_wp2
          go_ret2
          exact R.out
       ·have BAD3:Hid (∀ i (hi:i < xs.length),1 ≤ i→wordOk ([114,101,97,100]:Str) i xs[i] = false→∀ W,Below w1.heap.size w1 W→CheckNew w q (.returned (.tuple #[.slice none 0 0,.int .i64 (3:Nat)])) W):=fun i hi h1 h W hb => BADR.out 3 W (by rw [CK2.out];exact PB.out i hi h1 h) (by omega) hb
        have GOOD:Hid ((∀ i (hi:i < xs.length),1 ≤ i→wordOk ([114,101,97,100]:Str) i xs[i] = true)→∀ W,Below w1.heap.size w1 W→CheckNew w q (.returned (.tuple #[.slice (some ⟨g1,0,none⟩) xs.length cap1,.int .i64 0])) W):=fun h W hb => OKR.out W (by rw [CK2.out];exact PG.out h) hb
        clear BADR OKR PB PG CK2
        go_wp2
        go_loopw [7] (fun i wz => ∃ j:Nat,1 ≤ j∧j ≤ xs.length∧i = .int .i64 j∧Below w1.heap.size w1 wz∧∀ y (hy:y < xs.length),1 ≤ y→y < j→wordOk ([114,101,97,100]:Str) y xs[y] = true) (fun i _ => xs.length - (intOf i).toNat)
        case atStart => exact ⟨1,Nat.le_refl _,by omega,rfl,Below.refl _ _,fun y _ h1 h2 => by omega⟩
        case round =>
         obtain ⟨j,hj1,hjl,rfl,hbz,hpl⟩:=hrel
         by_cases hjx:j < xs.length
         ·have hji:(j:Int) < (xs.length:Int):=by omega
          have cz0:wr.cell? ⟨g1,0,none⟩ = some (SV ([114,101,97,100]:Str)):=(hbz.cell (p:=⟨g1,0,none⟩) hg1).trans c0
          have czj:wr.cell? ⟨g1,j,none⟩ = some (SV xs[j]):=HC.out wr hbz j hjx
          have NX:Hid (wordOk ([114,101,97,100]:Str) j xs[j] = true→∀ y (hy:y < xs.length),1 ≤ y→y < j + 1→wordOk ([114,101,97,100]:Str) y xs[y] = true):=fun h y hy h1 h2 => by
           by_cases e:y = j
           ·subst e;exact h
           ·exact hpl y hy h1 (by omega)
          have B3:Hid _:=BAD3.out j hjx hj1
          have hxl:=hpc.out _ (List.getElem_mem hjx)
          have CI:=isPlace_any xs[j] wr (by unfold maxLen;omega)
          have HBZ:Hid (Below w1.heap.size w1 wr):=hbz
          clear hpl BAD3 GOOD c0
          have RES:Hid (wordOk ([114,101,97,100]:Str) j xs[j] = isPlaceL xs[j]):=by unfold wordOk;rw [Hid,if_neg (by simp [kFirst])]
          cases hpj:isPlaceL xs[j]
          ·rw [hpj] at CI
           go_wp2_with fail
           refine CI.mono ?_
           rintro e w4 ⟨rfl,hb4⟩
           have cz4:=(hb4.cell (p:=⟨g1,0,none⟩) (by have:=HBZ.out.size;simp only;omega)).trans cz0
           have R:Hid _:=B3.out (by rw [RES.out,hpj]) w4 (HBZ.out.trans (hb4.mono HBZ.out.size))
           clear cz0 czj CI B3 NX hb4 hbz
           go_wp2
           go_ret2
           exact R.out
          ·rw [hpj] at CI
           go_wp2_with fail
           refine CI.mono ?_
           rintro e w4 ⟨rfl,hb4⟩
           have cz4:=(hb4.cell (p:=⟨g1,0,none⟩) (by have:=HBZ.out.size;simp only;omega)).trans cz0
           have HB4:Hid (Below w1.heap.size w1 w4):=HBZ.out.trans (hb4.mono HBZ.out.size)
           have R:Hid _:=NX.out (by rw [RES.out,hpj])
           clear cz0 czj CI B3 NX hb4 hbz
           go_wp2
           go_roundw
           case rel => exact ⟨j + 1,by omega,by omega,by go_num,HB4.out,R.out⟩
           case measure => simp [intOf];omega
         ·have hji:¬ (j:Int) < (xs.length:Int):=by omega
          have R:Hid _:=GOOD.out (fun y hy h1 => hpl y hy h1 (by omega)) wr hbz
          clear hpl BAD3 GOOD hbz
          go_wp2
          go_ret2
          exact R.out
      ·have R:Hid _:=BADR.out 10 w1 (by
        have:=CK.out
        rw [kG',kF',kE',if_neg (by simp),if_neg (by simp),if_pos rfl,if_neg h2] at this
        exact this) (by omega) (Below.refl _ _)
       have h2i:¬ (xs.length:Int) = 2:=by omega
       clear hcell1 CK h2 BADR OKR kG kG' kF kF' kE'
       rcases kE with rfl | rfl | rfl
       all_goals
        go_wp2
        go_ret2
        exact R.out
     ·have n1:(x0 == [101,120,105,115,116,115]) = false:=by simp;exact fun h => kE (.inl h)
      have n2:(x0 == [108,105,115,116]) = false:=by simp;exact fun h => kE (.inr (.inl h))
      have n3:(x0 == [114,101,97,100]) = false:=by simp;exact fun h => kE (.inr (.inr h))
      have n4:(x0 == [103,108,111,98]) = false:=kG'
      have n5:(x0 == [102,105,114,115,116]) = false:=kF'
      have R:Hid _:=BADR.out 10 w1 (by
       have:=CK.out
       rw [kG',kF',show (x0 == kExists || x0 == kList || x0 == kRead) = false by rw [show (x0 == kExists) = false from n1,show (x0 == kList) = false from n2,show (x0 == kRead) = false from n3];rfl,if_neg (by simp),if_neg (by simp),if_neg (by simp)] at this
       exact this) (by omega) (Below.refl _ _)
      clear hcell1 CK BADR OKR kG kG' kF kF' kE
      go_wp2
      go_ret2
      exact R.out
end Go.Proofs.YtdcbgfhkfmohiaaGreatDoor
