/- Diff's iterator. -/
import Derived.Test.YtdcbgfhkfmohiaaGreatDoorAl13
namespace Go.Proofs.YtdcbgfhkfmohiaaGreatDoor
open Go.RowKit Go.Shelf
attribute [local go_sem] Oper.semAt_some
theorem forms_vals (ad:Tree→Nat) (es:Ents):Forms (valsE ad es):=by
 intro e he
 simp only [valsE,List.mem_map] at he
 obtain ⟨f,_,rfl⟩:=he
 cases hf:f.2 with
 | file d => exact ⟨_,_,rfl⟩
 | dir c => exact ⟨_,_,rfl⟩
theorem entO_form (ad:Tree→Nat) (x:Str) (t:Option Tree):entO ad x t = ([],.nilIface)∨∃ k q,entO ad x t = (x,.iface k (.pointer (some ⟨q,0,none⟩))):=by
 cases t with
 | none => exact .inl rfl
 | some u =>
  right
  cases u with
  | file d => exact ⟨_,_,rfl⟩
  | dir c => exact ⟨_,_,rfl⟩
theorem prefix_get {α:Type} {pre:List α} {x:α} {xs:List α} (h:pre ++ [x] <+: xs):xs[pre.length]? = some x:=by
 obtain ⟨r,rfl⟩:=h
 simp
abbrev encM (x:Str × Nat):Array Value:=#[SV x.1,.int .u8 x.2]
structure ChgAt (w:World) (B:Bank) (x inside:Str) (a b:Option Tree) (x1 x2 x3:Nat):Prop where
 bank:BankAt w B
 ha:B.hasO a
 hb:B.hasO b
 c1:w.heap[x1]? = some (.cells #[SV (entO B.ad x a).1,(entO B.ad x a).2] 101 (0,0))
 c2:w.heap[x2]? = some (.cells #[SV (entO B.ad x b).1,(entO B.ad x b).2] 101 (0,0))
 c3:w.heap[x3]? = some (.cells #[SV inside] 9 (0,0))
def chgR (B:Bank) (x1 x2 x3:Nat) (k:Nat):Prop:=k = x1∨k = x2∨k = x3∨B.own k
theorem ChgAt.kept {w W:World} {B:Bank} {x inside:Str} {a b:Option Tree} {x1 x2 x3:Nat} (h:ChgAt w B x inside a b x1 x2 x3) (hk:∀ k,chgR B x1 x2 x3 k→W.heap[k]? = w.heap[k]?):ChgAt W B x inside a b x1 x2 x3 :=
 ⟨h.bank.frame fun k hk' => hk k (.inr (.inr (.inr hk'))),h.ha,h.hb,(hk _ (.inl rfl)).trans h.c1,(hk _ (.inr (.inl rfl))).trans h.c2,(hk _ (.inr (.inr (.inl rfl)))).trans h.c3⟩
abbrev yBox (l:Nat):Obj:=.cells #[.func (.yield l) #[] #[]] 150
theorem ent_verdict {W:World} {B:Bank} (hB:BankAt W B) {a b:Option Tree} (ha:B.hasO a) (hb:B.hasO b) {x:Str} :
  ((entO B.ad x a).1 = (entO B.ad x b).1∧∃ r:Bool,(Op.equalIn 9999 99 (entO B.ad x a).2 (entO B.ad x b).2).run Tryz.prog W = .ok r W∧(r = true ↔ a = b))∨((entO B.ad x a).1 ≠ (entO B.ad x b).1∧a ≠ b):=by
 cases a with
 | none =>
  cases b with
  | none =>
   obtain ⟨r,h1,h2⟩:=node_eq (w:=W) 9997 (v:=Value.nilIface) (v':=Value.nilIface) (.inl rfl) (.inl rfl)
   exact .inl ⟨rfl,r,h1,by rw [h2];simp⟩
  | some u =>
   by_cases hx:x = []
   ·subst hx
    obtain ⟨r,h1,h2⟩:=node_eq (w:=W) 9997 (v:=Value.nilIface) (.inl rfl) (hB.node hb)
    exact .inl ⟨rfl,r,h1,by rw [h2];cases u <;> simp [valT]⟩
   ·exact .inr ⟨fun h => hx h.symm,by simp⟩
 | some t =>
  cases b with
  | none =>
   by_cases hx:x = []
   ·subst hx
    obtain ⟨r,h1,h2⟩:=node_eq (w:=W) 9997 (v':=Value.nilIface) (hB.node ha) (.inl rfl)
    exact .inl ⟨rfl,r,h1,by rw [h2];cases t <;> simp [valT]⟩
   ·exact .inr ⟨fun h => hx h,by simp⟩
  | some u =>
   obtain ⟨r,h1,h2⟩:=node_eq (w:=W) 9997 (hB.node ha) (hB.node hb)
   exact .inl ⟨rfl,r,h1,by rw [h2,valT_inj hB ha hb];simp⟩
theorem max_names {B:Bank} {a b:Option Tree} (hab:a ≠ b) (x:Str) (W:World):(Builtin.max_ #[9,9] 9 #[SV (entO B.ad x a).1,SV (entO B.ad x b).1]).run Tryz.prog W = .ok (SV x) W:=by
 cases a with
 | none =>
  cases b with
  | none => exact absurd rfl hab
  | some u => cases x <;> simp [entO,Builtin.max_,Builtin.max2,Op.stringOp,asBool,Op.bytesLess]
 | some t =>
  cases b with
  | none => cases x <;> simp [entO,Builtin.max_,Builtin.max2,Op.stringOp,asBool,Op.bytesLess]
  | some u => simp [entO,Builtin.max_,Builtin.max2,Op.stringOp,asBool]
set_option maxHeartbeats 4000000 in
set_option maxRecDepth 100000 in
theorem changes_equal (B:Bank) (x inside:Str) (t:Tree) (x1 x2 x3:Nat) (w:World) (h:ChgAt w B x inside (some t) (some t) x1 x2 x3) :
  SeqOf Tryz.prog 71 #[ptrV x1,ptrV x2,ptrV x3] encM [] (chgR B x1 x2 x3) w:=by
 intro n m l J O W hsz hR hloc hY h0
 have h1:=h.kept fun k hk => (hR k hk).2.1
 have HJ:Hid (J [] O (W.alloc (yBox l))):=(hloc []).below h0 ((Below.refl _ _).alloc (Nat.le_refl _) _)
 have HT:Hid (Turn O W (W.alloc (yBox l)) O):=Turn.of_below ((Below.refl _ _).alloc (Nat.le_refl _) _)
 have hB2:BankAt (W.alloc (yBox l)) B:=h1.bank.below ((Below.refl _ _).alloc (Nat.le_refl _) _)
 have hgd:=fun o1 o2 => guard_ok (w:=W.alloc (yBox l)) o1 o2 (n1:=x) (n2:=x) (v1:=valT B.ad t) (v2:=valT B.ad t) (by cases t <;> simp [valT])
 obtain ⟨r,hq,hr⟩:=node_eq (w:=W.alloc (yBox l)) 9997 (hB2.node h1.ha) (hB2.node h1.ha)
 obtain rfl:r = true:=hr.2 rfl
 have d1:W.cell? ⟨x1,0,none⟩ = some (SV x):=(blk_cell h1.c1 0).trans rfl
 have d2:W.cell? ⟨x1,1,none⟩ = some (valT B.ad t):=(blk_cell h1.c1 1).trans rfl
 have d3:W.cell? ⟨x2,0,none⟩ = some (SV x):=(blk_cell h1.c2 0).trans rfl
 have d4:W.cell? ⟨x2,1,none⟩ = some (valT B.ad t):=(blk_cell h1.c2 1).trans rfl
 have l1:x1 < W.heap.size:=(Array.getElem?_eq_some_iff.1 h1.c1).1
 have l2:x2 < W.heap.size:=(Array.getElem?_eq_some_iff.1 h1.c2).1
 clear hY hloc hR h h1 hB2 hr
 generalize valT B.ad t = v1 at *
 refine callsIn_of_wp_marks Tryz.func71 rfl trivial ?_ rfl
 simp only [Tryz.ntmps71,List.size_toArray,List.length_cons,List.length_nil,Nat.reduceAdd,Nat.reduceSub,Array.replicate_succ,Array.replicate_zero,List.push_toArray,List.append_toArray,List.nil_append,List.cons_append]
 gi_wp2
 exact ⟨_,results_none rfl _ _ _,⟨_,rfl⟩,O,HJ.out,HT.out⟩
theorem three_blocks (w:World) (a b c:Obj):(((w.alloc a).alloc b).alloc c).heap[w.heap.size]? = some a∧(((w.alloc a).alloc b).alloc c).heap[w.heap.size + 1]? = some b∧(((w.alloc a).alloc b).alloc c).heap[w.heap.size + 2]? = some c∧Below w.heap.size w (((w.alloc a).alloc b).alloc c):=by
 obtain ⟨h1,h2,h3⟩:=two_blocks w a b
 refine ⟨?_,?_,?_,h3.alloc (by simp;omega) _⟩
 ·rw [Below.heap_alloc _ _ _ (by simp;omega)];exact h1
 ·rw [Below.heap_alloc _ _ _ (by simp)];exact h2
 ·have:=heap_alloc_new ((w.alloc a).alloc b) c
  simpa using this
theorem child_ok {n:Nat} {a b:Option Tree} {B:Bank} {W:World} (hfa:fitsT (n + 1) a) (hfb:fitsT (n + 1) b) (ha:B.hasO a) (hb:B.hasO b) (hB:BankAt W B) {q:Str × Option Tree × Option Tree} (m1:∀ t,q.2.1 = some t→(q.1,t) ∈ entsO a) (m2:∀ t,q.2.2 = some t→∃ y,(y,t) ∈ entsO b∧q.1 = y) (m3:q.2.1 = none→q.2.2 ≠ none) :
  q.1 ≠ []∧q.1.length ≤ 8∧fitsT n q.2.1∧fitsT n q.2.2∧B.hasO q.2.1∧B.hasO q.2.2:=by
 have root:∀ (c:Option Tree),fitsT (n + 1) c→B.hasO c→∀ e ∈ entsO c,e.1 ≠ []∧e.1.length ≤ 8∧fitsT n (some e.2)∧B.has e.2:=by
  intro c hc hh e he
  cases c with
  | none => simp [entsO] at he
  | some u =>
   cases u with
   | file d => simp [entsO] at he
   | dir es => exact ⟨(hc e he).1,(hc e he).2.1,(hc e he).2.2,hB.closed es hh e he⟩
 have f0:fitsT n none:=by cases n <;> trivial
 cases h1:q.2.1 with
 | some t =>
  have r1:=root a hfa ha _ (m1 t h1)
  cases h2:q.2.2 with
  | none => exact ⟨r1.1,r1.2.1,r1.2.2.1,f0,r1.2.2.2,trivial⟩
  | some u =>
   obtain ⟨y,hy,e⟩:=m2 u h2
   have r2:=root b hfb hb _ hy
   exact ⟨r1.1,r1.2.1,r1.2.2.1,r2.2.2.1,r1.2.2.2,r2.2.2.2⟩
 | none =>
  cases h2:q.2.2 with
  | none => exact absurd h2 (m3 h1)
  | some u =>
   obtain ⟨y,hy,e⟩:=m2 u h2
   have r2:=root b hfb hb _ hy
   exact ⟨by rw [e];exact r2.1,by rw [e];exact r2.2.1,f0,r2.2.2.1,trivial,r2.2.2.2⟩
structure Mid (W w4:World) (B:Bank) (a b:Option Tree) (la loa lb lob:Nat) (path:Str) (l:Nat) (O4:Nat→Prop):Prop where
 bank:BankAt w4 B
 lA:ListAt w4 la loa (valsE B.ad (entsO a))
 lB:ListAt w4 lb lob (valsE B.ad (entsO b))
 ybox:w4.heap[W.heap.size]? = some (yBox l)
 pbox:w4.heap[W.heap.size + 1]? = some (.cells #[SV path] 9 (0,0))
 free:∀ k,(k = la∨k = lb∨k = W.heap.size∨k = W.heap.size + 1∨B.own k)→k < w4.heap.size∧¬ O4 k
theorem Mid.turn {W w4 w5:World} {B:Bank} {a b:Option Tree} {la loa lb lob:Nat} {path:Str} {l:Nat} {O4 O5:Nat→Prop} (h:Mid W w4 B a b la loa lb lob path l O4) (ht:Turn O4 w4 w5 O5):Mid W w5 B a b la loa lb lob path l O5:=by
 have hk:∀ k,(k = la∨k = lb∨k = W.heap.size∨k = W.heap.size + 1∨B.own k)→w5.heap[k]? = w4.heap[k]?:=fun k hk => ht.blk k (h.free k hk).1 (h.free k hk).2
 exact ⟨h.bank.frame fun k hk' => hk k (.inr (.inr (.inr (.inr hk')))),h.lA.kept (hk _ (.inl rfl)),h.lB.kept (hk _ (.inr (.inl rfl))),(hk _ (.inr (.inr (.inl rfl)))).trans h.ybox,(hk _ (.inr (.inr (.inr (.inl rfl))))).trans h.pbox,
  fun k hk' => ⟨Nat.lt_of_lt_of_le (h.free k hk').1 ht.size,ht.free (h.free k hk').1 (h.free k hk').2⟩⟩
set_option maxHeartbeats 4000000 in
set_option maxRecDepth 100000 in
theorem changes_go (B:Bank) (x inside:Str) (a b:Option Tree) (x1 x2 x3:Nat) (w:World) (h:ChgAt w B x inside a b x1 x2 x3) (hab:a ≠ b) (hl1:x.length ≤ 8) (n:Nat) (hl2:inside.length + 9 * (n + 1) ≤ 900) (hfa:fitsT (n + 1) a) (hfb:fitsT (n + 1) b)
  (IH:∀ (y inside:Str) (a b:Option Tree) (x1 x2 x3:Nat) (w:World),ChgAt w B y inside a b x1 x2 x3→(a ≠ none∨b ≠ none)→(a = none∨b = none→y ≠ [])→y.length ≤ 8→inside.length + 9 * n ≤ 900→fitsT n a→fitsT n b→SeqOf Tryz.prog 71 #[ptrV x1,ptrV x2,ptrV x3] encM (chgS n (joinS inside y) a b) (chgR B x1 x2 x3) w) :
  SeqOf Tryz.prog 71 #[ptrV x1,ptrV x2,ptrV x3] encM (chgS (n + 1) (joinS inside x) a b) (chgR B x1 x2 x3) w:=by
 intro nn m l J O W hsz hR hloc hY h0
 have h1:=h.kept fun k hk => (hR k hk).2.1
 have HJ:Hid (J [] O (W.alloc (yBox l))):=(hloc []).below h0 ((Below.refl _ _).alloc (Nat.le_refl _) _)
 have hB2:BankAt (W.alloc (yBox l)) B:=h1.bank.below ((Below.refl _ _).alloc (Nat.le_refl _) _)
 have hgd:=fun o1 o2 => guard_ok (w:=W.alloc (yBox l)) o1 o2 (n1:=(entO B.ad x a).1) (n2:=(entO B.ad x b).1) (v1:=(entO B.ad x a).2) (v2:=(entO B.ad x b).2) (by
  rintro ⟨e1,e2⟩
  cases a with
  | some t => cases t <;> simp [entO,valT] at e1
  | none => cases b with
   | some t => cases t <;> simp [entO,valT] at e2
   | none => exact hab rfl)
 have hver:=ent_verdict hB2 h1.ha h1.hb (x:=x)
 have d1:W.cell? ⟨x1,0,none⟩ = some (SV (entO B.ad x a).1):=(blk_cell h1.c1 0).trans rfl
 have d2:W.cell? ⟨x1,1,none⟩ = some (entO B.ad x a).2:=(blk_cell h1.c1 1).trans rfl
 have d3:W.cell? ⟨x2,0,none⟩ = some (SV (entO B.ad x b).1):=(blk_cell h1.c2 0).trans rfl
 have d4:W.cell? ⟨x2,1,none⟩ = some (entO B.ad x b).2:=(blk_cell h1.c2 1).trans rfl
 have d5:W.cell? ⟨x3,0,none⟩ = some (SV inside):=(blk_cell h1.c3 0).trans rfl
 have l1:x1 < W.heap.size:=(Array.getElem?_eq_some_iff.1 h1.c1).1
 have l2:x2 < W.heap.size:=(Array.getElem?_eq_some_iff.1 h1.c2).1
 have l3:x3 < W.heap.size:=(Array.getElem?_eq_some_iff.1 h1.c3).1
 have HC:Hid _:=h1
 have HY:Hid _:=hY
 have HL:Hid _:=hloc
 have HR:Hid _:=hR
 clear hY hloc hR h h1 hB2
 have HA:Hid _:=hab
 refine callsIn_of_wp_marks Tryz.func71 rfl trivial ?_ rfl
 simp only [Tryz.ntmps71,List.size_toArray,List.length_cons,List.length_nil,Nat.reduceAdd,Nat.reduceSub,Array.replicate_succ,Array.replicate_zero,List.push_toArray,List.append_toArray,List.nil_append,List.cons_append]
 have hmx:=max_names (B:=B) hab x (W.alloc (yBox l))
 have hv1:(entO B.ad x a).2.oneCell' = true:=by cases a with | none => rfl | some t => cases t <;> rfl
 have hj:=join_any inside x (W.alloc (yBox l)) (by omega) (by omega)
 have JC:Hid _:=hj
 clear hj
 have hlong:(joinS inside x).length + 9 * n ≤ 900:=by
  unfold joinS;split
  ·omega
  ·simp only [List.length_append,List.length_cons];omega
 have HBk:Hid (∀ W',Below W.heap.size W W'→ChgAt W' B x inside a b x1 x2 x3):=fun W' hb => HC.out.kept fun k hk => hb.block k (by
  have:=(HR.out k hk).1;omega)
 rcases hver with ⟨hn,r,hq,hr⟩ | ⟨hn,_⟩
 ·obtain rfl:r = false:=by cases r with | false => rfl | true => exact absurd (hr.1 rfl) hab
  clear hr
  have AP1:Hid (∀ W',BankAt W' B→Calls Tryz.prog 73 #[(entO B.ad x a).2] W' fun e w' => ApartOut W' B a e w'):=fun W' h => apart_any B a x W' h HC.out.ha
  have AP2:Hid (∀ W',BankAt W' B→Calls Tryz.prog 73 #[(entO B.ad x b).2] W' fun e w' => ApartOut W' B b e w'):=fun W' h => apart_any B b x W' h HC.out.hb
  have D4:Hid (∀ W',Below W.heap.size W W'→W'.cell? ⟨x2,1,none⟩ = some (entO B.ad x b).2):=fun W' hb => (hb.cell (p:=⟨x2,1,none⟩) l2).trans d4
  generalize entO B.ad x a = ea at *
  generalize entO B.ad x b = eb at *
  obtain ⟨n1,v1⟩:=ea
  obtain ⟨n2,v2⟩:=eb
  simp only at *
  subst hn
  gi_wp2_with fail
  refine ⟨trivial,fun h => (by cases h),(callsIn_wide.2 JC.out).mono ?_⟩
  rintro e w' ⟨rfl,rfl⟩
  generalize hpath:joinS inside x = path at *
  gi_wp2_with fail
  have hb1:Below W.heap.size W ((W.alloc (yBox l)).alloc (.cells #[SV path] 9)):=((Below.refl _ _).alloc (Nat.le_refl _) _).alloc (by simp) _
  have tb:=two_blocks W (yBox l) (.cells #[SV path] 9)
  generalize hW1:(W.alloc (yBox l)).alloc (.cells #[SV path] 9) = W1 at *
  refine ⟨trivial,fun h => (by cases h),(callsIn_wide.2 (AP1.out W1 (HBk.out W1 hb1).bank)).mono ?_⟩
  rintro e w2 ⟨la,loa,rfl,hb2,hL2,hown2,hlt2⟩
  have d4':=D4.out w2 (hb1.trans (hb2.mono hb1.size))
  have HW2:Hid (Below W.heap.size W w2):=hb1.trans (hb2.mono hb1.size)
  have HL2:Hid _:=hL2
  gi_wp2_with fail
  refine ⟨trivial,fun h => (by cases h),(callsIn_wide.2 (AP2.out w2 (HBk.out w2 HW2.out).bank)).mono ?_⟩
  rintro e w3 ⟨lb,lob,rfl,hb3,hL3,hown3,hlt3⟩
  have HW3:Hid (Below W.heap.size W w3):=HW2.out.trans (hb3.mono HW2.out.size)
  have HB3:Hid (BankAt w3 B):=(HBk.out w3 HW3.out).bank
  have MK:Hid (Calls Tryz.prog 74 #[ptrO ((fileO a).map fun d => B.ad (.file d)),ptrO ((fileO b).map fun d => B.ad (.file d))] w3 fun e w' => e = .returned (.int .u8 (markT a b))∧w' = w3):=by
   have:=markOf_any _ _ w3 (file_block HB3.out HC.out.ha) (file_block HB3.out HC.out.hb)
   rw [mark_same HB3.out HC.out.ha HC.out.hb] at this
   exact this
  have cy:w3.cell? ⟨W.heap.size,0,none⟩ = some (.func (.yield l) #[] #[]):=(blk_cell (((hb3.block _ (Nat.lt_of_lt_of_le (Array.getElem?_eq_some_iff.1 tb.1).1 hb2.size)).trans (hb2.block _ (Array.getElem?_eq_some_iff.1 tb.1).1)).trans tb.1) 0).trans rfl
  have cp:w3.cell? ⟨W.heap.size + 1,0,none⟩ = some (SV path):=(blk_cell (((hb3.block _ (Nat.lt_of_lt_of_le (Array.getElem?_eq_some_iff.1 tb.2.1).1 hb2.size)).trans (hb2.block _ (Array.getElem?_eq_some_iff.1 tb.2.1).1)).trans tb.2.1) 0).trans rfl
  have HL2' : Hid (ListAt w3 la loa (valsE B.ad (entsO a))):=ListAt.kept hL2 (hb3.block _ hlt2)
  have HL3:Hid _:=hL3
  have HO2:Hid _:=hown2
  have HO3:Hid _:=hown3
  have HT2:Hid _:=hlt2
  have HT3:Hid _:=hlt3
  have HB2:Hid _:=hb2
  have HB3' : Hid _:=hb3
  have HTB:Hid _:=tb
  have HW1:Hid _:=hb1
  clear hL2 hL3 hown2 hown3 hlt2 hlt3 hb2 hb3 tb hb1 HL2 AP1 AP2 D4
  generalize (fileO a).map (fun d => B.ad (.file d)) = fa at *
  generalize (fileO b).map (fun d => B.ad (.file d)) = fb at *
  gi_wp2_with fail
  refine ⟨trivial,fun h => (by cases h),(callsIn_wide.2 MK.out).mono ?_⟩
  rintro e w3' ⟨rfl,hw'⟩
  obtain ⟨w3,rfl⟩ : ∃ w,w = w3':=⟨_,rfl⟩
  subst hw'
  have HJ3:Hid (J [] O w3):=(HL.out []).below h0 HW3.out
  have MID:Hid (Mid W w3 B a b la loa lb lob path l O):=by
   refine ⟨HB3.out,HL2'.out,HL3.out,?_,?_,?_⟩
   ·exact ((HB3'.out.block _ (Nat.lt_of_lt_of_le (Array.getElem?_eq_some_iff.1 HTB.out.1).1 HB2.out.size)).trans (HB2.out.block _ (Array.getElem?_eq_some_iff.1 HTB.out.1).1)).trans HTB.out.1
   ·exact ((HB3'.out.block _ (Nat.lt_of_lt_of_le (Array.getElem?_eq_some_iff.1 HTB.out.2.1).1 HB2.out.size)).trans (HB2.out.block _ (Array.getElem?_eq_some_iff.1 HTB.out.2.1).1)).trans HTB.out.2.1
   ·have hlO:=((HL.out []).lt O W h0).2
    have s1:=(Array.getElem?_eq_some_iff.1 HTB.out.2.1).1
    have s2:=HB2.out.size
    have s3:=HB3'.out.size
    have s0:=HW1.out.size
    have hown:∀ k,B.own k→k < w3.heap.size∧¬ O k:=fun k hk => by
     have:=HR.out k (.inr (.inr (.inr hk)))
     exact ⟨by omega,this.2.2⟩
    have t2:=HT2.out
    have t3:=HT3.out
    rintro k (rfl | rfl | rfl | rfl | hk)
    ·refine ⟨by omega,?_⟩
     rcases HO2.out with h | h
     ·exact (hown _ h).2
     ·exact fun h2 => by have:=hlO _ h2;omega
    ·refine ⟨by omega,?_⟩
     rcases HO3.out with h | h
     ·exact (hown _ h).2
     ·exact fun h2 => by have:=hlO _ h2;omega
    ·exact ⟨by omega,fun h2 => by have:=hlO _ h2;omega⟩
    ·exact ⟨by omega,fun h2 => by have:=hlO _ h2;omega⟩
    ·exact hown k hk
  have HT3' : Hid (Turn O W w3 O):=Turn.of_below HW3.out
  clear HL2' HL3 HO2 HO3 HT2 HT3 HB2 HB3' HTB HW1 HW2 HW3 HB3 MK JC HJ d5 l3
  by_cases hm:markT a b = 0
  ·have hm' : ((markT a b:Nat):Int) = 0:=by omega
   rw [hm']
   gi_wp2_with fail
   refine ⟨fun _ h => (by cases h),?_⟩
   gi_wp2_with fail
   refine ⟨trivial,fun h => (by cases h),(callsIn_wide.2 (pairs_any ⟨la,loa,none⟩ ⟨lb,lob,none⟩ w3)).mono ?_⟩
   rintro e w' ⟨rfl,rfl⟩
   gi_wp2
   have XS:Hid (chgS (n + 1) path a b = ([]:List (Str × Nat)) ++ (pairsT (entsO a) (entsO b)).flatMap fun p => chgS n (joinS path p.1) p.2.1 p.2.2):=by rw [Hid,chgS,if_neg HA.out,if_pos hm]
   have tb5:=two_blocks w3 (.cells #[.pointer (some ⟨la,loa,none⟩)] 151) (.cells #[.pointer (some ⟨lb,lob,none⟩)] 151)
   generalize hW5:(w3.alloc (.cells #[.pointer (some ⟨la,loa,none⟩)] 151)).alloc (.cells #[.pointer (some ⟨lb,lob,none⟩)] 151) = w5 at *
   have M5:Hid (Mid W w5 B a b la loa lb lob path l O):=MID.out.turn (Turn.of_below tb5.2.2)
   have T5:Hid (Turn O W w5 O):=HT3'.out.trans (Turn.of_below tb5.2.2)
   have HLT:Hid (∀ k,O k→k < w3.heap.size):=((HL.out ([]:List (Str × Nat))).lt O w3 HJ3.out).2
   have hsW:W.heap.size ≤ w5.heap.size:=T5.out.size
   have hs5:w3.heap.size + 2 ≤ w5.heap.size:=by rw [← hW5];simp
   clear hW5
   generalize hts:pairsT (entsO a) (entsO b) = ts at *
   have hxs:Hid (pairsL (valsE B.ad (entsO a)) (valsE B.ad (entsO b)) = ts.map fun p => (entO B.ad p.1 p.2.1,entO B.ad p.1 p.2.2)):=by rw [Hid,← hts];exact pairs_vals B.ad _ _ _ (Nat.le_refl _)
   have hmem:Hid (∀ p ∈ ts,(∀ t,p.2.1 = some t→(p.1,t) ∈ entsO a)∧(∀ t,p.2.2 = some t→∃ y,(y,t) ∈ entsO b∧p.1 = y)∧(p.2.1 = none→p.2.2 ≠ none)):=by rw [Hid,← hts];exact pairs_mem (Nat.le_refl _)
   generalize hps:pairsL (valsE B.ad (entsO a)) (valsE B.ad (entsO b)) = ps at *
   have sq:=pairs_seq w3.heap.size (w3.heap.size + 1) la loa lb lob _ _ w5 tb5.1 tb5.2.1 M5.out.lA M5.out.lB (forms_vals _ _) (forms_vals _ _)
   rw [hps] at sq
   refine range_boxed (m:=0) (gf:=107) (lb:=#[ptrV w3.heap.size,ptrV (w3.heap.size + 1)]) rfl (enters_of Tryz.func107 (by kernel_rfl) rfl)
    sq (fun _ => rfl) O ?hR
    (fun pre O1 V => J (([]:List (Str × Nat)) ++ (ts.take pre.length).flatMap fun p => chgS n (joinS path p.1) p.2.1 p.2.2) O1 V∧w5.heap.size ≤ V.heap.size) (fun pre => (HL.out _).mono hsW)
    ⟨?start,Nat.le_refl _⟩
    (fun t y b1 b2 => ((((t.setIfInBounds 52 (entV y.1)).setIfInBounds 53 (entV y.2)).setIfInBounds 11 (ptrV b1)).setIfInBounds 12 (ptrV b2))) ?assign ?body ?done
   case hR =>
    rintro k (rfl | rfl | rfl | rfl)
    ·exact ⟨by omega,fun h => by have:=HLT.out _ h;omega⟩
    ·exact ⟨by omega,fun h => by have:=HLT.out _ h;omega⟩
    ·exact M5.out.free _ (.inl rfl)
    ·exact M5.out.free _ (.inr (.inl rfl))
   case start =>
    have:=(HL.out ([]:List (Str × Nat))).below HJ3.out tb5.2.2
    simpa using this
   case assign =>
    intro l1 y V K hy hK
    rw [hxs.out,List.mem_map] at hy
    obtain ⟨q,_,rfl⟩:=hy
    rcases entO_form B.ad q.1 q.2.1 with e1 | ⟨k1,q1,e1⟩ <;> rcases entO_form B.ad q.1 q.2.2 with e2 | ⟨k2,q2,e2⟩
    all_goals
     simp only [e1,e2] at hK ⊢
     gi_wp2
     exact hK
   case body =>
    rintro l1 r pre y O1 b1 b2 V2 hl1' hpre k1 k2 hlr ⟨hJ2,hsz2⟩ ht2
    have hget:=prefix_get hpre
    rw [hxs.out,List.getElem?_map,Option.map_eq_some_iff] at hget
    obtain ⟨q,hq,rfl⟩:=hget
    have hqm:q ∈ ts:=List.mem_of_getElem? hq
    obtain ⟨m1,m2,m3⟩:=hmem.out q hqm
    have M2:Hid (Mid W V2 B a b la loa lb lob path l O1):=M5.out.turn ht2
    have c5:V2.cell? ⟨W.heap.size + 1,0,none⟩ = some (SV path):=(blk_cell M2.out.pbox 0).trans rfl
    have g1:V2.cell? ⟨b1,0,none⟩ = some (SV (entO B.ad q.1 q.2.1).1):=(blk_cell k1 0).trans rfl
    have g2:V2.cell? ⟨b1,1,none⟩ = some (entO B.ad q.1 q.2.1).2:=(blk_cell k1 1).trans rfl
    have g3:V2.cell? ⟨b2,0,none⟩ = some (SV (entO B.ad q.1 q.2.2).1):=(blk_cell k2 0).trans rfl
    have g4:V2.cell? ⟨b2,1,none⟩ = some (entO B.ad q.1 q.2.2).2:=(blk_cell k2 1).trans rfl
    have hone:∀ t,(entO B.ad q.1 t).2.oneCell' = true:=fun t => by rcases entO_form B.ad q.1 t with e | ⟨_,_,e⟩ <;> rw [e] <;> rfl
    have CC:Hid _:=changes_any (entO B.ad q.1 q.2.1) (entO B.ad q.1 q.2.2) path V2 (hone _) (hone _)
    have hchild:Hid (q.1 ≠ []∧q.1.length ≤ 8∧fitsT n q.2.1∧fitsT n q.2.2∧B.hasO q.2.1∧B.hasO q.2.2):=child_ok hfa hfb HC.out.ha HC.out.hb HC.out.bank m1 m2 m3
    have H2:Hid _:=And.intro hJ2 (And.intro hsz2 (And.intro ht2 (And.intro hpre (And.intro hq (And.intro hlr m3)))))
    clear hJ2 hsz2 ht2 hpre hlr m1 m2 m3 k1 k2 hone hqm
    simp only [List.setIfInBounds_toArray,List.set_cons_zero,List.set_cons_succ]
    gi_wp2_with fail
    refine ⟨trivial,(by first | rfl | (intro h;cases h)),(CallsIn.inRound l1 (callsIn_wide.2 CC.out)).mono ?_⟩
    rintro e w' ⟨rfl,rfl⟩
    gi_wp2
    have tb6:=three_blocks V2 (.cells #[SV (entO B.ad q.1 q.2.1).1,(entO B.ad q.1 q.2.1).2] 101) (.cells #[SV (entO B.ad q.1 q.2.2).1,(entO B.ad q.1 q.2.2).2] 101) (.cells #[SV path] 9)
    generalize hV3:((V2.alloc (.cells #[SV (entO B.ad q.1 q.2.1).1,(entO B.ad q.1 q.2.1).2] 101)).alloc (.cells #[SV (entO B.ad q.1 q.2.2).1,(entO B.ad q.1 q.2.2).2] 101)).alloc (.cells #[SV path] 9) = V3 at *
    have hs3:V2.heap.size + 3 ≤ V3.heap.size:=by rw [← hV3];simp
    clear hV3
    have M3:Hid (Mid W V3 B a b la loa lb lob path l O1):=M2.out.turn (Turn.of_below tb6.2.2.2)
    have hlt1:Hid (∀ k,O1 k→k < V2.heap.size):=((HL.out _).lt O1 V2 H2.out.1).2
    have sq2:=IH q.1 path q.2.1 q.2.2 V2.heap.size (V2.heap.size + 1) (V2.heap.size + 2) V3 ⟨M3.out.bank,hchild.out.2.2.2.2.1,hchild.out.2.2.2.2.2,tb6.1,tb6.2.1,tb6.2.2.1⟩ (by
     cases h1:q.2.1 with
     | some t => left;simp
     | none => right;exact H2.out.2.2.2.2.2.2 h1) (fun _ => hchild.out.1) hchild.out.2.1 hlong hchild.out.2.2.1 hchild.out.2.2.2.1
    have hl3:V3.heap[l1]? = some (.loop r):=(tb6.2.2.2.block _ (Array.getElem?_eq_some_iff.1 H2.out.2.2.2.2.2.1).1).trans H2.out.2.2.2.2.2.1
    have hs32:W.heap.size ≤ V3.heap.size:=by have:=H2.out.2.1;omega
    refine range_plain (m:=0) (α:=Str × Nat) hl3 (gf:=71) (lb:=#[ptrV V2.heap.size,ptrV (V2.heap.size + 1),ptrV (V2.heap.size + 2)]) rfl (enters_of Tryz.func71 (by kernel_rfl) rfl)
     sq2 (fun _ => rfl) O1 ?hR2
     (fun pre' O2 V => J ((([]:List (Str × Nat)) ++ (ts.take pre.length).flatMap fun p => chgS n (joinS path p.1) p.2.1 p.2.2) ++ pre') O2 V∧V3.heap.size ≤ V.heap.size) (fun pre' => (HL.out _).mono hs32)
     ⟨?start2,Nat.le_refl _⟩
     (fun t z => ((((t.setIfInBounds 58 (SV z.1)).setIfInBounds 59 (.int .u8 z.2)).setIfInBounds 13 (SV z.1)).setIfInBounds 14 (.int .u8 z.2))) ?assign2 ?body2 ?done2
    case hR2 =>
     rintro k (rfl | rfl | rfl | hk)
     ·exact ⟨by omega,fun h => by have:=hlt1.out _ h;omega⟩
     ·exact ⟨by omega,fun h => by have:=hlt1.out _ h;omega⟩
     ·exact ⟨by omega,fun h => by have:=hlt1.out _ h;omega⟩
     ·exact M3.out.free _ (.inr (.inr (.inr (.inr hk))))
    case start2 =>
     have:=(HL.out _).below H2.out.1 tb6.2.2.2
     simpa using this
    case assign2 =>
     intro l2 z V K hK
     gi_wp2
     exact hK
    case body2 =>
     rintro l2 pre' z O2 V4 hl2' hp' ⟨hJ4',hs4⟩ ht4'
     have cy4:V4.cell? ⟨W.heap.size,0,none⟩ = some (.func (.yield l) #[] #[]):=(blk_cell ((M3.out.turn ht4').ybox) 0).trans rfl
     have hpx:(([]:List (Str × Nat)) ++ (ts.take pre.length).flatMap fun p => chgS n (joinS path p.1) p.2.1 p.2.2) ++ pre' ++ [z] <+: chgS (n + 1) path a b:=by
      rw [XS.out]
      obtain ⟨rr,hrr⟩:=hp'
      have hlt:pre.length < ts.length:=(List.getElem?_eq_some_iff.1 H2.out.2.2.2.2.1).1
      have hqe:ts[pre.length] = q:=(List.getElem?_eq_some_iff.1 H2.out.2.2.2.2.1).2
      refine ⟨rr ++ (ts.drop (pre.length + 1)).flatMap fun p => chgS n (joinS path p.1) p.2.1 p.2.2,?_⟩
      conv => rhs;rw [← List.take_append_drop pre.length ts,List.drop_eq_getElem_cons hlt,hqe]
      rw [List.flatMap_append,List.flatMap_cons,← hrr]
      simp only [List.append_assoc]
     obtain ⟨fn2,tmps2,assign2,body2,hy2,hR2⟩:=HY.out _ z O2 V4 hJ4' hpx
     simp only [List.setIfInBounds_toArray,List.set_cons_zero,List.set_cons_succ]
     clear hpx
     gi_wp2
     refine ⟨(by first | rfl | (intro h;cases h)),(round_any hR2).mono ?_⟩
     clear hy2 hR2
     rintro e V5 ⟨rfl,O5,hJ5,ht5⟩
     have R5:Hid _:=And.intro hJ5 ht5
     clear hJ5 ht5
     gi_wp2
     exact ⟨O5,⟨by simpa using R5.out.1,Nat.le_trans hs4 R5.out.2.size⟩,R5.out.2⟩
    case done2 =>
     rintro O' V' ⟨hJ',hs'⟩ ht'
     have hlt:pre.length < ts.length:=(List.getElem?_eq_some_iff.1 H2.out.2.2.2.2.1).1
     have hqe:ts[pre.length] = q:=(List.getElem?_eq_some_iff.1 H2.out.2.2.2.2.1).2
     have RD:Hid (∃ O',(J (([]:List (Str × Nat)) ++ (ts.take (pre ++ [(entO B.ad q.1 q.2.1,entO B.ad q.1 q.2.2)]).length).flatMap fun p => chgS n (joinS path p.1) p.2.1 p.2.2) O' V'∧w5.heap.size ≤ V'.heap.size)∧Turn O1 V2 V' O'):=by
      refine ⟨O',⟨?_,by have:=H2.out.2.1;omega⟩,(Turn.of_below tb6.2.2.2).trans ht'⟩
      rw [List.length_append,List.length_singleton,List.take_succ_eq_append_getElem hlt,hqe,List.flatMap_append]
      simpa [List.append_assoc] using hJ'
     clear hJ' hs' ht'
     gi_wp2
     exact RD.out
   case done =>
    rintro D O' V' hD ⟨hJ',_⟩ hnD ht hdef
    have hJ2:=(HL.out _).put hJ' hnD (Nat.le_trans hsW hD) (.deferred none)
    have ht2:=T5.out.trans ht
    have hlen:ps.length = ts.length:=by rw [hxs.out];simp
    rw [hlen,List.take_length,← XS.out,← hpath] at hJ2
    gi_wp2
    refine ⟨by simp,.inl ⟨_,_,rfl,run_takeDeferred hdef,?_⟩⟩
    refine ⟨_,results_none rfl _ _ _,⟨_,rfl⟩,O',hJ2,?_⟩
    exact ⟨ht2.os,ht2.tape,ht2.output,by have:=ht2.size;simpa using this,fun k hk hno => (World.putObj_heap_other (by omega)).trans (ht2.blk k hk hno),ht2.own⟩
  ·have hmb:(((markT a b:Nat):Int) != 0) = true:=by simp;omega
   obtain ⟨fn,tmps,assign,body,hy,hR⟩:=HY.out [] (path,markT a b) O w3 HJ3.out (by rw [chgS,if_neg HA.out,if_neg hm];exact ⟨_,rfl⟩)
   have XS:Hid (chgS (n + 1) path a b = [(path,markT a b)] ++ (pairsT (entsO a) (entsO b)).flatMap fun p => chgS n (joinS path p.1) p.2.1 p.2.2):=by rw [Hid,chgS,if_neg HA.out,if_neg hm]
   generalize markT a b = mk at *
   gi_wp2
   refine ⟨fun h => (by cases h),(round_any hR).mono ?_⟩
   clear hy hR
   rintro e w4 ⟨rfl,O4,hJ4,ht4⟩
   have MID4:Hid (Mid W w4 B a b la loa lb lob path l O4):=MID.out.turn ht4
   have HJ4:Hid _:=hJ4
   have HT4:Hid _:=HT3'.out.trans ht4
   clear hJ4 ht4 MID HJ3 HT3'
   gi_wp2_with fail
   refine ⟨trivial,fun h => (by cases h),(callsIn_wide.2 (pairs_any ⟨la,loa,none⟩ ⟨lb,lob,none⟩ w4)).mono ?_⟩
   rintro e w' ⟨rfl,rfl⟩
   gi_wp2
   have tb5:=two_blocks w4 (.cells #[.pointer (some ⟨la,loa,none⟩)] 151) (.cells #[.pointer (some ⟨lb,lob,none⟩)] 151)
   generalize hW5:(w4.alloc (.cells #[.pointer (some ⟨la,loa,none⟩)] 151)).alloc (.cells #[.pointer (some ⟨lb,lob,none⟩)] 151) = w5 at *
   have M5:Hid (Mid W w5 B a b la loa lb lob path l O4):=MID4.out.turn (Turn.of_below tb5.2.2)
   have T5:Hid (Turn O W w5 O4):=HT4.out.trans (Turn.of_below tb5.2.2)
   have HLT:Hid (∀ k,O4 k→k < w4.heap.size):=((HL.out [(path,mk)]).lt O4 w4 HJ4.out).2
   have hsW:W.heap.size ≤ w5.heap.size:=T5.out.size
   have hs5:w4.heap.size + 2 ≤ w5.heap.size:=by rw [← hW5];simp
   clear hW5
   generalize hts:pairsT (entsO a) (entsO b) = ts at *
   have hxs:Hid (pairsL (valsE B.ad (entsO a)) (valsE B.ad (entsO b)) = ts.map fun p => (entO B.ad p.1 p.2.1,entO B.ad p.1 p.2.2)):=by rw [Hid,← hts];exact pairs_vals B.ad _ _ _ (Nat.le_refl _)
   have hmem:Hid (∀ p ∈ ts,(∀ t,p.2.1 = some t→(p.1,t) ∈ entsO a)∧(∀ t,p.2.2 = some t→∃ y,(y,t) ∈ entsO b∧p.1 = y)∧(p.2.1 = none→p.2.2 ≠ none)):=by rw [Hid,← hts];exact pairs_mem (Nat.le_refl _)
   generalize hps:pairsL (valsE B.ad (entsO a)) (valsE B.ad (entsO b)) = ps at *
   have sq:=pairs_seq w4.heap.size (w4.heap.size + 1) la loa lb lob _ _ w5 tb5.1 tb5.2.1 M5.out.lA M5.out.lB (forms_vals _ _) (forms_vals _ _)
   rw [hps] at sq
   refine range_boxed (m:=0) (gf:=107) (lb:=#[ptrV w4.heap.size,ptrV (w4.heap.size + 1)]) rfl (enters_of Tryz.func107 (by kernel_rfl) rfl)
    sq (fun _ => rfl) O4 ?hR
    (fun pre O1 V => J ([(path,mk)] ++ (ts.take pre.length).flatMap fun p => chgS n (joinS path p.1) p.2.1 p.2.2) O1 V∧w5.heap.size ≤ V.heap.size) (fun pre => (HL.out _).mono hsW)
    ⟨?start,Nat.le_refl _⟩
    (fun t y b1 b2 => ((((t.setIfInBounds 52 (entV y.1)).setIfInBounds 53 (entV y.2)).setIfInBounds 11 (ptrV b1)).setIfInBounds 12 (ptrV b2))) ?assign ?body ?done
   case hR =>
    rintro k (rfl | rfl | rfl | rfl)
    ·exact ⟨by omega,fun h => by have:=HLT.out _ h;omega⟩
    ·exact ⟨by omega,fun h => by have:=HLT.out _ h;omega⟩
    ·exact M5.out.free _ (.inl rfl)
    ·exact M5.out.free _ (.inr (.inl rfl))
   case start =>
    have:=(HL.out [(path,mk)]).below HJ4.out tb5.2.2
    simpa using this
   case assign =>
    intro l1 y V K hy hK
    rw [hxs.out,List.mem_map] at hy
    obtain ⟨q,_,rfl⟩:=hy
    rcases entO_form B.ad q.1 q.2.1 with e1 | ⟨k1,q1,e1⟩ <;> rcases entO_form B.ad q.1 q.2.2 with e2 | ⟨k2,q2,e2⟩
    all_goals
     simp only [e1,e2] at hK ⊢
     gi_wp2
     exact hK
   case body =>
    rintro l1 r pre y O1 b1 b2 V2 hl1' hpre k1 k2 hlr ⟨hJ2,hsz2⟩ ht2
    have hget:=prefix_get hpre
    rw [hxs.out,List.getElem?_map,Option.map_eq_some_iff] at hget
    obtain ⟨q,hq,rfl⟩:=hget
    have hqm:q ∈ ts:=List.mem_of_getElem? hq
    obtain ⟨m1,m2,m3⟩:=hmem.out q hqm
    have M2:Hid (Mid W V2 B a b la loa lb lob path l O1):=M5.out.turn ht2
    have c5:V2.cell? ⟨W.heap.size + 1,0,none⟩ = some (SV path):=(blk_cell M2.out.pbox 0).trans rfl
    have g1:V2.cell? ⟨b1,0,none⟩ = some (SV (entO B.ad q.1 q.2.1).1):=(blk_cell k1 0).trans rfl
    have g2:V2.cell? ⟨b1,1,none⟩ = some (entO B.ad q.1 q.2.1).2:=(blk_cell k1 1).trans rfl
    have g3:V2.cell? ⟨b2,0,none⟩ = some (SV (entO B.ad q.1 q.2.2).1):=(blk_cell k2 0).trans rfl
    have g4:V2.cell? ⟨b2,1,none⟩ = some (entO B.ad q.1 q.2.2).2:=(blk_cell k2 1).trans rfl
    have hone:∀ t,(entO B.ad q.1 t).2.oneCell' = true:=fun t => by rcases entO_form B.ad q.1 t with e | ⟨_,_,e⟩ <;> rw [e] <;> rfl
    have CC:Hid _:=changes_any (entO B.ad q.1 q.2.1) (entO B.ad q.1 q.2.2) path V2 (hone _) (hone _)
    have hchild:Hid (q.1 ≠ []∧q.1.length ≤ 8∧fitsT n q.2.1∧fitsT n q.2.2∧B.hasO q.2.1∧B.hasO q.2.2):=child_ok hfa hfb HC.out.ha HC.out.hb HC.out.bank m1 m2 m3
    have H2:Hid _:=And.intro hJ2 (And.intro hsz2 (And.intro ht2 (And.intro hpre (And.intro hq (And.intro hlr m3)))))
    clear hJ2 hsz2 ht2 hpre hlr m1 m2 m3 k1 k2 hone hqm
    simp only [List.setIfInBounds_toArray,List.set_cons_zero,List.set_cons_succ]
    gi_wp2_with fail
    refine ⟨trivial,(by first | rfl | (intro h;cases h)),(CallsIn.inRound l1 (callsIn_wide.2 CC.out)).mono ?_⟩
    rintro e w' ⟨rfl,rfl⟩
    gi_wp2
    have tb6:=three_blocks V2 (.cells #[SV (entO B.ad q.1 q.2.1).1,(entO B.ad q.1 q.2.1).2] 101) (.cells #[SV (entO B.ad q.1 q.2.2).1,(entO B.ad q.1 q.2.2).2] 101) (.cells #[SV path] 9)
    generalize hV3:((V2.alloc (.cells #[SV (entO B.ad q.1 q.2.1).1,(entO B.ad q.1 q.2.1).2] 101)).alloc (.cells #[SV (entO B.ad q.1 q.2.2).1,(entO B.ad q.1 q.2.2).2] 101)).alloc (.cells #[SV path] 9) = V3 at *
    have hs3:V2.heap.size + 3 ≤ V3.heap.size:=by rw [← hV3];simp
    clear hV3
    have M3:Hid (Mid W V3 B a b la loa lb lob path l O1):=M2.out.turn (Turn.of_below tb6.2.2.2)
    have hlt1:Hid (∀ k,O1 k→k < V2.heap.size):=((HL.out _).lt O1 V2 H2.out.1).2
    have sq2:=IH q.1 path q.2.1 q.2.2 V2.heap.size (V2.heap.size + 1) (V2.heap.size + 2) V3 ⟨M3.out.bank,hchild.out.2.2.2.2.1,hchild.out.2.2.2.2.2,tb6.1,tb6.2.1,tb6.2.2.1⟩ (by
     cases h1:q.2.1 with
     | some t => left;simp
     | none => right;exact H2.out.2.2.2.2.2.2 h1) (fun _ => hchild.out.1) hchild.out.2.1 hlong hchild.out.2.2.1 hchild.out.2.2.2.1
    have hl3:V3.heap[l1]? = some (.loop r):=(tb6.2.2.2.block _ (Array.getElem?_eq_some_iff.1 H2.out.2.2.2.2.2.1).1).trans H2.out.2.2.2.2.2.1
    have hs32:W.heap.size ≤ V3.heap.size:=by have:=H2.out.2.1;omega
    refine range_plain (m:=0) (α:=Str × Nat) hl3 (gf:=71) (lb:=#[ptrV V2.heap.size,ptrV (V2.heap.size + 1),ptrV (V2.heap.size + 2)]) rfl (enters_of Tryz.func71 (by kernel_rfl) rfl)
     sq2 (fun _ => rfl) O1 ?hR2
     (fun pre' O2 V => J (([(path,mk)] ++ (ts.take pre.length).flatMap fun p => chgS n (joinS path p.1) p.2.1 p.2.2) ++ pre') O2 V∧V3.heap.size ≤ V.heap.size) (fun pre' => (HL.out _).mono hs32)
     ⟨?start2,Nat.le_refl _⟩
     (fun t z => ((((t.setIfInBounds 58 (SV z.1)).setIfInBounds 59 (.int .u8 z.2)).setIfInBounds 13 (SV z.1)).setIfInBounds 14 (.int .u8 z.2))) ?assign2 ?body2 ?done2
    case hR2 =>
     rintro k (rfl | rfl | rfl | hk)
     ·exact ⟨by omega,fun h => by have:=hlt1.out _ h;omega⟩
     ·exact ⟨by omega,fun h => by have:=hlt1.out _ h;omega⟩
     ·exact ⟨by omega,fun h => by have:=hlt1.out _ h;omega⟩
     ·exact M3.out.free _ (.inr (.inr (.inr (.inr hk))))
    case start2 =>
     have:=(HL.out _).below H2.out.1 tb6.2.2.2
     simpa using this
    case assign2 =>
     intro l2 z V K hK
     gi_wp2
     exact hK
    case body2 =>
     rintro l2 pre' z O2 V4 hl2' hp' ⟨hJ4',hs4⟩ ht4'
     have cy4:V4.cell? ⟨W.heap.size,0,none⟩ = some (.func (.yield l) #[] #[]):=(blk_cell ((M3.out.turn ht4').ybox) 0).trans rfl
     have hpx:([(path,mk)] ++ (ts.take pre.length).flatMap fun p => chgS n (joinS path p.1) p.2.1 p.2.2) ++ pre' ++ [z] <+: chgS (n + 1) path a b:=by
      rw [XS.out]
      obtain ⟨rr,hrr⟩:=hp'
      have hlt:pre.length < ts.length:=(List.getElem?_eq_some_iff.1 H2.out.2.2.2.2.1).1
      have hqe:ts[pre.length] = q:=(List.getElem?_eq_some_iff.1 H2.out.2.2.2.2.1).2
      refine ⟨rr ++ (ts.drop (pre.length + 1)).flatMap fun p => chgS n (joinS path p.1) p.2.1 p.2.2,?_⟩
      conv => rhs;rw [← List.take_append_drop pre.length ts,List.drop_eq_getElem_cons hlt,hqe]
      rw [List.flatMap_append,List.flatMap_cons,← hrr]
      simp only [List.append_assoc]
     obtain ⟨fn2,tmps2,assign2,body2,hy2,hR2⟩:=HY.out _ z O2 V4 hJ4' hpx
     simp only [List.setIfInBounds_toArray,List.set_cons_zero,List.set_cons_succ]
     clear hpx
     gi_wp2
     refine ⟨(by first | rfl | (intro h;cases h)),(round_any hR2).mono ?_⟩
     clear hy2 hR2
     rintro e V5 ⟨rfl,O5,hJ5,ht5⟩
     have R5:Hid _:=And.intro hJ5 ht5
     clear hJ5 ht5
     gi_wp2
     exact ⟨O5,⟨by simpa using R5.out.1,Nat.le_trans hs4 R5.out.2.size⟩,R5.out.2⟩
    case done2 =>
     rintro O' V' ⟨hJ',hs'⟩ ht'
     have hlt:pre.length < ts.length:=(List.getElem?_eq_some_iff.1 H2.out.2.2.2.2.1).1
     have hqe:ts[pre.length] = q:=(List.getElem?_eq_some_iff.1 H2.out.2.2.2.2.1).2
     have RD:Hid (∃ O',(J ([(path,mk)] ++ (ts.take (pre ++ [(entO B.ad q.1 q.2.1,entO B.ad q.1 q.2.2)]).length).flatMap fun p => chgS n (joinS path p.1) p.2.1 p.2.2) O' V'∧w5.heap.size ≤ V'.heap.size)∧Turn O1 V2 V' O'):=by
      refine ⟨O',⟨?_,by have:=H2.out.2.1;omega⟩,(Turn.of_below tb6.2.2.2).trans ht'⟩
      rw [List.length_append,List.length_singleton,List.take_succ_eq_append_getElem hlt,hqe,List.flatMap_append]
      simpa [List.append_assoc] using hJ'
     clear hJ' hs' ht'
     gi_wp2
     exact RD.out
   case done =>
    rintro D O' V' hD ⟨hJ',_⟩ hnD ht hdef
    have hJ2:=(HL.out _).put hJ' hnD (Nat.le_trans hsW hD) (.deferred none)
    have ht2:=T5.out.trans ht
    have hlen:ps.length = ts.length:=by rw [hxs.out];simp
    rw [hlen,List.take_length,← XS.out,← hpath] at hJ2
    gi_wp2
    refine ⟨by simp,.inl ⟨_,_,rfl,run_takeDeferred hdef,?_⟩⟩
    refine ⟨_,results_none rfl _ _ _,⟨_,rfl⟩,O',hJ2,?_⟩
    exact ⟨ht2.os,ht2.tape,ht2.output,by have:=ht2.size;simpa using this,fun k hk hno => (World.putObj_heap_other (by omega)).trans (ht2.blk k hk hno),ht2.own⟩
 ·have AP1:Hid (∀ W',BankAt W' B→Calls Tryz.prog 73 #[(entO B.ad x a).2] W' fun e w' => ApartOut W' B a e w'):=fun W' h => apart_any B a x W' h HC.out.ha
  have AP2:Hid (∀ W',BankAt W' B→Calls Tryz.prog 73 #[(entO B.ad x b).2] W' fun e w' => ApartOut W' B b e w'):=fun W' h => apart_any B b x W' h HC.out.hb
  have D4:Hid (∀ W',Below W.heap.size W W'→W'.cell? ⟨x2,1,none⟩ = some (entO B.ad x b).2):=fun W' hb => (hb.cell (p:=⟨x2,1,none⟩) l2).trans d4
  generalize entO B.ad x a = ea at *
  generalize entO B.ad x b = eb at *
  obtain ⟨n1,v1⟩:=ea
  obtain ⟨n2,v2⟩:=eb
  simp only at *
  have hnb:(n1 == n2) = false:=by simp [hn]
  clear hn
  gi_wp2_with fail
  refine ⟨trivial,fun h => (by cases h),(callsIn_wide.2 JC.out).mono ?_⟩
  rintro e w' ⟨rfl,rfl⟩
  generalize hpath:joinS inside x = path at *
  gi_wp2_with fail
  have hb1:Below W.heap.size W ((W.alloc (yBox l)).alloc (.cells #[SV path] 9)):=((Below.refl _ _).alloc (Nat.le_refl _) _).alloc (by simp) _
  have tb:=two_blocks W (yBox l) (.cells #[SV path] 9)
  generalize hW1:(W.alloc (yBox l)).alloc (.cells #[SV path] 9) = W1 at *
  refine ⟨trivial,fun h => (by cases h),(callsIn_wide.2 (AP1.out W1 (HBk.out W1 hb1).bank)).mono ?_⟩
  rintro e w2 ⟨la,loa,rfl,hb2,hL2,hown2,hlt2⟩
  have d4':=D4.out w2 (hb1.trans (hb2.mono hb1.size))
  have HW2:Hid (Below W.heap.size W w2):=hb1.trans (hb2.mono hb1.size)
  have HL2:Hid _:=hL2
  gi_wp2_with fail
  refine ⟨trivial,fun h => (by cases h),(callsIn_wide.2 (AP2.out w2 (HBk.out w2 HW2.out).bank)).mono ?_⟩
  rintro e w3 ⟨lb,lob,rfl,hb3,hL3,hown3,hlt3⟩
  have HW3:Hid (Below W.heap.size W w3):=HW2.out.trans (hb3.mono HW2.out.size)
  have HB3:Hid (BankAt w3 B):=(HBk.out w3 HW3.out).bank
  have MK:Hid (Calls Tryz.prog 74 #[ptrO ((fileO a).map fun d => B.ad (.file d)),ptrO ((fileO b).map fun d => B.ad (.file d))] w3 fun e w' => e = .returned (.int .u8 (markT a b))∧w' = w3):=by
   have:=markOf_any _ _ w3 (file_block HB3.out HC.out.ha) (file_block HB3.out HC.out.hb)
   rw [mark_same HB3.out HC.out.ha HC.out.hb] at this
   exact this
  have cy:w3.cell? ⟨W.heap.size,0,none⟩ = some (.func (.yield l) #[] #[]):=(blk_cell (((hb3.block _ (Nat.lt_of_lt_of_le (Array.getElem?_eq_some_iff.1 tb.1).1 hb2.size)).trans (hb2.block _ (Array.getElem?_eq_some_iff.1 tb.1).1)).trans tb.1) 0).trans rfl
  have cp:w3.cell? ⟨W.heap.size + 1,0,none⟩ = some (SV path):=(blk_cell (((hb3.block _ (Nat.lt_of_lt_of_le (Array.getElem?_eq_some_iff.1 tb.2.1).1 hb2.size)).trans (hb2.block _ (Array.getElem?_eq_some_iff.1 tb.2.1).1)).trans tb.2.1) 0).trans rfl
  have HL2' : Hid (ListAt w3 la loa (valsE B.ad (entsO a))):=ListAt.kept hL2 (hb3.block _ hlt2)
  have HL3:Hid _:=hL3
  have HO2:Hid _:=hown2
  have HO3:Hid _:=hown3
  have HT2:Hid _:=hlt2
  have HT3:Hid _:=hlt3
  have HB2:Hid _:=hb2
  have HB3' : Hid _:=hb3
  have HTB:Hid _:=tb
  have HW1:Hid _:=hb1
  clear hL2 hL3 hown2 hown3 hlt2 hlt3 hb2 hb3 tb hb1 HL2 AP1 AP2 D4
  generalize (fileO a).map (fun d => B.ad (.file d)) = fa at *
  generalize (fileO b).map (fun d => B.ad (.file d)) = fb at *
  gi_wp2_with fail
  refine ⟨trivial,fun h => (by cases h),(callsIn_wide.2 MK.out).mono ?_⟩
  rintro e w3' ⟨rfl,hw'⟩
  obtain ⟨w3,rfl⟩ : ∃ w,w = w3':=⟨_,rfl⟩
  subst hw'
  have HJ3:Hid (J [] O w3):=(HL.out []).below h0 HW3.out
  have MID:Hid (Mid W w3 B a b la loa lb lob path l O):=by
   refine ⟨HB3.out,HL2'.out,HL3.out,?_,?_,?_⟩
   ·exact ((HB3'.out.block _ (Nat.lt_of_lt_of_le (Array.getElem?_eq_some_iff.1 HTB.out.1).1 HB2.out.size)).trans (HB2.out.block _ (Array.getElem?_eq_some_iff.1 HTB.out.1).1)).trans HTB.out.1
   ·exact ((HB3'.out.block _ (Nat.lt_of_lt_of_le (Array.getElem?_eq_some_iff.1 HTB.out.2.1).1 HB2.out.size)).trans (HB2.out.block _ (Array.getElem?_eq_some_iff.1 HTB.out.2.1).1)).trans HTB.out.2.1
   ·have hlO:=((HL.out []).lt O W h0).2
    have s1:=(Array.getElem?_eq_some_iff.1 HTB.out.2.1).1
    have s2:=HB2.out.size
    have s3:=HB3'.out.size
    have s0:=HW1.out.size
    have hown:∀ k,B.own k→k < w3.heap.size∧¬ O k:=fun k hk => by
     have:=HR.out k (.inr (.inr (.inr hk)))
     exact ⟨by omega,this.2.2⟩
    have t2:=HT2.out
    have t3:=HT3.out
    rintro k (rfl | rfl | rfl | rfl | hk)
    ·refine ⟨by omega,?_⟩
     rcases HO2.out with h | h
     ·exact (hown _ h).2
     ·exact fun h2 => by have:=hlO _ h2;omega
    ·refine ⟨by omega,?_⟩
     rcases HO3.out with h | h
     ·exact (hown _ h).2
     ·exact fun h2 => by have:=hlO _ h2;omega
    ·exact ⟨by omega,fun h2 => by have:=hlO _ h2;omega⟩
    ·exact ⟨by omega,fun h2 => by have:=hlO _ h2;omega⟩
    ·exact hown k hk
  have HT3' : Hid (Turn O W w3 O):=Turn.of_below HW3.out
  clear HL2' HL3 HO2 HO3 HT2 HT3 HB2 HB3' HTB HW1 HW2 HW3 HB3 MK JC HJ d5 l3
  by_cases hm:markT a b = 0
  ·have hm' : ((markT a b:Nat):Int) = 0:=by omega
   rw [hm']
   gi_wp2_with fail
   refine ⟨fun _ h => (by cases h),?_⟩
   gi_wp2_with fail
   refine ⟨trivial,fun h => (by cases h),(callsIn_wide.2 (pairs_any ⟨la,loa,none⟩ ⟨lb,lob,none⟩ w3)).mono ?_⟩
   rintro e w' ⟨rfl,rfl⟩
   gi_wp2
   have XS:Hid (chgS (n + 1) path a b = ([]:List (Str × Nat)) ++ (pairsT (entsO a) (entsO b)).flatMap fun p => chgS n (joinS path p.1) p.2.1 p.2.2):=by rw [Hid,chgS,if_neg HA.out,if_pos hm]
   have tb5:=two_blocks w3 (.cells #[.pointer (some ⟨la,loa,none⟩)] 151) (.cells #[.pointer (some ⟨lb,lob,none⟩)] 151)
   generalize hW5:(w3.alloc (.cells #[.pointer (some ⟨la,loa,none⟩)] 151)).alloc (.cells #[.pointer (some ⟨lb,lob,none⟩)] 151) = w5 at *
   have M5:Hid (Mid W w5 B a b la loa lb lob path l O):=MID.out.turn (Turn.of_below tb5.2.2)
   have T5:Hid (Turn O W w5 O):=HT3'.out.trans (Turn.of_below tb5.2.2)
   have HLT:Hid (∀ k,O k→k < w3.heap.size):=((HL.out ([]:List (Str × Nat))).lt O w3 HJ3.out).2
   have hsW:W.heap.size ≤ w5.heap.size:=T5.out.size
   have hs5:w3.heap.size + 2 ≤ w5.heap.size:=by rw [← hW5];simp
   clear hW5
   generalize hts:pairsT (entsO a) (entsO b) = ts at *
   have hxs:Hid (pairsL (valsE B.ad (entsO a)) (valsE B.ad (entsO b)) = ts.map fun p => (entO B.ad p.1 p.2.1,entO B.ad p.1 p.2.2)):=by rw [Hid,← hts];exact pairs_vals B.ad _ _ _ (Nat.le_refl _)
   have hmem:Hid (∀ p ∈ ts,(∀ t,p.2.1 = some t→(p.1,t) ∈ entsO a)∧(∀ t,p.2.2 = some t→∃ y,(y,t) ∈ entsO b∧p.1 = y)∧(p.2.1 = none→p.2.2 ≠ none)):=by rw [Hid,← hts];exact pairs_mem (Nat.le_refl _)
   generalize hps:pairsL (valsE B.ad (entsO a)) (valsE B.ad (entsO b)) = ps at *
   have sq:=pairs_seq w3.heap.size (w3.heap.size + 1) la loa lb lob _ _ w5 tb5.1 tb5.2.1 M5.out.lA M5.out.lB (forms_vals _ _) (forms_vals _ _)
   rw [hps] at sq
   refine range_boxed (m:=0) (gf:=107) (lb:=#[ptrV w3.heap.size,ptrV (w3.heap.size + 1)]) rfl (enters_of Tryz.func107 (by kernel_rfl) rfl)
    sq (fun _ => rfl) O ?hR
    (fun pre O1 V => J (([]:List (Str × Nat)) ++ (ts.take pre.length).flatMap fun p => chgS n (joinS path p.1) p.2.1 p.2.2) O1 V∧w5.heap.size ≤ V.heap.size) (fun pre => (HL.out _).mono hsW)
    ⟨?start,Nat.le_refl _⟩
    (fun t y b1 b2 => ((((t.setIfInBounds 52 (entV y.1)).setIfInBounds 53 (entV y.2)).setIfInBounds 11 (ptrV b1)).setIfInBounds 12 (ptrV b2))) ?assign ?body ?done
   case hR =>
    rintro k (rfl | rfl | rfl | rfl)
    ·exact ⟨by omega,fun h => by have:=HLT.out _ h;omega⟩
    ·exact ⟨by omega,fun h => by have:=HLT.out _ h;omega⟩
    ·exact M5.out.free _ (.inl rfl)
    ·exact M5.out.free _ (.inr (.inl rfl))
   case start =>
    have:=(HL.out ([]:List (Str × Nat))).below HJ3.out tb5.2.2
    simpa using this
   case assign =>
    intro l1 y V K hy hK
    rw [hxs.out,List.mem_map] at hy
    obtain ⟨q,_,rfl⟩:=hy
    rcases entO_form B.ad q.1 q.2.1 with e1 | ⟨k1,q1,e1⟩ <;> rcases entO_form B.ad q.1 q.2.2 with e2 | ⟨k2,q2,e2⟩
    all_goals
     simp only [e1,e2] at hK ⊢
     gi_wp2
     exact hK
   case body =>
    rintro l1 r pre y O1 b1 b2 V2 hl1' hpre k1 k2 hlr ⟨hJ2,hsz2⟩ ht2
    have hget:=prefix_get hpre
    rw [hxs.out,List.getElem?_map,Option.map_eq_some_iff] at hget
    obtain ⟨q,hq,rfl⟩:=hget
    have hqm:q ∈ ts:=List.mem_of_getElem? hq
    obtain ⟨m1,m2,m3⟩:=hmem.out q hqm
    have M2:Hid (Mid W V2 B a b la loa lb lob path l O1):=M5.out.turn ht2
    have c5:V2.cell? ⟨W.heap.size + 1,0,none⟩ = some (SV path):=(blk_cell M2.out.pbox 0).trans rfl
    have g1:V2.cell? ⟨b1,0,none⟩ = some (SV (entO B.ad q.1 q.2.1).1):=(blk_cell k1 0).trans rfl
    have g2:V2.cell? ⟨b1,1,none⟩ = some (entO B.ad q.1 q.2.1).2:=(blk_cell k1 1).trans rfl
    have g3:V2.cell? ⟨b2,0,none⟩ = some (SV (entO B.ad q.1 q.2.2).1):=(blk_cell k2 0).trans rfl
    have g4:V2.cell? ⟨b2,1,none⟩ = some (entO B.ad q.1 q.2.2).2:=(blk_cell k2 1).trans rfl
    have hone:∀ t,(entO B.ad q.1 t).2.oneCell' = true:=fun t => by rcases entO_form B.ad q.1 t with e | ⟨_,_,e⟩ <;> rw [e] <;> rfl
    have CC:Hid _:=changes_any (entO B.ad q.1 q.2.1) (entO B.ad q.1 q.2.2) path V2 (hone _) (hone _)
    have hchild:Hid (q.1 ≠ []∧q.1.length ≤ 8∧fitsT n q.2.1∧fitsT n q.2.2∧B.hasO q.2.1∧B.hasO q.2.2):=child_ok hfa hfb HC.out.ha HC.out.hb HC.out.bank m1 m2 m3
    have H2:Hid _:=And.intro hJ2 (And.intro hsz2 (And.intro ht2 (And.intro hpre (And.intro hq (And.intro hlr m3)))))
    clear hJ2 hsz2 ht2 hpre hlr m1 m2 m3 k1 k2 hone hqm
    simp only [List.setIfInBounds_toArray,List.set_cons_zero,List.set_cons_succ]
    gi_wp2_with fail
    refine ⟨trivial,(by first | rfl | (intro h;cases h)),(CallsIn.inRound l1 (callsIn_wide.2 CC.out)).mono ?_⟩
    rintro e w' ⟨rfl,rfl⟩
    gi_wp2
    have tb6:=three_blocks V2 (.cells #[SV (entO B.ad q.1 q.2.1).1,(entO B.ad q.1 q.2.1).2] 101) (.cells #[SV (entO B.ad q.1 q.2.2).1,(entO B.ad q.1 q.2.2).2] 101) (.cells #[SV path] 9)
    generalize hV3:((V2.alloc (.cells #[SV (entO B.ad q.1 q.2.1).1,(entO B.ad q.1 q.2.1).2] 101)).alloc (.cells #[SV (entO B.ad q.1 q.2.2).1,(entO B.ad q.1 q.2.2).2] 101)).alloc (.cells #[SV path] 9) = V3 at *
    have hs3:V2.heap.size + 3 ≤ V3.heap.size:=by rw [← hV3];simp
    clear hV3
    have M3:Hid (Mid W V3 B a b la loa lb lob path l O1):=M2.out.turn (Turn.of_below tb6.2.2.2)
    have hlt1:Hid (∀ k,O1 k→k < V2.heap.size):=((HL.out _).lt O1 V2 H2.out.1).2
    have sq2:=IH q.1 path q.2.1 q.2.2 V2.heap.size (V2.heap.size + 1) (V2.heap.size + 2) V3 ⟨M3.out.bank,hchild.out.2.2.2.2.1,hchild.out.2.2.2.2.2,tb6.1,tb6.2.1,tb6.2.2.1⟩ (by
     cases h1:q.2.1 with
     | some t => left;simp
     | none => right;exact H2.out.2.2.2.2.2.2 h1) (fun _ => hchild.out.1) hchild.out.2.1 hlong hchild.out.2.2.1 hchild.out.2.2.2.1
    have hl3:V3.heap[l1]? = some (.loop r):=(tb6.2.2.2.block _ (Array.getElem?_eq_some_iff.1 H2.out.2.2.2.2.2.1).1).trans H2.out.2.2.2.2.2.1
    have hs32:W.heap.size ≤ V3.heap.size:=by have:=H2.out.2.1;omega
    refine range_plain (m:=0) (α:=Str × Nat) hl3 (gf:=71) (lb:=#[ptrV V2.heap.size,ptrV (V2.heap.size + 1),ptrV (V2.heap.size + 2)]) rfl (enters_of Tryz.func71 (by kernel_rfl) rfl)
     sq2 (fun _ => rfl) O1 ?hR2
     (fun pre' O2 V => J ((([]:List (Str × Nat)) ++ (ts.take pre.length).flatMap fun p => chgS n (joinS path p.1) p.2.1 p.2.2) ++ pre') O2 V∧V3.heap.size ≤ V.heap.size) (fun pre' => (HL.out _).mono hs32)
     ⟨?start2,Nat.le_refl _⟩
     (fun t z => ((((t.setIfInBounds 58 (SV z.1)).setIfInBounds 59 (.int .u8 z.2)).setIfInBounds 13 (SV z.1)).setIfInBounds 14 (.int .u8 z.2))) ?assign2 ?body2 ?done2
    case hR2 =>
     rintro k (rfl | rfl | rfl | hk)
     ·exact ⟨by omega,fun h => by have:=hlt1.out _ h;omega⟩
     ·exact ⟨by omega,fun h => by have:=hlt1.out _ h;omega⟩
     ·exact ⟨by omega,fun h => by have:=hlt1.out _ h;omega⟩
     ·exact M3.out.free _ (.inr (.inr (.inr (.inr hk))))
    case start2 =>
     have:=(HL.out _).below H2.out.1 tb6.2.2.2
     simpa using this
    case assign2 =>
     intro l2 z V K hK
     gi_wp2
     exact hK
    case body2 =>
     rintro l2 pre' z O2 V4 hl2' hp' ⟨hJ4',hs4⟩ ht4'
     have cy4:V4.cell? ⟨W.heap.size,0,none⟩ = some (.func (.yield l) #[] #[]):=(blk_cell ((M3.out.turn ht4').ybox) 0).trans rfl
     have hpx:(([]:List (Str × Nat)) ++ (ts.take pre.length).flatMap fun p => chgS n (joinS path p.1) p.2.1 p.2.2) ++ pre' ++ [z] <+: chgS (n + 1) path a b:=by
      rw [XS.out]
      obtain ⟨rr,hrr⟩:=hp'
      have hlt:pre.length < ts.length:=(List.getElem?_eq_some_iff.1 H2.out.2.2.2.2.1).1
      have hqe:ts[pre.length] = q:=(List.getElem?_eq_some_iff.1 H2.out.2.2.2.2.1).2
      refine ⟨rr ++ (ts.drop (pre.length + 1)).flatMap fun p => chgS n (joinS path p.1) p.2.1 p.2.2,?_⟩
      conv => rhs;rw [← List.take_append_drop pre.length ts,List.drop_eq_getElem_cons hlt,hqe]
      rw [List.flatMap_append,List.flatMap_cons,← hrr]
      simp only [List.append_assoc]
     obtain ⟨fn2,tmps2,assign2,body2,hy2,hR2⟩:=HY.out _ z O2 V4 hJ4' hpx
     simp only [List.setIfInBounds_toArray,List.set_cons_zero,List.set_cons_succ]
     clear hpx
     gi_wp2
     refine ⟨(by first | rfl | (intro h;cases h)),(round_any hR2).mono ?_⟩
     clear hy2 hR2
     rintro e V5 ⟨rfl,O5,hJ5,ht5⟩
     have R5:Hid _:=And.intro hJ5 ht5
     clear hJ5 ht5
     gi_wp2
     exact ⟨O5,⟨by simpa using R5.out.1,Nat.le_trans hs4 R5.out.2.size⟩,R5.out.2⟩
    case done2 =>
     rintro O' V' ⟨hJ',hs'⟩ ht'
     have hlt:pre.length < ts.length:=(List.getElem?_eq_some_iff.1 H2.out.2.2.2.2.1).1
     have hqe:ts[pre.length] = q:=(List.getElem?_eq_some_iff.1 H2.out.2.2.2.2.1).2
     have RD:Hid (∃ O',(J (([]:List (Str × Nat)) ++ (ts.take (pre ++ [(entO B.ad q.1 q.2.1,entO B.ad q.1 q.2.2)]).length).flatMap fun p => chgS n (joinS path p.1) p.2.1 p.2.2) O' V'∧w5.heap.size ≤ V'.heap.size)∧Turn O1 V2 V' O'):=by
      refine ⟨O',⟨?_,by have:=H2.out.2.1;omega⟩,(Turn.of_below tb6.2.2.2).trans ht'⟩
      rw [List.length_append,List.length_singleton,List.take_succ_eq_append_getElem hlt,hqe,List.flatMap_append]
      simpa [List.append_assoc] using hJ'
     clear hJ' hs' ht'
     gi_wp2
     exact RD.out
   case done =>
    rintro D O' V' hD ⟨hJ',_⟩ hnD ht hdef
    have hJ2:=(HL.out _).put hJ' hnD (Nat.le_trans hsW hD) (.deferred none)
    have ht2:=T5.out.trans ht
    have hlen:ps.length = ts.length:=by rw [hxs.out];simp
    rw [hlen,List.take_length,← XS.out,← hpath] at hJ2
    gi_wp2
    refine ⟨by simp,.inl ⟨_,_,rfl,run_takeDeferred hdef,?_⟩⟩
    refine ⟨_,results_none rfl _ _ _,⟨_,rfl⟩,O',hJ2,?_⟩
    exact ⟨ht2.os,ht2.tape,ht2.output,by have:=ht2.size;simpa using this,fun k hk hno => (World.putObj_heap_other (by omega)).trans (ht2.blk k hk hno),ht2.own⟩
  ·have hmb:(((markT a b:Nat):Int) != 0) = true:=by simp;omega
   obtain ⟨fn,tmps,assign,body,hy,hR⟩:=HY.out [] (path,markT a b) O w3 HJ3.out (by rw [chgS,if_neg HA.out,if_neg hm];exact ⟨_,rfl⟩)
   have XS:Hid (chgS (n + 1) path a b = [(path,markT a b)] ++ (pairsT (entsO a) (entsO b)).flatMap fun p => chgS n (joinS path p.1) p.2.1 p.2.2):=by rw [Hid,chgS,if_neg HA.out,if_neg hm]
   generalize markT a b = mk at *
   gi_wp2
   refine ⟨fun h => (by cases h),(round_any hR).mono ?_⟩
   clear hy hR
   rintro e w4 ⟨rfl,O4,hJ4,ht4⟩
   have MID4:Hid (Mid W w4 B a b la loa lb lob path l O4):=MID.out.turn ht4
   have HJ4:Hid _:=hJ4
   have HT4:Hid _:=HT3'.out.trans ht4
   clear hJ4 ht4 MID HJ3 HT3'
   gi_wp2_with fail
   refine ⟨trivial,fun h => (by cases h),(callsIn_wide.2 (pairs_any ⟨la,loa,none⟩ ⟨lb,lob,none⟩ w4)).mono ?_⟩
   rintro e w' ⟨rfl,rfl⟩
   gi_wp2
   have tb5:=two_blocks w4 (.cells #[.pointer (some ⟨la,loa,none⟩)] 151) (.cells #[.pointer (some ⟨lb,lob,none⟩)] 151)
   generalize hW5:(w4.alloc (.cells #[.pointer (some ⟨la,loa,none⟩)] 151)).alloc (.cells #[.pointer (some ⟨lb,lob,none⟩)] 151) = w5 at *
   have M5:Hid (Mid W w5 B a b la loa lb lob path l O4):=MID4.out.turn (Turn.of_below tb5.2.2)
   have T5:Hid (Turn O W w5 O4):=HT4.out.trans (Turn.of_below tb5.2.2)
   have HLT:Hid (∀ k,O4 k→k < w4.heap.size):=((HL.out [(path,mk)]).lt O4 w4 HJ4.out).2
   have hsW:W.heap.size ≤ w5.heap.size:=T5.out.size
   have hs5:w4.heap.size + 2 ≤ w5.heap.size:=by rw [← hW5];simp
   clear hW5
   generalize hts:pairsT (entsO a) (entsO b) = ts at *
   have hxs:Hid (pairsL (valsE B.ad (entsO a)) (valsE B.ad (entsO b)) = ts.map fun p => (entO B.ad p.1 p.2.1,entO B.ad p.1 p.2.2)):=by rw [Hid,← hts];exact pairs_vals B.ad _ _ _ (Nat.le_refl _)
   have hmem:Hid (∀ p ∈ ts,(∀ t,p.2.1 = some t→(p.1,t) ∈ entsO a)∧(∀ t,p.2.2 = some t→∃ y,(y,t) ∈ entsO b∧p.1 = y)∧(p.2.1 = none→p.2.2 ≠ none)):=by rw [Hid,← hts];exact pairs_mem (Nat.le_refl _)
   generalize hps:pairsL (valsE B.ad (entsO a)) (valsE B.ad (entsO b)) = ps at *
   have sq:=pairs_seq w4.heap.size (w4.heap.size + 1) la loa lb lob _ _ w5 tb5.1 tb5.2.1 M5.out.lA M5.out.lB (forms_vals _ _) (forms_vals _ _)
   rw [hps] at sq
   refine range_boxed (m:=0) (gf:=107) (lb:=#[ptrV w4.heap.size,ptrV (w4.heap.size + 1)]) rfl (enters_of Tryz.func107 (by kernel_rfl) rfl)
    sq (fun _ => rfl) O4 ?hR
    (fun pre O1 V => J ([(path,mk)] ++ (ts.take pre.length).flatMap fun p => chgS n (joinS path p.1) p.2.1 p.2.2) O1 V∧w5.heap.size ≤ V.heap.size) (fun pre => (HL.out _).mono hsW)
    ⟨?start,Nat.le_refl _⟩
    (fun t y b1 b2 => ((((t.setIfInBounds 52 (entV y.1)).setIfInBounds 53 (entV y.2)).setIfInBounds 11 (ptrV b1)).setIfInBounds 12 (ptrV b2))) ?assign ?body ?done
   case hR =>
    rintro k (rfl | rfl | rfl | rfl)
    ·exact ⟨by omega,fun h => by have:=HLT.out _ h;omega⟩
    ·exact ⟨by omega,fun h => by have:=HLT.out _ h;omega⟩
    ·exact M5.out.free _ (.inl rfl)
    ·exact M5.out.free _ (.inr (.inl rfl))
   case start =>
    have:=(HL.out [(path,mk)]).below HJ4.out tb5.2.2
    simpa using this
   case assign =>
    intro l1 y V K hy hK
    rw [hxs.out,List.mem_map] at hy
    obtain ⟨q,_,rfl⟩:=hy
    rcases entO_form B.ad q.1 q.2.1 with e1 | ⟨k1,q1,e1⟩ <;> rcases entO_form B.ad q.1 q.2.2 with e2 | ⟨k2,q2,e2⟩
    all_goals
     simp only [e1,e2] at hK ⊢
     gi_wp2
     exact hK
   case body =>
    rintro l1 r pre y O1 b1 b2 V2 hl1' hpre k1 k2 hlr ⟨hJ2,hsz2⟩ ht2
    have hget:=prefix_get hpre
    rw [hxs.out,List.getElem?_map,Option.map_eq_some_iff] at hget
    obtain ⟨q,hq,rfl⟩:=hget
    have hqm:q ∈ ts:=List.mem_of_getElem? hq
    obtain ⟨m1,m2,m3⟩:=hmem.out q hqm
    have M2:Hid (Mid W V2 B a b la loa lb lob path l O1):=M5.out.turn ht2
    have c5:V2.cell? ⟨W.heap.size + 1,0,none⟩ = some (SV path):=(blk_cell M2.out.pbox 0).trans rfl
    have g1:V2.cell? ⟨b1,0,none⟩ = some (SV (entO B.ad q.1 q.2.1).1):=(blk_cell k1 0).trans rfl
    have g2:V2.cell? ⟨b1,1,none⟩ = some (entO B.ad q.1 q.2.1).2:=(blk_cell k1 1).trans rfl
    have g3:V2.cell? ⟨b2,0,none⟩ = some (SV (entO B.ad q.1 q.2.2).1):=(blk_cell k2 0).trans rfl
    have g4:V2.cell? ⟨b2,1,none⟩ = some (entO B.ad q.1 q.2.2).2:=(blk_cell k2 1).trans rfl
    have hone:∀ t,(entO B.ad q.1 t).2.oneCell' = true:=fun t => by rcases entO_form B.ad q.1 t with e | ⟨_,_,e⟩ <;> rw [e] <;> rfl
    have CC:Hid _:=changes_any (entO B.ad q.1 q.2.1) (entO B.ad q.1 q.2.2) path V2 (hone _) (hone _)
    have hchild:Hid (q.1 ≠ []∧q.1.length ≤ 8∧fitsT n q.2.1∧fitsT n q.2.2∧B.hasO q.2.1∧B.hasO q.2.2):=child_ok hfa hfb HC.out.ha HC.out.hb HC.out.bank m1 m2 m3
    have H2:Hid _:=And.intro hJ2 (And.intro hsz2 (And.intro ht2 (And.intro hpre (And.intro hq (And.intro hlr m3)))))
    clear hJ2 hsz2 ht2 hpre hlr m1 m2 m3 k1 k2 hone hqm
    simp only [List.setIfInBounds_toArray,List.set_cons_zero,List.set_cons_succ]
    gi_wp2_with fail
    refine ⟨trivial,(by first | rfl | (intro h;cases h)),(CallsIn.inRound l1 (callsIn_wide.2 CC.out)).mono ?_⟩
    rintro e w' ⟨rfl,rfl⟩
    gi_wp2
    have tb6:=three_blocks V2 (.cells #[SV (entO B.ad q.1 q.2.1).1,(entO B.ad q.1 q.2.1).2] 101) (.cells #[SV (entO B.ad q.1 q.2.2).1,(entO B.ad q.1 q.2.2).2] 101) (.cells #[SV path] 9)
    generalize hV3:((V2.alloc (.cells #[SV (entO B.ad q.1 q.2.1).1,(entO B.ad q.1 q.2.1).2] 101)).alloc (.cells #[SV (entO B.ad q.1 q.2.2).1,(entO B.ad q.1 q.2.2).2] 101)).alloc (.cells #[SV path] 9) = V3 at *
    have hs3:V2.heap.size + 3 ≤ V3.heap.size:=by rw [← hV3];simp
    clear hV3
    have M3:Hid (Mid W V3 B a b la loa lb lob path l O1):=M2.out.turn (Turn.of_below tb6.2.2.2)
    have hlt1:Hid (∀ k,O1 k→k < V2.heap.size):=((HL.out _).lt O1 V2 H2.out.1).2
    have sq2:=IH q.1 path q.2.1 q.2.2 V2.heap.size (V2.heap.size + 1) (V2.heap.size + 2) V3 ⟨M3.out.bank,hchild.out.2.2.2.2.1,hchild.out.2.2.2.2.2,tb6.1,tb6.2.1,tb6.2.2.1⟩ (by
     cases h1:q.2.1 with
     | some t => left;simp
     | none => right;exact H2.out.2.2.2.2.2.2 h1) (fun _ => hchild.out.1) hchild.out.2.1 hlong hchild.out.2.2.1 hchild.out.2.2.2.1
    have hl3:V3.heap[l1]? = some (.loop r):=(tb6.2.2.2.block _ (Array.getElem?_eq_some_iff.1 H2.out.2.2.2.2.2.1).1).trans H2.out.2.2.2.2.2.1
    have hs32:W.heap.size ≤ V3.heap.size:=by have:=H2.out.2.1;omega
    refine range_plain (m:=0) (α:=Str × Nat) hl3 (gf:=71) (lb:=#[ptrV V2.heap.size,ptrV (V2.heap.size + 1),ptrV (V2.heap.size + 2)]) rfl (enters_of Tryz.func71 (by kernel_rfl) rfl)
     sq2 (fun _ => rfl) O1 ?hR2
     (fun pre' O2 V => J (([(path,mk)] ++ (ts.take pre.length).flatMap fun p => chgS n (joinS path p.1) p.2.1 p.2.2) ++ pre') O2 V∧V3.heap.size ≤ V.heap.size) (fun pre' => (HL.out _).mono hs32)
     ⟨?start2,Nat.le_refl _⟩
     (fun t z => ((((t.setIfInBounds 58 (SV z.1)).setIfInBounds 59 (.int .u8 z.2)).setIfInBounds 13 (SV z.1)).setIfInBounds 14 (.int .u8 z.2))) ?assign2 ?body2 ?done2
    case hR2 =>
     rintro k (rfl | rfl | rfl | hk)
     ·exact ⟨by omega,fun h => by have:=hlt1.out _ h;omega⟩
     ·exact ⟨by omega,fun h => by have:=hlt1.out _ h;omega⟩
     ·exact ⟨by omega,fun h => by have:=hlt1.out _ h;omega⟩
     ·exact M3.out.free _ (.inr (.inr (.inr (.inr hk))))
    case start2 =>
     have:=(HL.out _).below H2.out.1 tb6.2.2.2
     simpa using this
    case assign2 =>
     intro l2 z V K hK
     gi_wp2
     exact hK
    case body2 =>
     rintro l2 pre' z O2 V4 hl2' hp' ⟨hJ4',hs4⟩ ht4'
     have cy4:V4.cell? ⟨W.heap.size,0,none⟩ = some (.func (.yield l) #[] #[]):=(blk_cell ((M3.out.turn ht4').ybox) 0).trans rfl
     have hpx:([(path,mk)] ++ (ts.take pre.length).flatMap fun p => chgS n (joinS path p.1) p.2.1 p.2.2) ++ pre' ++ [z] <+: chgS (n + 1) path a b:=by
      rw [XS.out]
      obtain ⟨rr,hrr⟩:=hp'
      have hlt:pre.length < ts.length:=(List.getElem?_eq_some_iff.1 H2.out.2.2.2.2.1).1
      have hqe:ts[pre.length] = q:=(List.getElem?_eq_some_iff.1 H2.out.2.2.2.2.1).2
      refine ⟨rr ++ (ts.drop (pre.length + 1)).flatMap fun p => chgS n (joinS path p.1) p.2.1 p.2.2,?_⟩
      conv => rhs;rw [← List.take_append_drop pre.length ts,List.drop_eq_getElem_cons hlt,hqe]
      rw [List.flatMap_append,List.flatMap_cons,← hrr]
      simp only [List.append_assoc]
     obtain ⟨fn2,tmps2,assign2,body2,hy2,hR2⟩:=HY.out _ z O2 V4 hJ4' hpx
     simp only [List.setIfInBounds_toArray,List.set_cons_zero,List.set_cons_succ]
     clear hpx
     gi_wp2
     refine ⟨(by first | rfl | (intro h;cases h)),(round_any hR2).mono ?_⟩
     clear hy2 hR2
     rintro e V5 ⟨rfl,O5,hJ5,ht5⟩
     have R5:Hid _:=And.intro hJ5 ht5
     clear hJ5 ht5
     gi_wp2
     exact ⟨O5,⟨by simpa using R5.out.1,Nat.le_trans hs4 R5.out.2.size⟩,R5.out.2⟩
    case done2 =>
     rintro O' V' ⟨hJ',hs'⟩ ht'
     have hlt:pre.length < ts.length:=(List.getElem?_eq_some_iff.1 H2.out.2.2.2.2.1).1
     have hqe:ts[pre.length] = q:=(List.getElem?_eq_some_iff.1 H2.out.2.2.2.2.1).2
     have RD:Hid (∃ O',(J ([(path,mk)] ++ (ts.take (pre ++ [(entO B.ad q.1 q.2.1,entO B.ad q.1 q.2.2)]).length).flatMap fun p => chgS n (joinS path p.1) p.2.1 p.2.2) O' V'∧w5.heap.size ≤ V'.heap.size)∧Turn O1 V2 V' O'):=by
      refine ⟨O',⟨?_,by have:=H2.out.2.1;omega⟩,(Turn.of_below tb6.2.2.2).trans ht'⟩
      rw [List.length_append,List.length_singleton,List.take_succ_eq_append_getElem hlt,hqe,List.flatMap_append]
      simpa [List.append_assoc] using hJ'
     clear hJ' hs' ht'
     gi_wp2
     exact RD.out
   case done =>
    rintro D O' V' hD ⟨hJ',_⟩ hnD ht hdef
    have hJ2:=(HL.out _).put hJ' hnD (Nat.le_trans hsW hD) (.deferred none)
    have ht2:=T5.out.trans ht
    have hlen:ps.length = ts.length:=by rw [hxs.out];simp
    rw [hlen,List.take_length,← XS.out,← hpath] at hJ2
    gi_wp2
    refine ⟨by simp,.inl ⟨_,_,rfl,run_takeDeferred hdef,?_⟩⟩
    refine ⟨_,results_none rfl _ _ _,⟨_,rfl⟩,O',hJ2,?_⟩
    exact ⟨ht2.os,ht2.tape,ht2.output,by have:=ht2.size;simpa using this,fun k hk hno => (World.putObj_heap_other (by omega)).trans (ht2.blk k hk hno),ht2.own⟩
end Go.Proofs.YtdcbgfhkfmohiaaGreatDoor
